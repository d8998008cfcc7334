import PyProof.Rows.All
import Wide.All
import OpenK.AllK
import Wide.FinOn
import Lean
import PyProof.EqAt
import PyProof.EqKinds
import PyProof.TupleCall
import PyProof.NeKinds
import PySem.Challenge.RW_lendrule_k25_all_that_is_needed_is_told
set_option Elab.async false
set_option linter.all false
set_option maxRecDepth 100000
noncomputable section
section
open PySem PySem.Spec PyProof.Rows
def Jw:=@List.findIdx?_eq_some_iff_getElem
def oR:=@PyProof.Rows.slot_tuple_getitem
def Jx:=@PyProof.Rows.callWith_builtin1
def Jy:=@List.eq_nil_of_length_eq_zero
def Jz:=@PySem.F.slot_dict_setdefault
def JA:=@F.args_tuple_iterator_next_1
def JB:=@F.entry_tuple_iterator_next
def mF:=@PyProof.Rows.callWith_type1
def wQ:=@F.slot_tuple_iterator_next
def JC:=@Calls.Name_function_global
def Cf:=@List.getD_eq_getElem?_getD
def iC:=@List.getElem?_append_right
def JD:=@wpAny_newFunctionEnv_cells
def gR:=@List.getElem?_append_left
def rM:=@List.getElem?_eq_none_iff
def dF:=@List.getElem?_eq_some_iff
def dG:=@List.getElem?_eq_getElem
def Cg:=@PySem.F.type_list_append
def Ci:=@PySem.F.args_tuple_add_2
def Cj:=@PySem.F.slot_list_append
def kC:=@AutoSeq1.wpAny_loadPart'
def Ck:=@Option.isSome_iff_exists
def jm:=@List.getElem?_replicate
def wR:=@Option.bind_eq_some_iff
def Cm:=@PySem.F.entry_tuple_add
def Cn:=@List.getElem?_cons_succ
def oS:=@PySem.F.plainAttrs_list
def kD:=@wpAny_callSpecial?_slot
def Co:=@F.plain_set_update_loop
def oT:=@List.take_of_length_le
def cD:=@Heap.get?_push_of_some
def Cp:=@PySem.F.slot_tuple_add
def Cq:=@Heap.get?_update_other
def jS:=@Option.map_eq_some_iff
def Cr:=@Calls.callWith_builtin
def b7:=@List.getElem?_set_self
def Cs:=@Obj.isFreed_of_fields
def jn:=@List.length_replicate
def mG:=@List.getElem?_eq_none
def kE:=@Nat.le_of_ble_eq_true
def wU:=@Heap.get?_update_self
def dH:=@List.mem_append_right
def wV:=@Array.getElem?_toList
def Ct:=@Bool.and_eq_true_iff
def Cu:=@Around.under_plainId
def cS:=@List.mem_of_getElem?
def bz:=@List.mem_cons_of_mem
def rN:=@List.getElem?_of_mem
def bE:=@List.getElem?_set_ne
def iD:=@List.mem_append_left
def rO:=@beq_eq_false_iff_ne
def rP:=@List.getElem?_range
def wW:=@Int.toNat_of_nonneg
def Cv:=@List.map_congr_left
def Cw:=@List.filterMap_cons
def ez:=@PySem.mem_of_lookup
def oU:=@Heap.SameBut.update
def d0:=@Heap.get?_push_size
def oV:=@Array.length_toList
def iE:=@Bool.false_ne_true
def oX:=@Obj.data_mapFields
def bF:=@List.length_append
def mH:=@wpAny_Call_Name_kw
def wX:=@List.mem_filterMap
def rQ:=@Int.emod_lt_of_pos
def Cy:=@List.mem_replicate
def jT:=@Nat.lt_of_le_of_lt
def bo:=@List.mem_cons_self
def cU:=@Nat.lt_of_lt_of_le
def Cz:=@tupleKind_room_in1
def CB:=@List.pairwise_cons
def cu:=@List.mem_singleton
def wY:=@List.reverse_cons
def jo:=@decide_eq_true_eq
def jq:=@wpAny_newObj_type
def oY:=@List.flatMap_cons
def CD:=@wpAny_pyIter_list
def CG:=@PassesOwn.leaving
def cm:=@List.getElem?_map
def fH:=@Int.toNat_natCast
def CH:=@Obj.cls_mapFields
def gk:=@List.append_assoc
def CI:=@List.nodup_append
def kG:=@wpAny_setState_of
def oZ:=@List.length_range
def CJ:=@Option.isSome_map
def jr:=@List.map_inj_left
def rV:=@Classical.not_not
def bI:=@List.size_toArray
def CK:=@Nat.lt_succ_of_lt
def rW:=@of_decide_eq_true
def jU:=@wpAny_truthy_bool
def kH:=@Around.in1_units
def aO:=@Bool.and_eq_true
def rX:=@List.length_drop
def wZ:=@List.getElem_mem
def CL:=@Nat.min_eq_right
def CM:=@noFill_tuple_add
def js:=@List.lookup_cons
def bt:=@List.length_cons
def CN:=@Nat.le_of_not_lt
def CP:=@wpAny_askSetting
def o8:=@List.length_take
def d3:=@List.not_mem_nil
def CQ:=@beq_self_eq_true
def eU:=@List.all_eq_true
def jt:=@wpAny_call_entry
def ju:=@List.mem_flatMap
def CS:=@Nat.lt_succ_self
def aQ:=@Option.bind_some
def CU:=@wpAny_isInstance
def CV:=@Option.getD_none
def CW:=@List.drop_length
def CY:=@wpAny_ite_split
def iG:=@List.length_nil
def gG:=@List.append_nil
def kJ:=@Int.emod_nonneg
def bM:=@Option.some.inj
def o9:=@List.find?_cons
def w5:=@wpAny_execs_nil
def iq:=@List.length_set
def gS:=@List.nil_append
def CZ:=@Nat.min_eq_left
def cW:=@List.mem_append
def aB:=@List.length_map
def pd:=@Option.map_some
def cM:=@List.map_append
def w6:=@codeAny_builtin
def mJ:=@wpAny_passesOwn
def eA:=@List.nodup_cons
def gT:=@List.mem_filter
def gn:=@decide_eq_false
def w9:=@List.of_mem_zip
def rY:=@Heap.size_push
def rZ:=@wpAny_setField
def gp:=@decide_eq_true
def e9:=@List.mem_range
def xb:=@List.nodup_nil
def aZ:=@List.mem_cons
def pe:=@Bool.and_true
def ph:=@List.any_cons
def fI:=@List.all_cons
def bX:=@List.map_cons
def jv:=@Nat.lt_irrefl
def xc:=@Paired.length
def kK:=@Prod.mk.injEq
def jV:=@wpAny_holding
def jW:=@Int.zero_add
def mK:=@codeAny_mono
def pj:=@Nat.le_of_eq
def pw:=@List.all_nil
def xf:=@Nat.succ_mul
def mM:=@Nat.le_of_lt
def xg:=@List.any_map
def xh:=@wpAny_typeOf
def bR:=@Heap.lt_size
def r9:=@List.map_nil
def sd:=@Nat.ne_of_gt
def gq:=@List.map_map
def cX:=@Nat.ne_of_lt
def cG:=@Nat.le_trans
def bN:=@List.mem_map
def jX:=@Nat.zero_add
def xi:=@IsRange.new
def bc:=@Nat.le_refl
def kL:=@wpAny_field
def gr:=@Nat.zero_le
def pz:=@call_meets
def av:=@wpAny_bind
def aN:=@wpAny_pure
def mN:=@wpAny_mono
def se:=@wpAny_rule
def bO:=@eq_of_beq
def d8:=@or_false
def dy:=@congrArg
def pA:=@if_false
def mO:=@if_true
def eE:=@Ne.symm
abbrev cQ:=Value->Shared->Prop
abbrev dQ:=Str->Option Value
abbrev cg:=List Value
abbrev mP:=Option Value
abbrev aj:=PySem.W.Frag
abbrev az:=PySem.Shared
abbrev aq:=PySem.Value
abbrev ae:=PySem.Addr
abbrev au:=PySem.Expr
abbrev aE:=PySem.Stmt
abbrev aW:=PySem.World
abbrev bY:=PySem.Around
abbrev bK:=PySem.Program
abbrev dN:=PySem.FuncData
end
namespace nu
end nu
section
namespace L2
open PySem PySem.Spec PyProof.Rows
abbrev cf:=Sum Int Str
inductive V where
  | cE | bl (b:Bool) | int (i:Int) | str (x:Str) | Wq (b:Array UInt8) | flt (b:UInt64) | ref (a:ae) | ty (n:String)
  deriving DecidableEq
def RelV:V->aq->Prop
  | .cE,u=>u=Value.none
  | .bl b,u=>u=Value.bool b
  | .int i,u=>∃t,u=Value.int i t
  | .str x,u=>∃t,u=Value.str x t
  | .Wq b,u=>∃t,u=Value.bytes b t
  | .flt b,u=>∃t,u=Value.float b t
  | .ref a,u=>u=Value.ref a
  | .ty n,u=>u=Value.type n
abbrev Vals:List V->cg->Prop:=Paired RelV
inductive HO where
  /-- a list -/
  | ao (xs:List V)
  /-- a tuple (never Z1) -/
  | aC (xs:List V)
  /-- a dict Wr keys are ints and Ws;one Wr keys are tuples of ints and Ws (Rn empty one is af2) -/
  | dK (kvs:List (cf×V)) | dT (xs:List (List cf×ae×aq))
  /-- a set of ints: aX Z2,aX size -/
  | set (S:Int->Bool) (n:Nat)
  /-- an instance of Rn class at C,aX dict at dx,aX SE -/
  | SF (C dx:ae) (fs:List (Str×V))
  /-- Rn dict of Rn instance at x -/
  | own (x:ae)
  /-- Rn dict of an VW -/
  | xd (fs:List (Str×V))
  /-- a bound method,f of x -/
  | met (f x:ae)
  /-- a range JE lo,lo+1,.. below hi -/
  | rng (lo hi:Int)
  /-- a Wt af3 is aeF to Rn JE (Rn abG;a dict while a loop aeG it): af4,never written while it is so -/
  | mj (o:Obj) (u:HO)
  /-- a code Wu table -/
  | zx (q:Str)
  /-- any other Wt,by what is true of aX one JE (a def of aeH own: af5 a S n:=HO.ext λh=>..) -/
  | ext (φ:Heap->Prop)
abbrev Hp:=ae->Option HO
def Rd(H:Hp)(a:ae)(u:HO):Prop:=H a=some u\/∃o,H a=some (.mj o u)
noncomputable def d9:List Str:=["arrivals","empties","needs","held"]
def iA(K:aj)(H:Hp)(a:ae)(xs:List V):Prop :=
  Rd H a (.aC xs) \/
    ∃(o:Obj) (aX:Array aq) (n:Nat),K.lookup a=some o/\o.cls=.type "tuple"/\o.data=.seq aX n/\aX.size<=sizeLine/\Vals xs aX.toList
def ql(K:aj)(H:Hp)(a:ae)(xs:List V):Prop :=
  Rd H a (.ao xs)\/∃(aX:cg) (n:Nat),K.lookup a=some {cls:=.type "list",data:=.seq aX.toArray n}/\aX.length<=sizeLine/\Vals xs aX
structure VX (K:aj) (C:ae):Prop where
  pg:W.plainGet K C Str.empty=true
  hd:W.hasDictIn K C=true
  po:W.plainOver K C=true
  sa:W.findIn K (.ref C) "__setattr__"=some (some (.builtin "object.__setattr__"))
def pB(K:aj)(C:ae)(f:Str):Prop:=W.findIn K (.ref C) f=some none
section
variable {X:Cx} {CX:ET} {k:Nat} {f C:ae} {fd:dN} {ps:List Str} {sp:Sp} {NV:List V} {ds:cg} {E:XK} {x m:Str} {p pos xj:Pos} {e o:au} {es:List au} {ta:TE} {t:TA}
structure Mk (K:aj) (C f:ae):Prop where
  makes:W.makesIn K C=true
  init:W.findIn K (.ref C) "__init__"=some (some (.ref f))
  fn:W.isFn K (.ref f)=true
  kp:W.keepIn K (.ref C)=true
end
structure dY (N P:List Str) (sc:Scope):Prop where
  kind:sc.kind=.function
  co:sc.isCoroutine=false
  gen:sc.isGenerator=false
  nd:N.Nodup
  pre:N.take P.length=P
  par:∀x∈P,sc.names.lookup x=some .local\/sc.names.lookup x=some .cell
  nofree:∀y∈sc.names,y.2≠.free
def i9(s:aE):Arguments:=match s with
  | .FunctionDef _ a _ _ _ _ _ _ _ _=>a
  | _=>{posonlyargs:=[],args:=[],vararg:=none,kwonlyargs:=[],kw_defaults:=[],kwarg:=none,defaults:=[]}
def cy(s:aE):List aE:=match s with
  | .FunctionDef _ _ b _ _ _ _ _ _ _=>b
  | _=>[]
noncomputable def aP(s:aE):Scope:=match s with
  | .FunctionDef _ _ _ _ _ _ sc _ _ _=>sc
  | _=>{kind:=.function,names:=[],isGenerator:=false,isCoroutine:=false}
structure C0 (K:aj) (x qual:Str) (st:aE) (f:ae) (fd:dN):Prop where
  ex:∃(oc:aq) (od:Option ae) (kV doc pm:aq) (an:Option ae) (dI ct:aq) (uM:Array mP),
    fd=W.fnOf x qual (i9 st) (cy st) (aP st) .none kV doc pm an dI ct/\K.lookup f=some ⟨oc,od,.func fd,uM⟩/\W.codeIn K dI qual=true
  kp:W.keepIn K (.ref f)=true
section
variable {P:bK} {w:aW} {K:aj} {mg:dQ} {base:Heap}
theorem JF{x qual:Str}{st:aE}{f:ae}{oc:aq}{od an:Option ae}{uM:Array mP}{kV doc pm dI ct:aq}(l:K.lookup f=some ⟨oc,od,.func (W.fnOf x qual (i9 st) (cy st) (aP st) .none kV doc pm an dI ct),uM⟩)
    (c:W.codeIn K dI qual=true) (k:W.keepIn K (.ref f)=true):C0 K x qual st f (W.fnOf x qual (i9 st) (cy st) (aP st) .none kV doc pm an dI ct):=⟨⟨oc,od,kV,doc,pm,an,dI,ct,uM,rfl,l,c⟩,k⟩
end
end L2
namespace L2.PL
open PySem PySem.Spec PyProof.Rows
inductive PV where
 | cE | bl (b:Bool) | int (i:Int) | str (x:Str) | aC (xs:List PV) | ao (xs:List PV)
mutual
def dh(K:aj)(F:Hp):PV->V->Prop
 | .cE,v=>v=.cE
 | .bl b,v=>v=.bl b
 | .int i,v=>v=.int i
 | .str x,v=>v=.str x
 | .aC ps,v=>∃a vs,v=.ref a/\iA K F a vs/\bj K F ps vs
 | .ao ps,v=>∃a vs,v=.ref a/\ql K F a vs/\bj K F ps vs
def bj(K:aj)(F:Hp):List PV->List V->Prop
 | [],vs=>vs=[]
 | p::ps,vs=>∃v r,vs=v::r/\dh K F p v/\bj K F ps r
end
section
variable {K:aj} {F F' H H':Hp}
theorem bj.nil:bj K F [] []:=by simp[bj]
theorem bj.cons{p:PV}{ps:List PV}{v:V}{vs:List V}(h:dh K F p v)(t:bj K F ps vs):bj K F (p::ps) (v::vs):=by
 simp only[bj];exact⟨v,vs,rfl,h,t⟩
theorem dC{v:V}:dh K F .cE v↔v=.cE:=by simp only[dh]
theorem bZ{b:Bool}{v:V}:dh K F (.bl b) v↔v=.bl b:=by simp only[dh]
theorem aM{i:Int}{v:V}:dh K F (.int i) v↔v=.int i:=by simp only[dh]
theorem cI{i:Str}{v:V}:dh K F (.str i) v↔v=.str i:=by simp only[dh]
theorem bH{ps:List PV}{v:V}:dh K F (.aC ps) v↔∃a vs,v=.ref a/\iA K F a vs/\bj K F ps vs:=by simp only[dh]
end
def ClsAt(K:aj)(C:Str)(cls:aq):Prop:=W.nsIn K mainGlobals C=some (some cls)
section
variable {X:Cx} {H₀ ab:Hp}
noncomputable def JG:cg:=[.type "ValueError",.type "Exception",.type "BaseException",.type "object"]
structure abH (K:aj) (C:ae):Prop where
 ga:W.findIn K (.ref C) "__getattribute__"=some (some (.builtin "BaseException.__getattribute__"))
 noHook:W.findIn K (.ref C) "__getattr__"=some none
 cl:W.findIn K (.ref C) "__class__"=some (some (.builtin "object.__class__"))
 get:W.specialIn K (.builtin "object.__class__") "__get__"=some (some (.builtin "getset_descriptor.__get__"))
 takes:W.takesIn K (.builtin "object.__class__")=some true
 obj:W.mroIn K C (.type "object")=some true
 af6:W.mroIn K C (.type "BaseException")=some true
def vq(K:aj)(C:Str):Prop:=∃Ca,ClsAt K C (.ref Ca)/\W.excIn K Ca JG "ValueError.__new__"=true/\abH K Ca
end
structure Pg where
 defs:List (Str×aE)
 cons:List (Str×PV)
 dR:List Str
 exc:List Str:=[]
 sub:List ((Str×Str)×Bool):=[]
 tabs:List (Str×List (Str×Str)):=[]
 own:List (Str×List Str):=[]
 bJ:List Str:=[]
 obs:List (Str×List Str):=[]
 cls:List (Str×aE):=[]
 flds:List Str:=[]
 gz:List (Str×List (Str×PV)):=[]
 ny:List Str:=[]
 Ro:List (Str×List Str):=[]
 dct:List (Str×List Str):=[]
 NW:List (Str×List Str):=[]
def params(st:aE):List Str:=(i9 st).args.map λa=>a.arg
def Wv:NameKind->Bool
 | .local=>true
 | .cell=>true
 | _=>false
def cq(st:aE):List Str:=params st++((aP st).names.filter λy=>Wv y.2&&!(params st).contains y.1).map λy=>y.1
structure JH (K:aj) (x:Str) (st:aE):Prop where
 ex:∃f fd,W.nsIn K mainGlobals x=some (some (.ref f))/\C0 K x x st f fd/\∀us:cg,us.length=(params st).length->bindArgs fd ⟨us,[]⟩=pure ((params st).zip us)
 sc:dY (cq st) (params st) (aP st)
def C1(K:aj)(C D:Str)(b:Bool):Prop:=∃cls dv,ClsAt K C cls/\(W.nsIn K mainGlobals D=some (some dv)\/(W.nsIn K mainGlobals D=some none/\bootBuiltins D=some dv/\D≠"__name__"))/\((∃Da,dv=.ref Da)\/∃T,dv=.type T)/\W.exmOne K cls dv=some b/\W.kitOne K cls dv=some b
theorem JI{K:aj}{C D:Str}{b:Bool}{cls:aq}{Da:ae}(a:W.nsIn K mainGlobals C=some (some cls))(d:W.nsIn K mainGlobals D=some (some (.ref Da)))(e:W.exmOne K cls (.ref Da)=some b)(k:W.kitOne K cls (.ref Da)=some b):C1 K C D b:=⟨cls,_,a,.inl d,.inl ⟨_,rfl⟩,e,k⟩
theorem JJ{K:aj}{C D:Str}{b:Bool}{cls:aq}{T:String}(a:W.nsIn K mainGlobals C=some (some cls))(d:W.nsIn K mainGlobals D=some none)(v:bootBuiltins D=some (.type T))(n:D≠"__name__")(e:W.exmOne K cls (.type T)=some b)(k:W.kitOne K cls (.type T)=some b):C1 K C D b:=⟨cls,_,a,.inr ⟨d,v,n⟩,.inr ⟨_,rfl⟩,e,k⟩
theorem Ww{K:aj}{C:Str}{Ca:ae}(a:W.nsIn K mainGlobals C=some (some (.ref Ca)))(q:W.excIn K Ca JG "ValueError.__new__"=true)(k1:W.findIn K (.ref Ca) "__getattribute__"=some (some (.builtin "BaseException.__getattribute__")))(k2:W.findIn K (.ref Ca) "__getattr__"=some none)
  (k3:W.findIn K (.ref Ca) "__class__"=some (some (.builtin "object.__class__"))) (k4:W.specialIn K (.builtin "object.__class__") "__get__"=some (some (.builtin "getset_descriptor.__get__"))) (k5:W.takesIn K (.builtin "object.__class__")=some true) (k6:W.mroIn K Ca (.type "object")=some true) (k7:W.mroIn K Ca (.type "BaseException")=some true):vq K C :=
 ⟨Ca,a,q,⟨k1,k2,k3,k4,k5,k6,k7⟩⟩
def G7(K:aj)(P:Params)(T:Str)(b8:List (Str×Str)):Prop :=
 ∃a es n,W.nsIn K mainGlobals T=some (some (.ref a))/\K.lookup a=some ⟨.type "dict",none,.dict es n,#[]⟩/\W.KeysLit P es.toList/\∀d∈b8,∃f,W.nsIn K a d.1=some (some (.ref f))/\W.nsIn K mainGlobals d.2=some (some (.ref f))
theorem abI{K:aj}{P:Params}{T:Str}{b8:List (Str×Str)}{a:ae}{es:Array DictEntry}{n:Nat}(h1:W.nsIn K mainGlobals T=some (some (.ref a)))(h2:K.lookup a=some ⟨.type "dict",none,.dict es n,#[]⟩)(h3:W.KeysLit P es.toList)
  (h4:∀d∈b8,∃f,W.nsIn K a d.1=some (some (.ref f))/\W.nsIn K mainGlobals d.2=some (some (.ref f))):G7 K P T b8:=⟨a,es,n,h1,h2,h3,h4⟩
noncomputable def flatIs:List PV->cg->Bool
 | [],[]=>true
 | .int i::r,.int j _::q=>(i==j)&&flatIs r q
 | .str x::r,.str y _::q=>(x==y)&&flatIs r q
 | .bl a::r,.bool b::q=>(a==b)&&flatIs r q
 | .cE::r,.none::q=>flatIs r q
 | _,_=>false
theorem nz{K:aj}:∀{ps:List PV} {us:cg},flatIs ps us=true->∃vs,Vals vs us/\∀F,bj K F ps vs
 | [],[],_=>⟨[],.nil,λ_=>.nil⟩
 | .int i::r,.int j t::q,h=>by
  simp only[flatIs,aO,beq_iff_eq]at h;obtain⟨vs,h1,h2⟩:=nz h.2;exact⟨.int i::vs,.cons ⟨t,by rw[h.1]⟩ h1,λF=>.cons (aM.mpr rfl) (h2 F)⟩
 | .str x::r,.str y t::q,h=>by
  simp only[flatIs,aO]at h;have e:=bO h.1;obtain⟨vs,h1,h2⟩:=nz h.2;exact⟨.str x::vs,.cons ⟨t,by rw[e]⟩ h1,λF=>.cons (cI.mpr rfl) (h2 F)⟩
 | .bl a::r,.bool b::q,h=>by
  simp only[flatIs,aO,beq_iff_eq]at h;obtain⟨vs,h1,h2⟩:=nz h.2;exact⟨.bl a::vs,.cons (by rw[h.1];rfl) h1,λF=>.cons (bZ.mpr rfl) (h2 F)⟩
 | .cE::r,.none::q,h=>by
  simp only[flatIs]at h;obtain⟨vs,h1,h2⟩:=nz h;exact⟨.cE::vs,.cons rfl h1,λF=>.cons (dC.mpr rfl) (h2 F)⟩
theorem NX{K:aj}{g:ae}{x:Str}{a:ae}{ps:List PV}{us:cg}{n:Nat}{dd:Option ae}{sl:Array mP}(h1:W.nsIn K g x=some (some (.ref a)))(h2:K.lookup a=some ⟨.type "tuple",dd,.seq us.toArray n,sl⟩)(h3:flatIs ps us=true)(h4:us.length<=100) :
  ∃u v,W.nsIn K g x=some (some u)/\RelV v u/\∀F,dh K F (.aC ps) v:=by
 obtain⟨vs,r,b⟩:=nz (K:=K) h3;exact⟨_,.ref a,h1,rfl,λF=>bH.mpr ⟨a,vs,rfl,.inr ⟨_,us.toArray,n,h2,rfl,rfl,by rw[bI];exact cG h4 (by decide),by simpa using r⟩,b F⟩⟩
theorem NY{K:aj}{g:ae}{x:Str}{y:Str}{t:Tok}(a:W.nsIn K g x=some (some (.str y t))):∃u v,W.nsIn K g x=some (some u)/\RelV v u/\∀F,dh K F (.str y) v:=⟨_,.str y,a,⟨t,rfl⟩,λF=>cI.mpr rfl⟩
def SG(K:aj)(C:Str)(st:aE)(flds:List Str):Prop:=∃Ca f fd,W.nsIn K mainGlobals C=some (some (.ref Ca))/\Mk K Ca f/\VX K Ca/\(∀g∈flds,pB K Ca g)/\C0 K "__init__" (C++".__init__") st f fd/\(∀us:cg,us.length=(params st).length->bindArgs fd ⟨us,[]⟩=pure ((params st).zip us))/\dY (cq st) (params st) (aP st)
def zy(K:aj)(P:Params)(T:Str)(b8:List (Str×PV)):Prop :=
 ∃a es n,W.nsIn K mainGlobals T=some (some (.ref a))/\K.lookup a=some ⟨.type "dict",none,.dict es n,#[]⟩/\W.KeysLit P es.toList/\∀d∈b8,∃u v,W.nsIn K a d.1=some (some u)/\RelV v u/\∀F,dh K F d.2 v
def SH(K:aj)(x:Str):Prop:=x∈d9/\∃c T,W.tabIn K x=some (c,T)/\W.codeHdIn K c T=true
def JK(K:aj):Prop:=∃bm o,W.nsIn K mainGlobals "__builtins__"=some (some (.ref bm))/\bm≠builtinsNs/\bm≠mainGlobals/\K.lookup bm=some o/\o.cls=.type "module"/\o.dict=some builtinsNs/\o.data=.plain
structure nA (K:aj) (h:Heap):Prop where
 at_:∀x∈d9,∀c T,W.tabIn K x=some (c,T)->W.codeHdIn K c T=true/\h.get? T=some {cls:=.none,data:=.fields #[]}/\K.lookup T=none
 nd:(d9.filterMap λx=>(W.tabIn K x).map (·.2)).Nodup
theorem nA.keeps{K:aj}{h h':Heap}(t:nA K h)(k:∀b o,h.get? b=some o->h'.get? b=some o):nA K h':=⟨λx hx c T e=>let ⟨h1,h2,h3⟩:=t.at_ x hx c T e;⟨h1,k _ _ h2,h3⟩,t.nd⟩
theorem NZ{K:aj}{g:ae}{x:Str}{i:Int}{t:Tok}(a:W.nsIn K g x=some (some (.int i t))):∃u v,W.nsIn K g x=some (some u)/\RelV v u/\∀F,dh K F (.int i) v:=⟨_,.int i,a,⟨t,rfl⟩,λF=>aM.mpr rfl⟩
structure JL (P:Pg) (w:aW) (K:aj):Prop where
 hd:∀d∈P.defs,JH K d.1 d.2
 hc:∀d∈P.cons,∃u v,W.nsIn K mainGlobals d.1=some (some u)/\RelV v u/\∀F,dh K F d.2 v
 hb:∀x∈P.dR,W.nsIn K mainGlobals x=some none
 he:∀C∈P.exc,vq K C
 hs:∀d∈P.sub,C1 K d.1.1 d.1.2 d.2
 ht:∀d∈P.tabs,G7 K w.params d.1 d.2
 hcl:∀d∈P.cls,SG K d.1 d.2 P.flds
 hct:∀d∈P.gz,zy K w.params d.1 d.2
 hlm:∀x∈P.ny,SH K x
 hbm:P.ny≠[]->JK K
noncomputable def JM:aq->List ae
 | .ref a=>[a]
 | _=>[]
def EU:Option Obj->List ae
 | some ⟨_,_,.dict es _,_⟩=>es.toList.flatMap λe=>JM e.val
 | some ⟨_,_,.func fd,_⟩=>JM fd.code
 | some ⟨_,_,.cls cd,_⟩=>cd.ns::cd.mro.flatMap JM
 | _=>[]
def fragOf(h:Heap):List ae->aj
 | []=>[]
 | a::r=>match h.get? a with
  | some o=>(a,o)::fragOf h r
  | none=>fragOf h r
theorem pC(h:Heap):∀as:List ae,(fragOf h as).In h
 | []=>λ_ _ e=>by cases e
 | a::r=>λb o e=>by
  unfold fragOf at e;split at e
  ·rename_i o' ho;rw[js]at e;cases z:b==a with
   | true =>
    rw[z]at e;cases e;rw[bO z];exact ho
   | false =>
    rw[z]at e;exact pC h r b o e
  ·exact pC h r b o e
def nsO:Option Obj->List ae
 | some ⟨_,_,.cls cd,_⟩=>[cd.ns]
 | _=>[]
def abK(h:Heap)(a:ae):List ae:=a::(EU (h.get? a)++(nsO (h.get? a)).flatMap λb=>(EU (h.get? b)).flatMap λc=>c::EU (h.get? c))
def fM(h:Heap):aj:=fragOf h (mainGlobals::(EU (h.get? mainGlobals)).flatMap (abK h))
noncomputable def chFn(K:aj)(x:Str):Option dN:=match W.nsIn K mainGlobals x with
 | some (some (.ref f))=>(match K.lookup f with
  | some ⟨_,_,.func fd,_⟩=>(match W.codeIn K fd.code x with
   | true=>some {fd with kwdefaults:=.none,doc:=.none,pyModule:=.none,annotations:=none,code:=.none,closureTuple:=.none}
   | false=>none)
  | _=>none)
 | _=>none
def nC(x:Str)(st:aE):dN:=W.fnOf x x (i9 st) (cy st) (aP st) .none .none .none .none none .none .none
theorem N0{K:aj}{x:Str}{st:aE}(h:chFn K x=some (nC x st)):∃f fd,W.nsIn K mainGlobals x=some (some (.ref f))/\C0 K x x st f fd:=by
 unfold chFn at h;split at h
 ·rename_i f hf;split at h
  ·rename_i oc od fd uM hl;split at h
   ·rename_i hc;have h:=bM h;obtain⟨a1,a2,a3,a4,a5,a6,a7,a8,a9,a10,a11,a12,a13,a14,a15⟩:=fd;unfold nC at h;simp only[FuncData.mk.injEq]at h;obtain⟨e1,e2,e3,e4,e5,e6,e7,e8,-,-,-,-,-,-,e15⟩:=h;subst e1 e2 e3 e4 e5 e6 e7 e8 e15;exact⟨f,_,hf,JF hl hc (by unfold W.keepIn;dsimp only;rw[hl])⟩
   ·cases h
  ·cases h
 ·cases h
def vt(K:aj)(g:ae)(d:Str×PV):Bool:=match W.nsIn K g d.1 with
 | some (some (.int j _))=>(match d.2 with | .int i=>i==j | _=>false)
 | some (some (.str y _))=>(match d.2 with | .str x=>x==y | _=>false)
 | some (some (.ref a))=>(match K.lookup a with
  | some ⟨.type t,_,.seq us _,_⟩=>(match d.2 with | .aC ps=>(t=="tuple")&&(flatIs ps us.toList&&decide (us.toList.length<=100)) | _=>false)
  | _=>false)
 | _=>false
theorem zA{K:aj}{g:ae}{x:Str}{p:PV}(h:vt K g (x,p)=true):∃u v,W.nsIn K g x=some (some u)/\RelV v u/\∀F,dh K F p v:=by
 unfold vt at h;dsimp only at h
 split at h
 ·rename_i j t hn;split at h
  ·rename_i i;obtain rfl:=bO h;exact NZ hn
  ·cases h
 ·rename_i y t hn;split at h
  ·rename_i i;obtain rfl:=bO h;exact NY hn
  ·cases h
 ·rename_i a hn;split at h
  ·rename_i t dd us n sl hl;split at h
   ·rename_i ps;rw[aO,aO]at h;obtain⟨h1,h2,h3⟩:=h;obtain rfl:=bO h1;obtain⟨us⟩:=us;exact NX hn hl h2 (rW h3)
   ·cases h
  ·cases h
 ·cases h
def zB(K:aj)(x:Str):Bool:=match W.nsIn K mainGlobals x with
 | some none=>true
 | _=>false
theorem JN{K:aj}{x:Str}(h:zB K x=true):W.nsIn K mainGlobals x=some none:=by
 unfold zB at h;split at h
 ·assumption
 ·cases h
abbrev OV:=Option mP
def zC(K:aj)(C:Str):Option (Bool×OV×OV×OV×OV×Option Bool×Option Bool×Option Bool):=match W.nsIn K mainGlobals C with
 | some (some (.ref a))=>some (W.excIn K a JG "ValueError.__new__",W.findIn K (.ref a) "__getattribute__",W.findIn K (.ref a) "__getattr__",W.findIn K (.ref a) "__class__",W.specialIn K (.builtin "object.__class__") "__get__",W.takesIn K (.builtin "object.__class__"),W.mroIn K a (.type "object"),W.mroIn K a (.type "BaseException"))
 | _=>none
noncomputable def sg:Option (Bool×OV×OV×OV×OV×Option Bool×Option Bool×Option Bool):=some (true,some (some (.builtin "BaseException.__getattribute__")),some none,some (some (.builtin "object.__class__")),some (some (.builtin "getset_descriptor.__get__")),some true,some true,some true)
theorem JO{K:aj}{C:Str}(h:zC K C=sg):vq K C:=by
 unfold zC sg at h;split at h
 ·rename_i a hn;have h:=bM h;simp only[kK]at h;obtain⟨h1,h2,h3,h4,h5,h6,h7,h8⟩:=h;exact Ww hn h1 h2 h3 h4 h5 h6 h7 h8
 ·cases h
noncomputable def zD(K:aj)(C D:Str):Option (Option Bool×Option Bool):=match W.nsIn K mainGlobals C with
 | some (some cls)=>(match W.nsIn K mainGlobals D with
  | some (some (.ref a))=>some (W.exmOne K cls (.ref a),W.kitOne K cls (.ref a))
  | some none=>(match bootBuiltins D with
   | some (.type T)=>(match decide (D="__name__")with
    | true=>none
    | false=>some (W.exmOne K cls (.type T),W.kitOne K cls (.type T)))
   | _=>none)
  | _=>none)
 | _=>none
theorem JP{K:aj}{C D:Str}{b:Bool}(h:zD K C D=some (some b,some b)):C1 K C D b:=by
 unfold zD at h;split at h
 ·rename_i cls hc;split at h
  ·rename_i a hd;have h:=bM h;rw[kK]at h;exact JI hc hd h.1 h.2
  ·rename_i hd;split at h
   ·rename_i T hT;split at h
    ·cases h
    ·rename_i hD;have h:=bM h;rw[kK]at h;exact JJ hc hd hT (of_decide_eq_false hD) h.1 h.2
   ·cases h
  ·cases h
 ·cases h
def EV(e:DictEntry):Option Str×Int:=(match e.key with
 | .str x _=>some x
 | _=>none,e.hash)
noncomputable def JQ(K:aj)(a:ae)(d:Str×Str):Bool:=match W.nsIn K a d.1,W.nsIn K mainGlobals d.2 with
 | some (some (.ref f)),some (some (.ref g))=>f==g
 | _,_=>false
def zE(K:aj)(T:Str)(b8:List (Str×Str)):Option (aq×Option ae×Array mP×List (Option Str×Int)×Bool):=match W.nsIn K mainGlobals T with
 | some (some (.ref a))=>(match K.lookup a with
  | some ⟨c,dd,.dict es _,sl⟩=>some (c,dd,sl,es.toList.map EV,b8.all (JQ K a))
  | _=>none)
 | _=>none
def sh(P:Params)(b8:List (Str×Str)):Option (aq×Option ae×Array mP×List (Option Str×Int)×Bool):=some (.type "dict",none,#[],b8.map (λd=>(some d.1,PyData.keyHash P d.1)),true)
theorem si{β:Type}{P:Params}:∀{es:List DictEntry} {b8:List (Str×β)},es.map EV=b8.map (λd=>(some d.1,PyData.keyHash P d.1))->W.KeysLit P es
 | [],_,_=>trivial
 | _::_,[],h=>by cases h
 | e::es,d::b8,h=>by
  rw[bX,bX,List.cons.injEq]at h;obtain⟨h1,h2⟩:=h;refine⟨?_,si h2⟩;unfold EV at h1;rw[kK]at h1;obtain⟨h3,h4⟩:=h1;split at h3
  ·rename_i x t hk;cases h3;exact⟨_,t,hk,h4⟩
  ·cases h3
theorem JR{K:aj}{a:ae}{d:Str×Str}(h:JQ K a d=true):∃f,W.nsIn K a d.1=some (some (.ref f))/\W.nsIn K mainGlobals d.2=some (some (.ref f)):=by
 unfold JQ at h;split at h
 ·rename_i f g h1 h2;obtain rfl:=bO h;exact⟨_,h1,h2⟩
 ·cases h
theorem JS{K:aj}{P:Params}{T:Str}{b8:List (Str×Str)}(h:zE K T b8=sh P b8):G7 K P T b8:=by
 unfold zE sh at h;split at h
 ·rename_i a hn;split at h
  ·rename_i c dd es n sl hl;have h:=bM h;simp only[kK]at h;obtain⟨rfl,rfl,rfl,h4,h5⟩:=h;exact abI hn hl (si h4) λd hd=>JR (eU.mp h5 d hd)
  ·cases h
 ·cases h
abbrev N1:=Option (aq×Option ae×Array mP×List (Option Str×Int)×Bool)
def sj(K:aj)(T:Str)(b8:List (Str×PV)):N1:=match W.nsIn K mainGlobals T with
 | some (some (.ref a))=>(match K.lookup a with
  | some ⟨c,dd,.dict es _,sl⟩=>some (c,dd,sl,es.toList.map EV,b8.all (vt K a))
  | _=>none)
 | _=>none
def nE(P:Params)(b8:List (Str×PV)):N1:=some (.type "dict",none,#[],b8.map (λd=>(some d.1,PyData.keyHash P d.1)),true)
theorem G8{K:aj}{P:Params}{T:Str}{b8:List (Str×PV)}(h:sj K T b8=nE P b8):zy K P T b8:=by
 unfold sj nE at h;split at h
 ·rename_i a hn;split at h
  ·rename_i c dd es n sl hl;have h:=bM h;simp only[kK]at h;obtain⟨rfl,rfl,rfl,h4,h5⟩:=h;exact⟨a,es,n,hn,hl,si h4,λd hd=>zA (eU.mp h5 d hd)⟩
  ·cases h
 ·cases h
noncomputable def C2(K:aj)(f:ae)(qual:Str):Option dN:=match K.lookup f with
 | some ⟨_,_,.func fd,_⟩=>(match W.codeIn K fd.code qual with
  | true=>some {fd with kwdefaults:=.none,doc:=.none,pyModule:=.none,annotations:=none,code:=.none,closureTuple:=.none}
  | false=>none)
 | _=>none
def JT(x qual:Str)(st:aE):dN:=W.fnOf x qual (i9 st) (cy st) (aP st) .none .none .none .none none .none .none
theorem G9{K:aj}{x qual:Str}{st:aE}{f:ae}(h:C2 K f qual=some (JT x qual st)):∃fd,C0 K x qual st f fd:=by
 unfold C2 at h;split at h
 ·rename_i oc od fd uM hl;split at h
  ·rename_i hc;have h:=bM h;obtain⟨a1,a2,a3,a4,a5,a6,a7,a8,a9,a10,a11,a12,a13,a14,a15⟩:=fd;unfold JT at h;simp only[FuncData.mk.injEq]at h;obtain⟨e1,e2,e3,e4,e5,e6,e7,e8,-,-,-,-,-,-,e15⟩:=h;subst e1 e2 e3 e4 e5 e6 e7 e8 e15;exact⟨_,JF hl hc (by unfold W.keepIn;dsimp only;rw[hl])⟩
  ·cases h
 ·cases h
abbrev SJ:=Option (Bool×OV×List OV×Option dN)
def zF(K:aj)(flds:List Str)(C:Str):SJ:=match W.nsIn K mainGlobals C with
 | some (some (.ref a))=>(match W.findIn K (.ref a) "__init__" with
  | some (some (.ref f))=>some (W.makesIn K a&&(W.isFn K (.ref f)&&(W.keepIn K (.ref a)&&(W.plainGet K a Str.empty&&(W.hasDictIn K a&&W.plainOver K a)))),W.findIn K (.ref a) "__setattr__",flds.map (λg=>W.findIn K (.ref a) g),C2 K f (C++".__init__"))
  | _=>none)
 | _=>none
def sk(flds:List Str)(C:Str)(st:aE):SJ:=some (true,some (some (.builtin "object.__setattr__")),flds.map (λ_=>some none),some (JT "__init__" (C++".__init__") st))
def xk:List Str->Bool
 | []=>true
 | x::r=>!r.contains x&&xk r
theorem vv:∀{l:List Str},xk l=true->l.Nodup
 | [],_=>xb
 | x::r,h=>by
  simp only[xk,aO,Bool.not_eq_true',List.contains_eq_mem,decide_eq_false_iff_not]at h;exact eA.mpr ⟨h.1,vv h.2⟩
def abM:Option NameKind->Bool
 | some .local=>true
 | some .cell=>true
 | _=>false
def Wx:NameKind->Bool
 | .free=>false
 | _=>true
def Wy:ScopeKind->Bool
 | .function=>true
 | _=>false
def N2(st:aE):Bool:=Wy (aP st).kind&&(!(aP st).isCoroutine&&(!(aP st).isGenerator&&(xk (cq st)&&((params st).all (λx=>abM ((aP st).names.lookup x))&&(aP st).names.all λy=>Wx y.2))))
theorem JU{st:aE}(h:N2 st=true):dY (cq st) (params st) (aP st):=by
 unfold N2 at h;rw[aO,aO,aO,aO,aO]at h;obtain⟨h1,h2,h3,h4,h5,h6⟩:=h;refine⟨?_,by simpa using h2,by simpa using h3,vv h4,?_,λx hx=>?_,λy hy=>?_⟩
 ·cases z:(aP st).kind<;>rw[z]at h1<;>first | rfl | cases h1
 ·unfold cq;exact List.take_left
 ·have k:=eU.mp h5 x hx;cases z:(aP st).names.lookup x with
  | none=>rw[z]at k;cases k
  | some b =>
   rw[z]at k;cases b<;>first | exact .inl rfl | exact .inr rfl | cases k
 ·have k:=eU.mp h6 y hy;intro z;rw[z]at k;cases k
def EW(P:Pg):Prop:=∀(kV doc pm:aq) (an:Option ae) (dI ct:aq) (u:Nat->aq),
 P.defs.map (λd=>bindArgs (W.fnOf d.1 d.1 (i9 d.2) (cy d.2) (aP d.2) .none kV doc pm an dI ct) ⟨(List.range (params d.2).length).map u,[]⟩)=P.defs.map λd=>pure ((params d.2).zip ((List.range (params d.2).length).map u))
theorem zG{us:cg}{n:Nat}(h:us.length=n):(List.range n).map (λi=>us.getD i .none)=us:=by
 subst h;apply List.ext_getElem
 ·simp
 ·intro i h1 h2;simp[Cf,h2]
theorem SK{K:aj}{x:Str}{st:aE}{f:ae}{fd:dN}{P:Pg}(hb:EW P)(hd:(x,st)∈P.defs)(F:C0 K x x st f fd)(us:cg)(hl:us.length=(params st).length):bindArgs fd ⟨us,[]⟩=pure ((params st).zip us):=by
 obtain⟨oc,od,kV,doc,pm,an,dI,ct,uM,rfl,lk,vw⟩:=F.ex;have k:=jr.mp (hb kV doc pm an dI ct λi=>us.getD i .none) (x,st) hd
 dsimp only at k
 rw[zG hl]at k;exact k
def N3(P:Pg):Prop:=∀(kV doc pm:aq) (an:Option ae) (dI ct:aq) (u:Nat->aq),
 P.cls.map (λd=>bindArgs (W.fnOf "__init__" (d.1++".__init__") (i9 d.2) (cy d.2) (aP d.2) .none kV doc pm an dI ct) ⟨(List.range (params d.2).length).map u,[]⟩)=P.cls.map λd=>pure ((params d.2).zip ((List.range (params d.2).length).map u))
theorem JV{K:aj}{P:Pg}{C:Str}{st:aE}(SM:N2 st=true)(hb:N3 P)(hd:(C,st)∈P.cls)(h:zF K P.flds C=sk P.flds C st):SG K C st P.flds:=by
 unfold zF sk at h;split at h
 ·rename_i a hn;split at h
  ·rename_i f hf;have h:=bM h;simp only[kK,aO]at h;obtain⟨⟨h1,h2,h3,h4,h5,h6⟩,h7,h8,h9⟩:=h;obtain⟨fd,F⟩:=G9 h9;refine⟨a,f,fd,hn,⟨h1,hf,h2,h3⟩,⟨h4,h5,h6,h7⟩,λg hg=>jr.mp h8 g hg,F,λus hl=>?_,JU SM⟩
   obtain⟨oc,od,kV,doc,pm,an,dI,ct,uM,rfl,lk,vw⟩:=F.ex;have k:=jr.mp (hb kV doc pm an dI ct λi=>us.getD i .none) (C,st) hd
   dsimp only at k
   rw[zG hl]at k;exact k
  ·cases h
 ·cases h
abbrev SN:=List (Option dN)×List (Option dN)×Bool×List (Option (Bool×OV×OV×OV×OV×Option Bool×Option Bool×Option Bool))×List (Option (Option Bool×Option Bool))×List N1×List SJ×List N1
def C3(K:aj)(h:Heap)(x:Str):Bool:=match W.tabIn K x with
 | none=>true
 | some (c,T)=>W.codeHdIn K c T&&((K.lookup T).isNone&&(match h.get? T with
  | some ⟨.none,none,.fields vs,sl⟩=>vs.isEmpty&&sl.isEmpty
  | _=>false))
noncomputable def SO(K:aj):Bool:=match W.nsIn K mainGlobals "__builtins__" with
 | some (some (.ref bm))=>!(bm==builtinsNs)&&(!(bm==mainGlobals)&&(match K.lookup bm with
  | some ⟨.type m,some d,.plain,_⟩=>(m=="module")&&(d==builtinsNs)
  | _=>false))
 | _=>false
def zH(P:Pg)(K:aj)(h:Heap):Bool:=d9.all (C3 K h)&&(decide (d9.filterMap λx=>(W.tabIn K x).map (·.2)).Nodup&&((P.ny.isEmpty || SO K)&&P.ny.all λx=>d9.contains x&&(W.tabIn K x).isSome))
theorem vx{K:aj}{h:Heap}{x:Str}{c T:ae}(e:C3 K h x=true)(t:W.tabIn K x=some (c,T)):W.codeHdIn K c T=true/\h.get? T=some {cls:=.none,data:=.fields #[]}/\K.lookup T=none:=by
 unfold C3 at e;rw[t]at e;simp only[aO]at e;obtain⟨h1,h2,h3⟩:=e;refine⟨h1,?_,by simpa using h2⟩
 split at h3
 ·rename_i vs sl z;rw[aO]at h3;rw[z];have e1:vs=#[]:=by simpa using h3.1
  have e2:sl=#[]:=by simpa using h3.2
  rw[e1,e2]
 ·cases h3
theorem N4{K:aj}(e:SO K=true):JK K:=by
 unfold SO at e;split at e
 ·rename_i bm hb;simp only[aO]at e;obtain⟨h1,h2,h3⟩:=e;split at h3
  ·rename_i m d sl z;rw[aO]at h3;obtain rfl:=bO h3.1;obtain rfl:=bO h3.2;exact⟨bm,_,hb,by simpa using h1,by simpa using h2,z,rfl,rfl,rfl⟩
  ·cases h3
 ·cases e
theorem JW{P:Pg}{K:aj}{h:Heap}(e:zH P K h=true):nA K h/\(∀x∈P.ny,SH K x)/\(P.ny≠[]->JK K):=by
 unfold zH at e;simp only[aO]at e;obtain⟨h1,h2,h3,h4⟩:=e;have all:=eU.mp h1;refine⟨⟨λx hx c T t=>vx (all x hx) t,rW h2⟩,λx hx=>?_,λz=>?_⟩
 ·have:=eU.mp h4 x hx;rw[aO]at this;have hm:x∈d9:=by simpa using this.1
  cases t:W.tabIn K x with
  | none=>rw[t]at this;cases this.2
  | some cT=>exact⟨hm,cT.1,cT.2,t,(vx (all x hm) t).1⟩
 ·rcases Bool.or_eq_true_iff.mp h3 with y | y
  ·exact absurd (List.isEmpty_iff.mp y) z
  ·exact N4 y
def C4(P:Pg)(K:aj)(hp:Heap):SN:=((P.defs.take 26).map (λd=>chFn K d.1),(P.defs.drop 26).map (λd=>chFn K d.1),P.cons.all (vt K mainGlobals)&&(P.dR.all (zB K)&&zH P K hp),P.exc.map (zC K),P.sub.map (λd=>zD K d.1.1 d.1.2),P.tabs.map (λd=>zE K d.1 d.2),P.cls.map (λd=>zF K P.flds d.1),P.gz.map λd=>sj K d.1 d.2)
def C5(P:Pg)(w:aW):SN:=((P.defs.take 26).map (λd=>some (nC d.1 d.2)),(P.defs.drop 26).map (λd=>some (nC d.1 d.2)),true,P.exc.map (λ_=>sg),P.sub.map (λd=>some (some d.2,some d.2)),P.tabs.map (λd=>sh w.params d.2),P.cls.map (λd=>sk P.flds d.1 d.2),P.gz.map λd=>nE w.params d.2)
theorem Ha{P:Pg}{w:aW}{K:aj}(SM:P.defs.all (λd=>N2 d.2)=true)(Wz:EW P)(JX:P.cls.all (λd=>N2 d.2)=true)(JY:N3 P){hp:Heap}(h:C4 P K hp=C5 P w):JL P w K/\nA K hp:=by
 unfold C4 C5 at h;simp only[kK]at h;obtain⟨h1,h0,h2,h3,h4,h5,h6,h7⟩:=h;rw[aO,aO]at h2;obtain⟨l1,l2,l3⟩:=JW h2.2.2;refine⟨⟨λd hd=>?_,λd hd=>zA (eU.mp h2.1 d hd),λx hx=>JN (eU.mp h2.2.1 x hx),λC hC=>JO (jr.mp h3 C hC),λd hd=>JP (jr.mp h4 d hd),λd hd=>JS (jr.mp h5 d hd),λd hd=>JV (eU.mp JX d hd) JY hd (jr.mp h6 d hd),λd hd=>G8 (jr.mp h7 d hd),l2,l3⟩,l1⟩
 have hh:chFn K d.1=some (nC d.1 d.2):=by
  have zI:=hd;rw[<-List.take_append_drop 26 P.defs]at zI;rcases cW.mp zI with z | z
  ·exact jr.mp h1 d z
  ·exact jr.mp h0 d z
 obtain⟨f,fd,a,F⟩:=N0 hh;exact⟨⟨f,fd,a,F,λus hl=>SK Wz hd F us hl⟩,JU (eU.mp SM d hd)⟩
theorem nF{α β γ:Type}{o:Option α}{f:α->β}{g:α->γ}{a:β}{b:γ}(h1:o.map f=some a)(h2:o.map g=some b):o.map (λs=>(f s,g s))=some (a,b):=by
 cases o with
 | none=>cases h1
 | some s=>cases h1;cases h2;rfl
def N5(P:Pg)(SM:P.defs.all (λd=>N2 d.2)=true)(Wz:EW P)(JX:P.cls.all (λd=>N2 d.2)=true)(JY:N3 P):W.Hook :=
 ⟨SN,λs=>C4 P (fM s.heap) s.heap,λw=>C5 P w,λw h=>∃K:aj,K.In h/\JL P w K/\nA K h,λw s e=>⟨_,pC _ _,Ha SM Wz JX JY e⟩,λ_ _ _ ⟨K,a,b,c⟩ k=>⟨K,a.keeps k,b,c.keeps k⟩⟩
def nG(p:bK)(row:String)(b:Bool)(N:Nat)(w:aW):Option az:=(W.fencedOpening treeTable p w N).bind λs₀=>W.topFrom treeTable p (w.withFollow row b) N s₀
theorem Hb{p q:bK}{loose:List Str}{Xt:az->Bool}{α:Type}{Yf:az->α}{Ya:aW->α}{N:Nat}{g0:Bool}(row:String)
  (h1:∀w,(nG p row false N w).map (W.openSeen q loose (importedModules p.main.body) Xt g0)=some (W.openGood q loose)) (h2:∀w,(nG p row true N w).map (W.openSeen q loose (importedModules p.main.body) Xt g0)=some (W.openGood q loose))
  (h3:∀w,(nG p row false N w).map Yf=some (Ya (w.withFollow row false))) (h4:∀w,(nG p row true N w).map Yf=some (Ya (w.withFollow row true))):W.LeftO p q loose Xt Yf Ya N g0:=by
 refine W.LeftO.of_split row λw=>?_
 obtain⟨sA,a1,a2⟩:=jS.mp (h1 w);obtain⟨sB,b1,b2⟩:=jS.mp (h2 w);obtain⟨sC,c1,c2⟩:=jS.mp (h3 w);obtain⟨sD,d1,d2⟩:=jS.mp (h4 w);rw[a1]at c1;rw[b1]at d1;cases c1;cases d1;obtain⟨s0,f0,tA⟩:=wR.mp a1;obtain⟨s1,f1,tB⟩:=wR.mp b1;rw[f0]at f1;cases f1;rw[f0,pd,tA,tB,pd,pd,a2,b2,c2,d2]
end L2.PL
namespace cz
open PySem L2 L2.PL nu
noncomputable def top(i:Nat):aE:=PySem.Challenge.pw_lendrule_k25_all_that_is_needed_is_told.main.body.getD i (.Pass ⟨0,0,0,0⟩)
abbrev zJ:aE:=top 5
abbrev nH:aE:=top 6
abbrev JZ:aE:=top 7
abbrev EX:aE:=top 8
abbrev qm:aE:=top 9
abbrev vy:aE:=top 12
abbrev qp:aE:=top 13
abbrev su:aE:=top 14
abbrev J0:aE:=top 16
abbrev C6:aE:=top 17
abbrev qr:aE:=top 29
abbrev J1:aE:=top 30
abbrev EY:aE:=top 31
abbrev vz:aE:=top 32
abbrev nI:aE:=top 33
abbrev EZ:aE:=top 34
abbrev ml:aE:=top 35
abbrev vA:aE:=top 36
abbrev kM:aE:=top 37
abbrev mn:aE:=top 38
abbrev sv:aE:=top 39
abbrev sx:aE:=top 40
abbrev qt:aE:=top 41
abbrev qu:aE:=top 42
abbrev qw:aE:=top 43
abbrev qx:aE:=top 44
abbrev qy:aE:=top 45
abbrev vB:aE:=top 46
abbrev qz:aE:=top 47
abbrev vC:aE:=top 48
abbrev vD:aE:=top 49
abbrev sy:aE:=top 50
abbrev qA:aE:=top 51
abbrev E1:aE:=top 54
abbrev nJ:aE:=top 55
abbrev qB:aE:=top 56
abbrev zK:aE:=top 57
abbrev kN:aE:=top 58
abbrev sE:aE:=top 60
abbrev zL:aE:=top 61
abbrev zM:aE:=top 62
abbrev zN:aE:=top 63
abbrev vE:aE:=top 64
abbrev zO:aE:=top 65
abbrev E2:aE:=top 66
abbrev zP:aE:=top 67
abbrev sG:aE:=top 68
abbrev sJ:aE:=top 69
abbrev sL:aE:=top 70
abbrev sM:aE:=top 71
abbrev E3:aE:=top 72
abbrev nK:aE:=top 73
abbrev J2:aE:=top 74
abbrev sN:aE:=top 75
abbrev zQ:aE:=top 76
abbrev sQ:aE:=top 77
abbrev lJ:aE:=top 78
abbrev nL:aE:=top 79
abbrev J3:aE:=top 80
def bq:Pg where
 defs:=(("leaves":Str),zJ)::(("check_part":Str),nH)::(("part":Str),JZ)::(("first":Str),EX)::(("is_copied":Str),qm)::(("kind_of":Str),vy)::(("is_holder":Str),qp)::(("shape_of":Str),su)::(("spread":Str),J0)::(("tell_new":Str),C6)::(("row_nexts":Str),qr)::(("acts":Str),J1)::(("nexts":Str),EY)::(("touched":Str),vz)::(("is_lending":Str),nI)::(("touch":Str),EZ)::(("touch_whole":Str),ml)::(("at_acts":Str),vA)::(("operand_acts":Str),kM)::(("target_acts":Str),mn)::(("put_acts":Str),sv)::(("set_acts":Str),sx)::(("copy_acts":Str),qt)::(("move_acts":Str),qu)::(("drop_acts":Str),qw)::(("lend_acts":Str),qx)::(("call_acts":Str),qy)::(("arg_act":Str),vB)::(("owner_act":Str),qz)::(("if_acts":Str),vC)::(("go_acts":Str),vD)::(("say_acts":Str),sy)::(("give_acts":Str),qA)::(("needs":Str),E1)::(("acts_ahead":Str),nJ)::(("needed_by":Str),qB)::(("handed":Str),zK)::(("needed_ahead":Str),kN)::(("_law_cell_at":Str),sE)::(("_law_mixed":Str),zL)::(("_law_names":Str),zM)::(("_law_shape":Str),zN)::(("_law_leaves":Str),vE)::(("_law_parts":Str),zO)::(("_law_lets":Str),E2)::(("_law_spots":Str),zP)::(("_law_numbers":Str),sG)::(("_law_operand":Str),sJ)::(("_law_carried":Str),sL)::(("_law_lending":Str),sM)::(("_law_call":Str),E3)::(("_law_small_row":Str),nK)::(("_law_row":Str),J2)::(("_law_program":Str),sN)::(("_law_whole":Str),zQ)::(("_law_is_fact":Str),sQ)::(("_law_itself":Str),lJ)::(("_law_right":Str),nL)::(("law":Str),J3)::[]
 cons:=[("HOLDER_WORDS",(.aC [(.str "lent"),(.str "sole")])),("ROW",(.int 0)),("ACT",(.int 1)),("NAME",(.int 2)),("THROUGH",(.int 3)),("FIRST",(.int 4)),("MANY",(.int 5)),("TAKER",(.int 6)),("REST",(.aC [(.str "rest"),(.str ""),(.bl false),(.int 0),(.int 0),(.str "")])),("HAND",(.aC [(.str "hand"),(.str ""),(.bl false),(.int 0),(.int 0),(.str "")])),("LENDING",(.aC [(.str "lend"),(.str "sole")]))]
 dR:=["bool","enumerate","int","isinstance","len","list","range","set","sorted","str","sum","tuple"]
 exc:=["NoPart","NoName"]
 sub:=[]
 tabs:=[("MAKERS",[("put","put_acts"),("set","set_acts"),("fill","put_acts"),("copy","copy_acts"),("move","move_acts"),("drop","drop_acts"),("lend","lend_acts"),("sole","lend_acts"),("call","call_acts"),("if","if_acts"),("go","go_acts"),("say","say_acts"),("give","give_acts")])]
 own:=[]
 bJ:=["_law_itself"]
 obs:=[]
 cls:=[]
 flds:=[]
 gz:=[]
 ny:=["needs"]
 Ro:=[("nexts",["firsts"])]
 dct:=[("_law_right",["_law_known"]),("_law_itself",["_law_known"])]
 NW:=[("acts_ahead",["told"]),("_law_right",["_law_ahead"])]
end cz
namespace cz
open PySem L2 L2.PL
theorem SM:bq.defs.all (λd=>N2 d.2)=true:=by kernel_rfl
theorem Wz:EW bq:=by
 intro kV doc pm an dI ct u;kernel_rfl
theorem JX:bq.cls.all (λd=>N2 d.2)=true:=by kernel_rfl
theorem JY:N3 bq:=by
 intro kV doc pm an dI ct u;kernel_rfl
def qv:bK:=W.view (W.OpenLaw.prog PySem.Challenge.rw_lendrule_k25_all_that_is_needed_is_told) [80]
noncomputable def lo:List Str:=(W.OpenLaw.prog PySem.Challenge.rw_lendrule_k25_all_that_is_needed_is_told).boundNames.filter (· != "law")
def Xt(s:az):Bool:=W.xlAt qv [] s&&W.recOk (W.RowW.records (W.OpenRow.toRowW (W.OpenLaw.row PySem.Challenge.rw_lendrule_k25_all_that_is_needed_is_told))) s
abbrev hk:W.Hook:=N5 bq SM Wz JX JY
theorem e1(w:aW):(nG (W.OpenLaw.prog PySem.Challenge.rw_lendrule_k25_all_that_is_needed_is_told) "special-get-raises" false 5000 w).map (W.openSeen qv lo (importedModules (W.OpenLaw.prog PySem.Challenge.rw_lendrule_k25_all_that_is_needed_is_told).main.body) Xt true)=some (W.openGood qv lo):=by kernel_rfl
theorem e2(w:aW):(nG (W.OpenLaw.prog PySem.Challenge.rw_lendrule_k25_all_that_is_needed_is_told) "special-get-raises" true 5000 w).map (W.openSeen qv lo (importedModules (W.OpenLaw.prog PySem.Challenge.rw_lendrule_k25_all_that_is_needed_is_told).main.body) Xt true)=some (W.openGood qv lo):=by kernel_rfl
theorem abN(w:aW):(nG (W.OpenLaw.prog PySem.Challenge.rw_lendrule_k25_all_that_is_needed_is_told) "special-get-raises" false 5000 w).map (λs:az=>(bq.defs.take 26).map (λd=>chFn (fM s.heap) d.1))=some ((bq.defs.take 26).map (λd=>some (nC d.1 d.2))):=by kernel_rfl
theorem abO(w:aW):(nG (W.OpenLaw.prog PySem.Challenge.rw_lendrule_k25_all_that_is_needed_is_told) "special-get-raises" false 5000 w).map (λs:az=>(bq.defs.drop 26).map (λd=>chFn (fM s.heap) d.1))=some ((bq.defs.drop 26).map (λd=>some (nC d.1 d.2))):=by kernel_rfl
theorem abP(w:aW):(nG (W.OpenLaw.prog PySem.Challenge.rw_lendrule_k25_all_that_is_needed_is_told) "special-get-raises" false 5000 w).map (λs:az=>(bq.cons.all (vt (fM s.heap) mainGlobals)&&(bq.dR.all (zB (fM s.heap))&&zH bq (fM s.heap) s.heap),bq.exc.map (zC (fM s.heap)),bq.sub.map (λd=>zD (fM s.heap) d.1.1 d.1.2),bq.tabs.map (λd=>zE (fM s.heap) d.1 d.2),bq.cls.map (λd=>zF (fM s.heap) bq.flds d.1),bq.gz.map λd=>sj (fM s.heap) d.1 d.2))=some ((true,bq.exc.map (λ_=>sg),bq.sub.map (λd=>some (some d.2,some d.2)),bq.tabs.map (λd=>sh (w.withFollow "special-get-raises" false).params d.2),bq.cls.map (λd=>sk bq.flds d.1 d.2),bq.gz.map λd=>nE (w.withFollow "special-get-raises" false).params d.2)):=by kernel_rfl
theorem e3(w:aW):(nG (W.OpenLaw.prog PySem.Challenge.rw_lendrule_k25_all_that_is_needed_is_told) "special-get-raises" false 5000 w).map (W.Hook.obs hk)=some (W.Hook.val hk (w.withFollow "special-get-raises" false)):=nF (abN w) (nF (abO w) (abP w))
theorem abQ(w:aW):(nG (W.OpenLaw.prog PySem.Challenge.rw_lendrule_k25_all_that_is_needed_is_told) "special-get-raises" true 5000 w).map (λs:az=>(bq.defs.take 26).map (λd=>chFn (fM s.heap) d.1))=some ((bq.defs.take 26).map (λd=>some (nC d.1 d.2))):=by kernel_rfl
theorem abR(w:aW):(nG (W.OpenLaw.prog PySem.Challenge.rw_lendrule_k25_all_that_is_needed_is_told) "special-get-raises" true 5000 w).map (λs:az=>(bq.defs.drop 26).map (λd=>chFn (fM s.heap) d.1))=some ((bq.defs.drop 26).map (λd=>some (nC d.1 d.2))):=by kernel_rfl
theorem abS(w:aW):(nG (W.OpenLaw.prog PySem.Challenge.rw_lendrule_k25_all_that_is_needed_is_told) "special-get-raises" true 5000 w).map (λs:az=>(bq.cons.all (vt (fM s.heap) mainGlobals)&&(bq.dR.all (zB (fM s.heap))&&zH bq (fM s.heap) s.heap),bq.exc.map (zC (fM s.heap)),bq.sub.map (λd=>zD (fM s.heap) d.1.1 d.1.2),bq.tabs.map (λd=>zE (fM s.heap) d.1 d.2),bq.cls.map (λd=>zF (fM s.heap) bq.flds d.1),bq.gz.map λd=>sj (fM s.heap) d.1 d.2))=some ((true,bq.exc.map (λ_=>sg),bq.sub.map (λd=>some (some d.2,some d.2)),bq.tabs.map (λd=>sh (w.withFollow "special-get-raises" true).params d.2),bq.cls.map (λd=>sk bq.flds d.1 d.2),bq.gz.map λd=>nE (w.withFollow "special-get-raises" true).params d.2)):=by kernel_rfl
theorem e4(w:aW):(nG (W.OpenLaw.prog PySem.Challenge.rw_lendrule_k25_all_that_is_needed_is_told) "special-get-raises" true 5000 w).map (W.Hook.obs hk)=some (W.Hook.val hk (w.withFollow "special-get-raises" true)):=nF (abQ w) (nF (abR w) (abS w))
theorem ws:W.OpenLaw.wellSaid PySem.Challenge.rw_lendrule_k25_all_that_is_needed_is_told=true:=by kernel_rfl
end cz
open PySem PySem.W PyProof.Rows PySem.Calls
set_option maxRecDepth 100000 in
set_option maxHeartbeats 0 in
theorem cz.fin(hc:∀d:DefRec,d.name="law"->d.params.defaults=[]->W.WalkO cz.qv cz.lo (XL cz.qv []) (Hook.says cz.hk) (W.OpenRow.toRowW (W.OpenLaw.row PySem.Challenge.rw_lendrule_k25_all_that_is_needed_is_told)) d [] (λf vs=>PySem.call f vs)):PySem.Challenge.rw_lendrule_k25_all_that_is_needed_is_told.Holds:=by
 w_on;refine W.holds_law cz.ws λage=>?_
 refine W.holds_open (q:=cz.qv) (loose:=cz.lo) (Xt:=cz.Xt) (XP:=XL cz.qv []) (Yf:=Hook.obs cz.hk) (Ya:=Hook.val cz.hk) (YP:=Hook.says cz.hk) (N:=5000) (L2.PL.Hb "special-get-raises" cz.e1 cz.e2 cz.e3 cz.e4) (Hook.of _) (Hook.keeps _) (λs e=>xl_of s (Ct.mp e).1) XL.keeps (by rfl) (by rfl) (by rfl) (λs e=>recFacts_of (Ct.mp e).2) (by rfl) (by first | assumption | decide +kernel) (by decide +kernel) ⟨rfl,rfl,rfl,rfl,rfl,by decide +kernel⟩ ?hw (hc _ rfl rfl)
 case hw=>w_witness2
end
namespace L2
open PySem PySem.Spec PyProof.Rows
def vF:cf->aq->Bool
  | .inl k,v=>Value.isInt k v
  | .inr x,v=>Value.isStrOf x v
def abT(w:aW):cf->Int
  | .inl k=>hashInt k
  | .inr x=>hashStr w x
theorem dO:∀{k:cf} {v:aq},vF k v=true->(∃i t,k=Sum.inl i/\v=Value.int i t)\/(∃x t,k=Sum.inr x/\v=Value.str x t)
  | .inl i,v,h=>by
    obtain⟨t,e⟩:=Value.isInt_shape (k:=i) (v:=v) h;exact .inl ⟨i,t,rfl,e⟩
  | .inr x,v,h=>by
    obtain⟨t,e⟩:=Value.isStrOf_shape (x:=x) (v:=v) h;exact .inr ⟨x,t,rfl,e⟩
theorem Hc(i:Int)(t:Tok):vF (.inl i) (.int i t)=true:=by simp[vF,Value.isInt]
theorem Hd(x:Str)(t:Tok):vF (.inr x) (.str x t)=true:=by simp[vF,Value.isStrOf]
theorem SQ(a b:Int):decide ((Sum.inl a:cf)=Sum.inl b)=(a==b):=by
  by_cases e:a=b
  · subst e;simp
  · have h:¬(Sum.inl a:cf)=Sum.inl b:=λq=>e (Sum.inl.inj q)
    rw[gn h];exact(rO.mpr e).symm
theorem SR(a b:Str):decide ((Sum.inr a:cf)=Sum.inr b)=decide (a=b):=by
  by_cases e:a=b
  · subst e;simp
  · have h:¬(Sum.inr a:cf)=Sum.inr b:=λq=>e (Sum.inr.inj q)
    rw[gn h,gn e]
theorem SS(a:Int)(b:Str):decide ((Sum.inl a:cf)=Sum.inr b)=false:=gn (λq=>nomatch q)
theorem SU(a:Str)(b:Int):decide ((Sum.inr a:cf)=Sum.inl b)=false:=gn (λq=>nomatch q)
def gf(prog:bK)(w:aW):PySem.KeyKind prog w cf where
  is:=vF
  hash:=abT w
  inj:=λv a b ha hb=>by
    rcases dO ha with⟨i,t,rfl,rfl⟩ | ⟨x,t,rfl,rfl⟩
    · rcases dO hb with⟨j,u,rfl,e⟩ | ⟨y,u,rfl,e⟩
      · injection e with e1 _;rw[e1]
      · exact nomatch e
    · rcases dO hb with⟨j,u,rfl,e⟩ | ⟨y,u,rfl,e⟩
      · exact nomatch e
      · injection e with e1 _;rw[e1]
  byValue:=λk v h=>by
    rcases dO h with⟨i,t,rfl,rfl⟩ | ⟨x,t,rfl,rfl⟩<;>rfl
  pyHash:=λhv h=>by
    rcases dO hv with⟨i,t,rfl,rfl⟩ | ⟨x,t,rfl,rfl⟩
    · exact wpAny_pyHash_int h
    · exact wpAny_pyHash_str h
  eqBool:=λhu hv h=>by
    rcases dO hu with⟨i,t,rfl,rfl⟩ | ⟨x,t,rfl,rfl⟩
    · rcases dO hv with⟨j,u,rfl,rfl⟩ | ⟨y,u,rfl,rfl⟩
      · rw[SQ]at h;exact wpAny_eqBool_int h
      · rw[SS]at h;exact SeqAt.EqAt.int_str i t y u _ _ _ _ h
    · rcases dO hv with⟨j,u,rfl,rfl⟩ | ⟨y,u,rfl,rfl⟩
      · rw[SU]at h;exact SeqAt.EqAt.str_int x t j u _ _ _ _ h
      · rw[SR]at h;exact wpAny_eqBool_str h
  «strs» := λk x t v h=>by
    rcases dO h with⟨i,u,rfl,e⟩ | ⟨y,u,rfl,e⟩
    · exact nomatch e
    · injection e with e1 _
      subst e1;cases v<;>rfl
theorem zR(prog:bK)(w:aW)(i:Int)(t:Tok):(gf prog w).is (.inl i) (.int i t)=true:=Hc i t
theorem zS(prog:bK)(w:aW)(x:Str)(t:Tok):(gf prog w).is (.inr x) (.str x t)=true:=Hd x t
theorem Vals.length{xs:List V}{us:cg}(r:Vals xs us):xs.length=us.length:=xc r
theorem Vals.get:∀{xs:List V} {us:cg} {i:Nat} {x:V},Vals xs us->xs[i]?=some x->∃u,us[i]?=some u/\RelV x u
  | _,_,_,_,.nil,e=>by simp at e
  | _,_,0,_,.cons r _,e=>by simp at e;subst e;exact⟨_,rfl,r⟩
  | _,_,i+1,x,.cons _ t,e=>by
    obtain⟨u,h1,h2⟩:=Vals.get (i:=i) (x:=x) t (by simpa using e)
    exact⟨u,by simpa using h1,h2⟩
theorem Vals.append:∀{xs ys:List V} {us ws:cg},Vals xs us->Vals ys ws->Vals (xs++ys) (us++ws)
  | _,_,_,_,.nil,s=>s
  | _,_,_,_,.cons r t,s=>.cons r (Vals.append t s)
theorem Vals.take:∀{xs:List V} {us:cg} (n:Nat),Vals xs us->Vals (xs.take n) (us.take n)
  | _,_,0,_=>.nil
  | _,_,_+1,.nil=>.nil
  | _,_,n+1,.cons r t=>.cons r (Vals.take n t)
theorem Vals.drop:∀{xs:List V} {us:cg} (n:Nat),Vals xs us->Vals (xs.drop n) (us.drop n)
  | _,_,0,r=>r
  | _,_,_+1,.nil=>.nil
  | _,_,n+1,.cons _ t=>Vals.drop n t
def He:Option V->mP->Prop
  | some v,some u=>RelV v u
  | none,none=>True
  | _,_=>False
def KV{κ:Type}:List (κ×V)->List (κ×aq)->Prop:=Paired fun(p:κ×V) (q:κ×aq)=>p.1=q.1/\RelV p.2 q.2
def kV:cf->V
  | .inl i=>.int i
  | .inr x=>.str x
def upd(H:Hp)(a:ae)(o:HO):Hp:=λb=>if b=a then some o else H b
theorem aI{H:Hp}{a:ae}{o:HO}:upd H a o a=some o:=by unfold upd;rw[if_pos rfl]
theorem upd_ne{H:Hp}{a b:ae}{o:HO}(h:b≠a):upd H a o b=H b:=by unfold upd;rw[if_neg h]
theorem xl{H:Hp}{a:ae}{o u:HO}:upd (upd H a o) a u=upd H a u:=by
  funext b;unfold upd;split<;>rfl
theorem J4{H:Hp}{a b:ae}{o u:HO}(h:H a=some o)(h':H b=some u)(d:o≠u):a≠b:=by
  intro e;subst e;rw[h]at h';exact d (bM h')
theorem ne_of_none{H:Hp}{a b:ae}{o:HO}(h:H a=some o)(h':H b=none):a≠b:=by
  intro e;subst e;rw[h]at h';cases h'
section
variable (P:bK) (w:aW)
def ee(H:Hp)(h:Heap)(a:ae):HO->Prop
  | .ao xs=>xs.length<=sizeLine/\∃(aX:cg) (n:Nat),Vals xs aX/\h.get? a=some {cls:=.type "list",data:=.seq aX.toArray n}
  | .aC xs=>xs.length<=sizeLine/\∃aX:cg,Vals xs aX/\IsTup h a aX.toArray
  | .dK kvs=>kvs.length<=sizeLine/\(a==sysModules)=false/\∃vs,KV kvs vs/\h.DictOf (gf P w) a vs
  | .dT xs=>xs.length<=sizeLine/\(a==sysModules)=false/\∃o es ep,h.get? a=some o/\o.ExactDict/\o.data=.dict es ep/\es.toList=xs.map (entryOfKey (tupleKind (gf P w)))/\(xs.map (·.1)).Nodup
  | .set S n=>h.SetOf (intKind P w) a S n
  | .SF C dx fs=>H dx=some (.own a)/\fs.length<=1000/\dx≠a/\h.get? a=some (W.instObj C dx) /\
      ∃mA,h.Ns1 dx mA/\(∀f,He (fs.lookup f) (mA f))/\PySem.Within mA (fs.map (·.1))
  | .own _=>∃o,h.get? a=some o
  | .xd fs=>∃mA,h.Ns1 a mA/\∀f,He (fs.lookup f) (mA f)
  | .rng lo hi=>∃t u v,h.get? a=some {cls:=.type "range",data:=.fields #[.int lo t,.int hi u,.int 1 v]}
  | .mj o u=>h.get? a=some o/\ee H h a u
  | .zx q=>∃ps:Array aq,h.get? a=some {cls:=.none,data:=.fields ps}/\TriplesOk ps.toList/\∀(pos:Pos) (cv:aq),codeAmong pos ps.toList=some cv ->
      ∃(c:ae) (oc:Obj) (u:HO) (vs:Array aq) (t:Tok),cv=.ref c/\H c=some (.mj oc u)/\oc.data=.fields vs/\vs[1]?=some (.str q t)
  | .met f x=>h.get? a=some (W.methodObj (.ref f) (.ref x))
  | .ext φ=>φ h/\(∃o,h.get? a=some o)/\∀h1 h2:Heap,φ h1->(∀o,h1.get? a=some o->h2.get? a=some o)->φ h2
def oN(H:Hp)(h:Heap):Prop:=∀a o,H a=some o->ee P w H h a o
end
section
variable {P:bK} {w:aW} {H H':Hp} {h h':Heap} {a:ae} {o:HO}
theorem ee.lt(x:ee P w H h a o):a<h.objs.size:=by
  cases o with
  | ao xs=>obtain⟨_,_,_,_,e⟩:=x;exact bR e
  | aC xs=>obtain⟨_,_,_,p⟩:=x;exact p.lt
  | dK kvs=>obtain⟨_,_,_,_,o,_,_,e,_⟩:=x;exact bR e
  | dT kvs=>obtain⟨_,_,o,_,_,e,_⟩:=x;exact bR e
  | set S n=>obtain⟨o,_,_,_,e,_⟩:=x;exact bR e
  | SF C dx fs=>obtain⟨_,_,_,e,_⟩:=x;exact bR e
  | own y=>obtain⟨_,e⟩:=x;exact bR e
  | xd fs=>obtain⟨_,⟨_,_,_,e,_⟩,_⟩:=x;exact bR e
  | rng lo hi=>obtain⟨_,_,_,e⟩:=x;exact bR e
  | mj ob u=>obtain⟨e,_⟩:=x;exact bR e
  | zx q=>obtain⟨_,e,_⟩:=x;exact bR e
  | met f y=>exact bR (show h.get? a=some _ from x)
  | ext φ=>obtain⟨_,⟨_,e⟩,_⟩:=x;exact bR e
theorem Paired.J5{α β:Type}{F G:α->β->Prop}:∀{l₁:List α} {l₂:List β},Paired F l₁ l₂->(∀a b,F a b->G a b)->Paired G l₁ l₂
  | _,_,.nil,_=>.nil
  | _,_,.cons r t,f=>.cons (f _ _ r) (Paired.J5 t f)
theorem ee.zT(x:ee P w H h a o)(k:∀b u,(b=a\/H b=some (.own a))->h.get? b=some u->h'.get? b=some u)
    (ho:∀b,H b=some (.own a)->H' b=some (.own a)) (ht:∀b xs,H b=some (.aC xs)->H' b=some (.aC xs)) (hz:∀b ob u,H b=some (.mj ob u)->H' b=some (.mj ob u)):ee P w H' h' a o:=by
  induction o with
  | ao xs=>obtain⟨z,aX,n,r,e⟩:=x;exact⟨z,aX,n,r,k _ _ (.inl rfl) e⟩
  | aC xs=>obtain⟨z,aX,r,ob,e,c⟩:=x;exact⟨z,aX,r,ob,k _ _ (.inl rfl) e,c⟩
  | dK kvs=>obtain⟨z,y,vs,r,ob,es,ep,e,c⟩:=x;exact⟨z,y,vs,r,ob,es,ep,k _ _ (.inl rfl) e,c⟩
  | dT kvs=>obtain⟨z,y,ob,es,ep,e,c⟩:=x;exact⟨z,y,ob,es,ep,k _ _ (.inl rfl) e,c⟩
  | set S n=>obtain⟨ob,es,ep,t,e,c⟩:=x;exact⟨ob,es,ep,t,k _ _ (.inl rfl) e,c⟩
  | SF C dx fs =>
    obtain⟨d,z,ne,e,mA,⟨od,es,ep,e2,c⟩,r⟩:=x;exact⟨ho _ d,z,ne,k _ _ (.inl rfl) e,mA,⟨od,es,ep,k _ _ (.inr d) e2,c⟩,r⟩
  | own y=>obtain⟨ob,e⟩:=x;exact⟨ob,k _ _ (.inl rfl) e⟩
  | xd fs=>obtain⟨mA,⟨od,es,ep,e,c⟩,r⟩:=x;exact⟨mA,⟨od,es,ep,k _ _ (.inl rfl) e,c⟩,r⟩
  | rng lo hi=>obtain⟨t,u,v,e⟩:=x;exact⟨t,u,v,k _ _ (.inl rfl) e⟩
  | mj ob u ih=>obtain⟨e,q⟩:=x;exact⟨k _ _ (.inl rfl) e,ih q⟩
  | zx q =>
    obtain⟨ps,e,t,c⟩:=x;exact⟨ps,k _ _ (.inl rfl) e,t,λpos cv z=>let ⟨c,oc,u,vs,tk,h1,h2,h3⟩:=c pos cv z;⟨c,oc,u,vs,tk,h1,hz _ _ _ h2,h3⟩⟩
  | met f y =>
    have e:h.get? a=some (W.methodObj (.ref f) (.ref y)):=x;show h'.get? a=some (W.methodObj (.ref f) (.ref y));exact k a _ (.inl rfl) e
  | ext φ=>obtain⟨p,⟨o,e⟩,st⟩:=x;exact⟨st _ _ p λo q=>k _ _ (.inl rfl) q,⟨o,k _ _ (.inl rfl) e⟩,st⟩
theorem oN.lt(x:oN P w H h)(e:H a=some o):a<h.objs.size:=(x a o e).lt
theorem oN.fresh(x:oN P w H h)(e:h.objs.size<=a):H a=none:=by
  cases q:H a with
  | none=>rfl
  | some u=>exact absurd (cU (x.lt q) e) (jv _)
theorem oN.kept(x:oN P w H h)(k:∀b u,h.get? b=some u->h'.get? b=some u):oN P w H h':=λa o e =>
  (x a o e).zT (λb u _ q=>k b u q) (λ_ q=>q) (λ_ _ q=>q) λ_ _ _ q=>q
theorem oN.laid(x:oN P w H h)(k:∀b u,h.get? b=some u->h'.get? b=some u)(hp:h.objs.size<=a)(new:ee P w (upd H a o) h' a o):oN P w (upd H a o) h':=λb u e=>by
  have hn:=x.fresh hp;by_cases hb:b=a
  · subst hb;rw[aI]at e;cases e;exact new
  · rw[upd_ne hb]at e
    exact(x b u e).zT (λc v _ q=>k c v q) (λc q=>by rw[upd_ne (ne_of_none q hn)];exact q) (λc xs q=>by rw[upd_ne (ne_of_none q hn)];exact q) λc ob v q=>by rw[upd_ne (ne_of_none q hn)];exact q
end
theorem Rd.ok{P:bK}{w:aW}{H:Hp}{h:Heap}{a:ae}{u:HO}(r:Rd H a u)(x:oN P w H h):ee P w H h a u:=by
  rcases r with r | ⟨o,r⟩
  · exact x a u r
  · obtain⟨_,q⟩:=x a _ r
    exact q
def Z3:Option HO->Prop
  | some (.ao _)=>True
  | some (.dK _)=>True
  | some (.dT _)=>True
  | some (.set _ _)=>True
  | some (.SF _ _ _)=>True
  | some (.ext _)=>True
  | _=>False
section
variable {P:bK} {w:aW} {H:Hp} {h h':Heap} {x e:ae} {o':HO}
theorem oN.write(ok:oN P w H h)(mu:Z3 (H x))(he:e=x\/H e=some (.own x))(k:∀b u,b≠e->h.get? b=some u->h'.get? b=some u)(VY:∃u,h'.get? e=some u)
    (new:ee P w (upd H x o') h' x o'):oN P w (upd H x o') h':=λb u q=>by
  have WA:∀c y,H c=some (.own y)->c≠x:=λc y r z=>by subst z;rw[r]at mu;exact mu
  have abU:∀c xs,H c=some (.aC xs)->c≠x:=λc xs r z=>by subst z;rw[r]at mu;exact mu
  have abV:∀c ob v,H c=some (.mj ob v)->c≠x:=λc ob v r z=>by subst z;rw[r]at mu;exact mu
  by_cases hb:b=x
  · subst hb;rw[aI]at q;cases q;exact new
  · rw[upd_ne hb]at q
    by_cases SV:b=e
    · have q':H b=some (.own x):=by
        rcases he with z | z
        · exact absurd (SV.trans z) hb
        · rw[SV];exact z
      rw[q]at q';cases q';obtain⟨v,hv⟩:=VY;exact⟨v,by rw[SV];exact hv⟩
    · refine(ok b u q).zT (λc v hc r=>k c v ?_ r) (λc r=>by rw[upd_ne (WA c b r)];exact r) (λc xs r=>by rw[upd_ne (abU c xs r)];exact r) λc ob v r=>by rw[upd_ne (abV c ob v r)];exact r
      rcases hc with rfl | hc
      · exact SV
      · rintro rfl
        rcases he with z | z
        · exact WA c b hc z
        · rw[hc]at z;cases z;exact hb rfl
end
structure Un (fs ex:List ae) (H H':Hp) (h h':Heap):Prop where
  keep:∀b o,h.get? b=some o->H b=none->b∉fs->b∉ex->h'.get? b=some o
  slot:∀b o,h.get? b=some o->H b=none->b∈fs->b∉ex->∃sl,h'.get? b=some {o with slots:=sl}
  free:∀b o,h.get? b=some o->H b=none->b∉ex->H' b=none
  there:∀b o,h.get? b=some o->b∉ex->∃o',h'.get? b=some o'
  tups:∀b xs,H b=some (.aC xs)->H' b=some (.aC xs)
  frzs:∀b o u,H b=some (.mj o u)->H' b=some (.mj o u)
  tbls:∀b q,H b=some (.zx q)->H' b=some (.zx q)
section
variable {fs Z4 ex ex':List ae} {H H1 H2:Hp} {h h1 h2 h':Heap} {a x e:ae} {o:HO}
theorem Un.any(u:Un fs ex H H1 h h1){b:ae}{ob:Obj}(q:h.get? b=some ob)(n:H b=none)(hx:b∉ex):∃sl,h1.get? b=some {ob with slots:=sl}:=by
  by_cases hb:b∈fs
  · exact u.slot b ob q n hb hx
  · exact⟨ob.slots,u.keep b ob q n hb hx⟩
theorem Un.kept(k:∀b u,h.get? b=some u->h'.get? b=some u):Un fs ex H H h h' :=
  ⟨λb ob q _ _ _=>k b ob q,λb ob q _ _ _=>⟨ob.slots,k b ob q⟩,λ_ _ _ n _=>n,λb ob q _=>⟨ob,k b ob q⟩,λ_ _ q=>q,λ_ _ _ q=>q,λ_ _ q=>q⟩
theorem Un.refl:Un fs ex H H h h:=Un.kept λ_ _ q=>q
theorem Un.laid(k:∀b u,h.get? b=some u->h'.get? b=some u)(hp:h.objs.size<=a)(hn:H a=none):Un fs ex H (upd H a o) h h' where
  keep:=λb u q _ _ _=>k b u q
  slot:=λb u q _ _ _=>⟨u.slots,k b u q⟩
  free:=λb u q n _=>by rw[upd_ne (cX (cU (bR q) hp))];exact n
  there:=λb u q _=>⟨u,k b u q⟩
  tups:=λb xs q=>by rw[upd_ne (ne_of_none q hn)];exact q
  frzs:=λb u xs q=>by rw[upd_ne (ne_of_none q hn)];exact q
  tbls:=λb ps q=>by rw[upd_ne (ne_of_none q hn)];exact q
theorem Un.write(mu:Z3 (H x))(he:e=x\/H e=some (.own x))(k:∀b u,b≠e->h.get? b=some u->h'.get? b=some u)(VY:∃u,h'.get? e=some u):Un fs ex H (upd H x o) h h':=by
  have hx:∀b,H b=none->b≠x:=λb n z=>by subst z;rw[n]at mu;exact mu
  have hb:∀b,H b=none->b≠e:=λb n z=>by
    subst z;rcases he with r | r
    · exact hx b n r
    · rw[n]at r;cases r
  have hm:∀b u,H b=some u->¬Z3 (some u)->b≠x:=λb u q nm z=>by subst z;rw[q]at mu;exact nm mu
  refine⟨λb u q n _ _=>k b u (hb b n) q,λb u q n _ _=>⟨u.slots,k b u (hb b n) q⟩,λb u q n _=>by rw[upd_ne (hx b n)];exact n,λb u q _=>?_,
    λb xs q=>by rw[upd_ne (hm b _ q λz=>z)];exact q,λb u xs q=>by rw[upd_ne (hm b _ q λz=>z)];exact q,λb ps q=>by rw[upd_ne (hm b _ q λz=>z)];exact q⟩
  by_cases SV:b=e
  · subst SV;exact VY
  · exact⟨u,k b u SV q⟩
end
def Z5(h:Heap)(H:Hp):List ae:=(List.range h.objs.size).filter λa=>(H a).isSome
def zU(h:Heap)(H:Hp):Heap:=W.hideAll h (Z5 h H)
theorem Hf(h:Heap)(H:Hp):(zU h H).objs.size=h.objs.size:=W.hideAll_size _ _
theorem hidT_get{h:Heap}{H:Hp}{b:ae}{o:Obj}(e:h.get? b=some o)(n:H b=none):(zU h H).get? b=some o :=
  W.hideAll_get _ e λhm=>by
    have q:(H b).isSome=true:=(gT.mp hm).2;rw[n]at q;simp at q
theorem of_hidT{h:Heap}{H:Hp}{b:ae}{o:Obj}(e:(zU h H).get? b=some o):h.get? b=some o/\H b=none:=by
  have e':h.get? b=some o:=W.of_hideAll (Z5 h H) e;refine⟨e',?_⟩;cases q:H b with
  | none=>rfl
  | some x =>
    have hm:b∈Z5 h H:=gT.mpr ⟨e9.mpr (bR e'),by simp[q]⟩
    have z:(zU h H).get? b=none:=W.hideAll_none (Z5 h H) hm;rw[z]at e;cases e
structure Mod (K:aj) (mg:dQ) (base:Heap):Prop where
  kin:K.In base
  glob:base.Ns mainGlobals mg
  blt:∃mb,base.Ns builtinsNs mb/\∀x:Str,x≠"__name__"->mb x=bootBuiltins x
  nolimit:base.NoLimit
structure Cx where
  prog:bK
  w:aW
  K:aj
  mg:dQ
  base:Heap
  A:bY
  N:List Str
  s₀:az
  H₀:Hp
  env:Env
  outer:List Env
  stack:List Env
  ex:List ae
  fn:Str->Bool
  calm:Bool
  pn:List (ae×Obj)
  xe:cQ
def BZ(l:List Env):List ae:=l.filterMap (·.frame)
abbrev Cx.fs(X:Cx):List ae:=BZ X.outer
def VZ(sc:Scope)(x:Str):Prop:=sc.names.lookup x=some .local\/sc.names.lookup x=some .cell\/sc.names.lookup x=some .free
def Rq(sc:Scope)(x:Str):Prop:=sc.names.lookup x=some .local\/sc.names.lookup x=some .cell
def abW(env:Env)(h:Heap)(m:dQ)(x:Str)(u:aq):Prop :=
  (env.kindOf x=some .local/\m x=some u)\/((env.kindOf x=some .cell\/env.kindOf x=some .free)/\∃c,env.cells.lookup x=some c/\h.IsCell c (some u))
def uN(x:Str):Str:=x++".<locals>."++"<lambda>"
def sR(K:aj)(H:Hp):Prop:=∀x∈d9,∀c T,W.tabIn K x=some (c,T)->H T=some (.zx (uN x))
structure Cx.Ok (X:Cx):Prop where
  mod:Mod X.K X.mg X.base
  kind:X.env.scope.kind=.function
  glob:X.env.globals=mainGlobals
  blt:X.env.builtins=builtinsNs
  above:X.s₀.heap.objs.size<=X.env.locals
  inj:∀x y c,X.env.cells.lookup x=some c->X.env.cells.lookup y=some c->x=y
  has:∀x,(X.env.kindOf x=some .cell\/X.env.kindOf x=some .free)->∃c,X.env.cells.lookup x=some c
  cab:∀x c,X.fn x=true->X.env.cells.lookup x=some c->X.s₀.heap.objs.size<=c
  hd:X.calm=true->X.A.handled=none
  frames:X.A.frames=some X.stack
  stk:X.stack=X.outer\/(X.stack=X.env::X.outer/\X.env.frame=some X.env.locals)
  exf:∀b∈X.ex,b≠X.env.locals/\∀x c,X.env.cells.lookup x=some c->c≠b
  bs:∀b o,X.base.get? b=some o->X.s₀.heap.get? b=some o/\X.H₀ b=none
  bsz:X.base.objs.size<=X.s₀.heap.objs.size
  noex:∀b o,X.base.get? b=some o->b∉X.ex
  exfs:∀b∈X.ex,b∉X.fs
  funs:X.s₀.heap.FunFrames X.base X.outer
  frf:∀b∈X.fs,X.H₀ b=none
  tabs:sR X.K X.H₀
structure Inv (X:Cx) (ag:List (ae×Obj)) (σ:List (Option V)) (H:Hp) (s:az):Prop where
  ok:X.Ok
  os:s.os=X.s₀.os
  bare:AllBare s.gens
  base:Un X.fs X.ex X.H₀ H X.s₀.heap s.heap
  loc:∃m,s.heap.Ns X.env.locals m/\∀(i:Nat) (x:Str) (v:V),X.N[i]?=some x->σ[i]?=some (some v)->VZ X.env.scope x->∃u,RelV v u/\abW X.env s.heap m x u
  cell:∀x c,X.env.cells.lookup x=some c->∃v,s.heap.IsCell c v
  free:H X.env.locals=none
  freeC:∀x c,X.env.cells.lookup x=some c->H c=none
  pin:∀p∈X.pn++ag,s.heap.get? p.1=some p.2/\H p.1=none/\p.1≠X.env.locals/\p.1∉X.fs/\∀v,p.2.data≠.cell v
  hok:oN X.prog X.w H s.heap
  len:σ.length=X.N.length
section
variable {X:Cx} {ag:List (ae×Obj)} {σ:List (Option V)} {H H':Hp} {s:az} {h':Heap}
theorem Cx.Ok.abX(ok:X.Ok){b:ae}{o:Obj}(e:X.base.get? b=some o):b∉X.fs:=λhb=>by
  have:=(ok.funs.mem hb).1;rw[e]at this;cases this
theorem Inv.bs(I:Inv X ag σ H s):∀b o,X.base.get? b=some o->s.heap.get? b=some o/\H b=none:=λb o e =>
  ⟨I.base.keep b o (I.ok.bs b o e).1 (I.ok.bs b o e).2 (I.ok.abX e) (I.ok.noex b o e),I.base.free b o (I.ok.bs b o e).1 (I.ok.bs b o e).2 (I.ok.noex b o e)⟩
theorem Inv.bk(I:Inv X ag σ H s):∀b o,X.base.get? b=some o->s.heap.get? b=some o:=λb o e=>(I.bs b o e).1
theorem Inv.mod(I:Inv X ag σ H s):Mod X.K X.mg X.base:=I.ok.mod
theorem Inv.zj(I:Inv X ag σ H s):X.K.In s.heap:=I.ok.mod.kin.keeps I.bk
theorem Inv.lt(I:Inv X ag σ H s):X.env.locals<s.heap.objs.size:=let ⟨_,hn,_⟩:=I.loc;hn.lt
theorem Inv.sz(I:Inv X ag σ H s):X.s₀.heap.objs.size<=s.heap.objs.size:=cG I.ok.above (mM I.lt)
theorem Inv.abY(I:Inv X ag σ H s){a:ae}(h:s.heap.objs.size<=a):a∉X.fs:=λhb=>by
  obtain⟨_,o,ho,_⟩:=I.ok.funs.mem hb;exact absurd (cU (bR ho) (cG I.sz h)) (jv _)
theorem Inv.SW(I:Inv X ag σ H s):∀x c,X.env.cells.lookup x=some c->c≠X.env.locals:=λx c e z=>by
  obtain⟨v,o,ho,hd⟩:=I.cell x c e;obtain⟨m,⟨o',es,ep,xm,zI,_⟩,_⟩:=I.loc;rw[z,xm]at ho;cases ho;rw[zI]at hd;cases hd
theorem Inv.funs(I:Inv X ag σ H s):s.heap.FunFrames X.base X.outer:=by
  have all:∀(l:List Env),(∀b∈BZ l,b∈X.fs)->X.s₀.heap.FunFrames X.base l->s.heap.FunFrames X.base l:=by
    intro l;induction l with
    | nil=>intro _ _;trivial
    | cons env r ih =>
      intro hs hl;obtain⟨hk,⟨L,o,hf,hn,ho,hd⟩,hr⟩:=hl;have hL:L∈X.fs:=hs L (by unfold BZ;rw[Cw,hf];exact bo)
      obtain⟨sl,e⟩:=I.base.slot L o ho (I.ok.frf L hL) hL λz=>I.ok.exfs L z hL
      exact⟨hk,⟨L,_,hf,hn,e,hd⟩,ih (λb hb=>hs b (by unfold BZ;rw[Cw,hf];exact bz _ hb)) hr⟩
  exact all X.outer (λ_ hb=>hb) I.ok.funs
theorem Inv.stack(I:Inv X ag σ H s):s.heap.FunFrames X.base X.stack:=by
  rcases I.ok.stk with e | ⟨e,hf⟩
  · rw[e];exact I.funs
  · rw[e]
    obtain⟨m,hn,_⟩:=I.loc;refine .cons (by rw[I.ok.kind];decide) hf hn ?_ I.funs
    exact Heap.get?_none_of_le (cG I.ok.bsz I.ok.above)
theorem Inv.C7(I:Inv X ag σ H s):∀b∈BZ X.stack,b∈X.env.locals::X.fs:=λb hb=>by
  rcases I.ok.stk with e | ⟨e,hf⟩
  · rw[e]at hb;exact bz _ hb
  · rw[e]at hb
    unfold BZ at hb;rw[Cw,hf]at hb;exact hb
theorem Inv.E4(I:Inv X ag σ H s):∀b∈BZ X.stack,H b=none:=λb hb=>by
  rcases aZ.mp (I.C7 b hb)with e | hb
  · rw[e];exact I.free
  · obtain⟨_,o,ho,_⟩:=I.ok.funs.mem hb
    exact I.base.free b o ho (I.ok.frf b hb) λz=>I.ok.exfs b z hb
theorem Inv.tabs(I:Inv X ag σ H s):sR X.K H:=λx hx c T e=>I.base.tbls T _ (I.ok.tabs x hx c T e)
theorem Inv.step{g':Array GenState}{t':Nat}{d':Drawn}{ch:List ae}(I:Inv X ag σ H s)
    (NO:∀b∈ch,(b∈X.ex\/X.s₀.heap.objs.size<=b)/\b≠X.env.locals/\(∀x c,X.env.cells.lookup x=some c->c≠b)/\∀p∈X.pn++ag,p.1≠b)
    (keep:∀b o,b≠X.env.locals->b∉X.fs->b∉ch->s.heap.get? b=some o->H b=none->h'.get? b=some o)
    (slot:∀b o,b≠X.env.locals->b∈X.fs->b∉ch->s.heap.get? b=some o->H b=none->∃sl,h'.get? b=some {o with slots:=sl}) (free:∀b o,b∉ch->s.heap.get? b=some o->H b=none->H' b=none)
    (there:∀b o,b∉ch->s.heap.get? b=some o->∃o',h'.get? b=some o')
    (tups:∀b xs,H b=some (.aC xs)->H' b=some (.aC xs)) (frzs:∀b o u,H b=some (.mj o u)->H' b=some (.mj o u)) (tbls:∀b q,H b=some (.zx q)->H' b=some (.zx q))
    (ns:∀m,s.heap.Ns X.env.locals m->h'.Ns X.env.locals m) (hok:oN X.prog X.w H' h') (hg:AllBare g') :
    Inv X ag σ H' {s with heap:=h',gens:=g',drawn:=d',toks:=t'}:=by
  have neL:∀b o,X.s₀.heap.get? b=some o->b≠X.env.locals:=λb o e=>cX (cU (bR e) I.ok.above)
  have Z6:∀b o,X.s₀.heap.get? b=some o->b∉X.ex->b∉ch:=λb o e hx hb=>by
    rcases(NO b hb).1 with z | z
    · exact hx z
    · exact absurd (cU (bR e) z) (jv _)
  have cellK:∀x c,X.env.cells.lookup x=some c->∀v,s.heap.IsCell c v->h'.IsCell c v:=by
    rintro x c e v ⟨o,ho,hd⟩
    have WB:c∉ch:=λz=>(NO c z).2.2.1 x c e rfl
    by_cases hc:c∈X.fs
    · obtain⟨sl,q⟩:=slot c o (I.SW x c e) hc WB ho (I.freeC x c e)
      exact⟨_,q,hd⟩
    · exact⟨o,keep c o (I.SW x c e) hc WB ho (I.freeC x c e),hd⟩
  refine⟨I.ok,I.os,hg,⟨λb o e n hb hx=>?_,λb o e n hb hx=>?_,λb o e n hx=>?_,λb o e hx=>?_,λb xs e=>tups b xs (I.base.tups b xs e),λb o xs e=>frzs b o xs (I.base.frzs b o xs e),λb ps e=>?_⟩,?_,λx c e=>?_,?_,λx c e=>?_,λp hp=>?_,hok,I.len⟩
  · exact keep b o (neL b o e) hb (Z6 b o e hx) (I.base.keep b o e n hb hx) (I.base.free b o e n hx)
  · obtain⟨sl,e1⟩:=I.base.slot b o e n hb hx
    obtain⟨sl',e2⟩:=slot b _ (neL b o e) hb (Z6 b o e hx) e1 (I.base.free b o e n hx);exact⟨sl',e2⟩
  · obtain⟨o',e1⟩:=I.base.there b o e hx
    exact free b o' (Z6 b o e hx) e1 (I.base.free b o e n hx)
  · obtain⟨o',e1⟩:=I.base.there b o e hx
    exact there b o' (Z6 b o e hx) e1
  · exact tbls b ps (I.base.tbls b ps e)
  · obtain⟨m,hn,hl⟩:=I.loc
    refine⟨m,ns m hn,λi x v e1 e2 e3=>?_⟩
    obtain⟨u,r,l⟩:=hl i x v e1 e2 e3;refine⟨u,r,?_⟩;rcases l with l | ⟨k,c,e,z⟩
    · exact .inl l
    · exact .inr ⟨k,c,e,cellK x c e _ z⟩
  · obtain⟨v,z⟩:=I.cell x c e
    exact⟨v,cellK x c e v z⟩
  · obtain⟨m,⟨o,_,_,ho,_⟩,_⟩:=I.loc
    exact free _ o (λz=>(NO _ z).2.1 rfl) ho I.free
  · obtain⟨v,o,ho,hd⟩:=I.cell x c e
    exact free c o (λz=>(NO c z).2.2.1 x c e rfl) ho (I.freeC x c e)
  · obtain⟨e,n,ne,nf,d⟩:=I.pin p hp
    have WB:p.1∉ch:=λz=>(NO p.1 z).2.2.2 p hp rfl
    exact⟨keep p.1 p.2 ne nf WB e n,free p.1 p.2 WB e n,ne,nf,d⟩
theorem Inv.un{t':Nat}(I:Inv X ag σ H s)(u:Un X.fs [] H H' s.heap h')(hok:oN X.prog X.w H' h'):Inv X ag σ H' {s with heap:=h',toks:=t'}:=by
  obtain⟨m,⟨o,es,ep,ho,r⟩,_⟩:=id I.loc;obtain⟨sl,hL⟩:=u.any ho I.free (by simp)
  exact I.step (g':=s.gens) (d':=s.drawn) (ch:=[]) (λ_ z=>nomatch z) (λb o _ hb _ e n=>u.keep b o e n hb (by simp)) (λb o _ hb _ e n=>u.slot b o e n hb (by simp)) (λb o _ e n=>u.free b o e n (by simp)) (λb o _ e=>u.there b o e (by simp)) u.tups u.frzs u.tbls (λm' hm=>by
    obtain⟨o',WC,ep',xm,r'⟩:=hm;rw[ho]at xm;cases xm;exact⟨_,WC,ep',hL,r'⟩) hok I.bare
theorem Inv.call{g':Array GenState}{t':Nat}{d':Drawn}{ch:List ae}(I:Inv X ag σ H s)(u:Un (BZ X.stack) ch H H' s.heap h')(hok:oN X.prog X.w H' h')(hg:AllBare g')
    (NO:∀b∈ch,(b∈X.ex\/X.s₀.heap.objs.size<=b)/\b≠X.env.locals/\(∀x c,X.env.cells.lookup x=some c->c≠b)/\∀p∈X.pn++ag,p.1≠b) :
    Inv X ag σ H' {s with heap:=h',gens:=g',drawn:=d',toks:=t'}:=by
  obtain⟨m,⟨o,es,ep,ho,r⟩,_⟩:=id I.loc;obtain⟨sl,hL⟩:=u.any ho I.free λz=>(NO _ z).2.1 rfl
  exact I.step (ch:=ch) NO (λb o hL hb hc e n=>u.keep b o e n (λz=>(aZ.mp (I.C7 b z)).elim hL hb) hc) (λb o _ _ hc e n=>u.any e n hc) (λb o hc e n=>u.free b o e n hc) (λb o hc e=>u.there b o e hc) u.tups u.frzs u.tbls (λm' hm=>by
    obtain⟨o',WC,ep',xm,r'⟩:=hm;rw[ho]at xm;cases xm;exact⟨_,WC,ep',hL,r'⟩) hok hg
theorem Inv.turned{t':Nat}{it:ae}(I:Inv X ag σ H s)(k:∀b o,b≠it->s.heap.get? b=some o->h'.get? b=some o)(hn:H it=none)(hL:it≠X.env.locals)
    (h1:it∈X.ex\/X.s₀.heap.objs.size<=it) (h2:∀x c,X.env.cells.lookup x=some c->c≠it) (h3:∀p∈X.pn++ag,p.1≠it):Inv X ag σ H {s with heap:=h',toks:=t'}:=by
  have WD:∀b u,H b=some u->b≠it:=λb u e z=>by rw[z,hn]at e;cases e
  refine I.step (g':=s.gens) (d':=s.drawn) (ch:=[it]) (λb hb=>?_) (λb o _ _ hc e _=>k b o (λz=>hc (by simp[z])) e) (λb o _ _ hc e _=>⟨o.slots,k b o (λz=>hc (by simp[z])) e⟩) (λ_ _ _ _ n=>n)
    (λb o hc e=>⟨o,k b o (λz=>hc (by simp[z])) e⟩) (λ_ _ e=>e) (λ_ _ _ e=>e) (λ_ _ e=>e) (λm hm=>?_) (λb u e=>?_) I.bare
  · have e:b=it:=by simpa using hb
    subst e;exact⟨h1,hL,h2,h3⟩
  · obtain⟨o,es,ep,ho,r⟩:=hm
    exact⟨o,es,ep,k _ o (eE hL) ho,r⟩
  · refine(I.hok b u e).zT (λc v hc q=>k c v ?_ q) (λ_ q=>q) (λ_ _ q=>q) λ_ _ _ q=>q
    rcases hc with z | z
    · rw[z];exact WD b u e
    · exact WD c _ z
theorem Inv.tok(I:Inv X ag σ H s)(t:Nat):Inv X ag σ H {s with toks:=t}:=I.un (h':=s.heap) (t':=t) Un.refl I.hok
theorem Inv.kept{t':Nat}(I:Inv X ag σ H s)(k:∀b u,s.heap.get? b=some u->h'.get? b=some u):Inv X ag σ H {s with heap:=h',toks:=t'}:=I.un (Un.kept k) (I.hok.kept k)
theorem Inv.laid{a:ae}{o:HO}{t':Nat}(I:Inv X ag σ H s)(k:∀b u,s.heap.get? b=some u->h'.get? b=some u)(hp:s.heap.objs.size<=a)(new:ee X.prog X.w (upd H a o) h' a o) :
    Inv X ag σ (upd H a o) {s with heap:=h',toks:=t'}:=I.un (Un.laid k hp (I.hok.fresh hp)) (I.hok.laid k hp new)
theorem Inv.write{x e:ae}{o:HO}{t':Nat}(I:Inv X ag σ H s)(mu:Z3 (H x))(he:e=x\/H e=some (.own x))(k:∀b u,b≠e->s.heap.get? b=some u->h'.get? b=some u)(VY:∃u,h'.get? e=some u)
    (new:ee X.prog X.w (upd H x o) h' x o):Inv X ag σ (upd H x o) {s with heap:=h',toks:=t'}:=I.un (Un.write mu he k VY) (I.hok.write mu he k VY new)
theorem Inv.nM{Ru:List (ae×Obj)}(I:Inv X ag σ H s)(h:∀p∈Ru,s.heap.get? p.1=some p.2/\H p.1=none/\p.1≠X.env.locals/\p.1∉X.fs/\∀v,p.2.data≠.cell v):Inv X Ru σ H s :=
  ⟨I.ok,I.os,I.bare,I.base,I.loc,I.cell,I.free,I.freeC,λp hp=>(cW.mp hp).elim (λz=>I.pin p (iD _ z)) (h p),I.hok,I.len⟩
theorem zV{N:List Str}(hN:N.Nodup){i j:Nat}{x:Str}(a:N[i]?=some x)(b:N[j]?=some x):i=j:=by
  obtain⟨h1,e1⟩:=dF.mp a;obtain⟨h2,e2⟩:=dF.mp b;exact(List.getElem_inj hN).mp (e1.trans e2.symm)
theorem store_ok2{M:Model}{A:bY}{E:cQ}{i:Nat}{x:Str}{v:V}{u:aq}{Q:Unit->az->Prop}(I:Inv X ag σ H s)(hN:X.N.Nodup)(hi:X.N[i]?=some x)(hx:Rq X.env.scope x)(r:RelV v u)
    (h:∀s',Inv X ag (σ.set i (some v)) H s'->(∃a,Heap.SameBut a s.heap s'.heap/\(a=X.env.locals\/X.env.cells.lookup x=some a))->Q () s') (hf:X.fn x=true\/X.env.scope.names.lookup x=some .local:=by first | exact .inl rfl | exact .inr rfl | assumption):wpAny M A (storeName X.env x u) Q E s:=by
  obtain⟨m,hn,hl⟩:=id I.loc;have ab0:(X.env.scope.kind==.class || (X.env.scope.kind==.module&&X.env.locals != X.env.globals))=false:=by rw[I.ok.kind];rfl
  have WE:i<σ.length:=by rw[I.len];exact(dF.mp hi).1
  have SW:=I.SW;have E5:∀{a:ae} {h':Heap},(∃o,s.heap.get? a=some o/\H a=none)->Heap.SameBut a s.heap h'->oN X.prog X.w H h':=λ{a h'} ha hs b ob e=>by
    obtain⟨_,_,sS⟩:=ha;refine(I.hok b ob e).zT (λc w' hc q=>(hs.2 c ?_).trans q) (λ_ q=>q) (λ_ _ q=>q) λ_ _ _ q=>q
    rintro rfl
    rcases hc with rfl | hc
    · rw[sS]at e;cases e
    · rw[sS]at hc;cases hc
  rcases hx with hk | hk
  · refine wpAny_storeName_local hk hn (λh' WG hs=>?_) ab0
    obtain⟨oL,_,_,WH,_⟩:=id hn;refine h _ ⟨I.ok,I.os,I.bare,⟨λb o e n hb hx=>?_,λb o e n hb hx=>?_,I.base.free,λb o e hx=>?_,I.base.tups,I.base.frzs,I.base.tbls⟩,⟨_,WG,λj y v' e1 e2 e3=>?_⟩,λy c e=>?_,I.free,I.freeC,λp hp=>?_,E5 ⟨oL,WH,I.free⟩ hs,by simpa using I.len⟩ ⟨_,hs,.inl rfl⟩
    · exact(hs.2 b (cX (cU (bR e) I.ok.above))).trans (I.base.keep b o e n hb hx)
    · obtain⟨sl,e1⟩:=I.base.slot b o e n hb hx
      exact⟨sl,(hs.2 b (cX (cU (bR e) I.ok.above))).trans e1⟩
    · obtain⟨o',e1⟩:=I.base.there b o e hx
      exact⟨o',(hs.2 b (cX (cU (bR e) I.ok.above))).trans e1⟩
    · by_cases hj:j=i
      · subst hj
        rw[hi]at e1;cases e1;rw[b7 WE]at e2;cases e2;exact⟨u,r,.inl ⟨hk,by simp⟩⟩
      · rw[bE (eE hj)]at e2
        obtain⟨u',r',q⟩:=hl j y v' e1 e2 e3;refine⟨u',r',?_⟩;rcases q with⟨k,e⟩ | ⟨k,c,e,z⟩
        · refine .inl ⟨k,?_⟩
          have:y≠x:=λe=>hj (zV hN e1 (e▸hi))
          simp[this,e]
        · exact .inr ⟨k,c,e,z.sameBut hs (SW y c e)⟩
    · obtain⟨w',z⟩:=I.cell y c e
      exact⟨w',z.sameBut hs (SW y c e)⟩
    · obtain⟨e,n,ne,nf,d⟩:=I.pin p hp
      exact⟨(hs.2 p.1 ne).trans e,n,ne,nf,d⟩
  · have WI:X.fn x=true:=by
      rcases hf with z | z
      · exact z
      · rw[z]at hk;cases hk
    obtain⟨c,hc⟩:=I.ok.has x (.inl hk);obtain⟨w',z⟩:=I.cell x c hc;refine wpAny_storeName_cell I.ok.kind hk hc z (λh' E6 hs=>?_)
    obtain⟨oc,Z7,ab1⟩:=id z;refine h {s with heap:=h'} ⟨I.ok,I.os,I.bare,⟨λb o e n hb hx=>?_,λb o e n hb hx=>?_,I.base.free,λb o e hx=>?_,I.base.tups,I.base.frzs,I.base.tbls⟩,⟨m,hn.sameBut hs (eE (SW x c hc)),λj y v' e1 e2 e3=>?_⟩,λy c' e=>?_,I.free,I.freeC,λp hp=>?_,E5 ⟨oc,Z7,I.freeC x c hc⟩ hs,by simpa using I.len⟩ ⟨c,hs,.inr hc⟩
    · exact(hs.2 b (cX (cU (bR e) (I.ok.cab x c WI hc)))).trans (I.base.keep b o e n hb hx)
    · obtain⟨sl,e1⟩:=I.base.slot b o e n hb hx
      exact⟨sl,(hs.2 b (cX (cU (bR e) (I.ok.cab x c WI hc)))).trans e1⟩
    · obtain⟨o',e1⟩:=I.base.there b o e hx
      exact⟨o',(hs.2 b (cX (cU (bR e) (I.ok.cab x c WI hc)))).trans e1⟩
    · by_cases hj:j=i
      · subst hj
        rw[hi]at e1;cases e1;rw[b7 WE]at e2;cases e2;exact⟨u,r,.inr ⟨.inl hk,c,hc,E6⟩⟩
      · rw[bE (eE hj)]at e2
        obtain⟨u',r',q⟩:=hl j y v' e1 e2 e3;refine⟨u',r',?_⟩;rcases q with q | ⟨k,c',e,z'⟩
        · exact .inl q
        · refine .inr ⟨k,c',e,z'.sameBut hs ?_⟩
          rintro rfl
          exact hj (zV hN e1 (I.ok.inj _ _ _ e hc▸hi))
    · by_cases hcc:c'=c
      · subst hcc;exact⟨_,E6⟩
      · obtain⟨w2,z2⟩:=I.cell y c' e
        exact⟨w2,z2.sameBut hs hcc⟩
    · obtain⟨e,n,ne,nf,d⟩:=I.pin p hp
      refine⟨(hs.2 p.1 ?_).trans e,n,ne,nf,d⟩;intro q;rw[q,Z7]at e;have q':oc=p.2:=bM e;exact d w' (by rw[<-q'];exact ab1)
theorem sT{M:Model}{A:bY}{E:cQ}{i:Nat}{x:Str}{v:V}{u:aq}{Q:Unit->az->Prop}(I:Inv X ag σ H s)(hN:X.N.Nodup)(hi:X.N[i]?=some x)(hx:Rq X.env.scope x)(r:RelV v u)
    (h:∀s',Inv X ag (σ.set i (some v)) H s'->Q () s') (hf:X.fn x=true\/X.env.scope.names.lookup x=some .local:=by first | exact .inl rfl | exact .inr rfl | assumption):wpAny M A (storeName X.env x u) Q E s :=
  store_ok2 I hN hi hx r (λs' I' _=>h s' I') hf
theorem Inv.WJ{s':az}{ch:List ae}(I:Inv X ag σ H s)(ho:s'.os=s.os)(u:Un (BZ X.stack) ch H H' s.heap s'.heap)(hok:oN X.prog X.w H' s'.heap)(hg:AllBare s'.gens)
    (NO:∀b∈ch,(b∈X.ex\/X.s₀.heap.objs.size<=b)/\b≠X.env.locals/\(∀x c,X.env.cells.lookup x=some c->c≠b)/\∀p∈X.pn++ag,p.1≠b):Inv X ag σ H' s':=by
  obtain⟨h',g',d',t',o'⟩:=s';have e:o'=s.os:=ho;subst e;exact I.call (g':=g') (t':=t') (d':=d') u hok hg NO
end
abbrev XK:=aq->Option ae->Hp->Prop
abbrev St:=List (Option V)
abbrev VK:=V->Hp->Prop
abbrev TE:=St->Hp->VK->Prop
abbrev TT:=St->Hp->(Bool->Hp->Prop)->Prop
abbrev TA:=St->Hp->(List V->Hp->Prop)->Prop
structure kO where
  nx:St->Hp->Prop
  rt:VK
  bk:St->Hp->Prop:=λ_ _=>False
  ct:St->Hp->Prop:=λ_ _=>False
abbrev TS:=kO->St->Hp->Prop
def EP(X:Cx)(ag:List (ae×Obj))(σ:St)(Q:VK)(u:aq)(s':az):Prop:=∃v H',Inv X ag σ H' s'/\RelV v u/\Q v H'
def TP(X:Cx)(ag:List (ae×Obj))(σ:St)(Q:Bool->Hp->Prop)(b:Bool)(s':az):Prop:=∃H',Inv X ag σ H' s'/\Q b H'
def AP(X:Cx)(ag:List (ae×Obj))(σ:St)(Q:List V->Hp->Prop)(us:cg)(s':az):Prop:=∃vs H',Inv X ag σ H' s'/\Vals vs us/\Q vs H'
def SP(X:Cx)(ag:List (ae×Obj))(D:kO)(f:Flow)(s':az):Prop :=
  match f with
  | .next=>∃c9 H',Inv X ag c9 H' s'/\D.nx c9 H'
  | .brk=>∃c9 H',Inv X ag c9 H' s'/\D.bk c9 H'
  | .cont=>∃c9 H',Inv X ag c9 H' s'/\D.ct c9 H'
  | .ret u=>∃v c9 H',Inv X ag c9 H' s'/\RelV v u/\D.rt v H'
def PE(X:Cx)(e:au)(t:TE):Prop :=
  ∀(ag:List (ae×Obj)) (s:az) (σ:St) (H:Hp) (Q:VK),Inv X ag σ H s->t σ H Q->wpAny (model X.prog X.w) X.A (eval e X.env) (EP X ag σ Q) X.xe s
def PT(X:Cx)(e:au)(t:TT):Prop :=
  ∀(ag:List (ae×Obj)) (s:az) (σ:St) (H:Hp) (Q:Bool->Hp->Prop),Inv X ag σ H s->t σ H Q->wpAny (model X.prog X.w) X.A (isTrue e X.env (eval e X.env)) (TP X ag σ Q) X.xe s
def PW(X:Cx)(e:au)(t:TT):Prop :=
  ∀(ja:Sem aq) (ag:List (ae×Obj)) (s:az) (σ:St) (H:Hp) (Q:Bool->Hp->Prop),Inv X ag σ H s->t σ H Q->wpAny (model X.prog X.w) X.A (isTrue e X.env ja) (TP X ag σ Q) X.xe s
theorem PW.pt{X:Cx}{e:au}{t:TT}(h:PW X e t):PT X e t:=h _
def PA(X:Cx)(es:List au)(t:TA):Prop :=
  ∀(pos:Pos) (ag:List (ae×Obj)) (s:az) (σ:St) (H:Hp) (Q:List V->Hp->Prop),Inv X ag σ H s->t σ H Q->wpAny (model X.prog X.w) X.A (spliced (backTo pos (starEach es X.env))) (AP X ag σ Q) X.xe s
def PS(X:Cx)(st:aE)(t:TS):Prop :=
  ∀(ag:List (ae×Obj)) (s:az) (σ:St) (H:Hp) (D:kO),Inv X ag σ H s->t D σ H->wpAny (model X.prog X.w) X.A (exec st X.env) (SP X ag D) X.xe s
def qU(X:Cx)(st:List aE)(t:TS):Prop :=
  ∀(ag:List (ae×Obj)) (s:az) (σ:St) (H:Hp) (D:kO),Inv X ag σ H s->t D σ H->wpAny (model X.prog X.w) X.A (execs st X.env) (SP X ag D) X.xe s
theorem thn{α:Type}{t:Sem α}{Q Q':α->az->Prop}{M:Model}{A:bY}{E:cQ}{s:az}(h:wpAny M A t Q E s)(hQ:∀a s,Q a s->Q' a s):wpAny M A t Q' E s:=mN h hQ λ_ _ x=>x
section
variable {X:Cx}
def jY(i:Nat):TE:=λσ H Q=>∃v,σ[i]?=some (some v)/\Q v H
def tC(v:V):TE:=λ_ H Q=>Q v H
theorem pe_var{i:Nat}{x:Str}{pos:Pos}(hN:X.N[i]?=some x)(hv:VZ X.env.scope x)(hd:(x==("__debug__":Str))=false:=by decide)(vw:(x==("__classdict__":Str))=false:=by decide):PE X (.Name x pos) (jY i):=by
  intro ag s σ H Q I h;obtain⟨v,e,h⟩:=h;obtain⟨m,hn,hl⟩:=I.loc;obtain⟨u,r,l⟩:=hl i x v hN e hv;have fin:EP X ag σ Q u s:=⟨v,H,I,r,h⟩;rcases l with⟨hk,hm⟩ | ⟨hk,c,hc,kP⟩
  · exact wpAny_Name (wpAny_loadName_local I.ok.kind hk hn hm fin) hd
  · rcases hk with hk | hk
    · exact wpAny_Name (wpAny_loadName_cell I.ok.kind hk hc kP fin) hd
    · exact wpAny_Name (wpAny_loadName_free I.ok.kind hk hc kP fin vw) hd
theorem xo{i j pos}:PE X (.Constant (.int i) j pos) (tC (.int i)):=λ_ _ _ H _ I h=>wpAny_Constant_int ⟨.int i,H,I.tok _,⟨_,rfl⟩,h⟩
theorem Rv{b j pos}:PE X (.Constant (.bool b) j pos) (tC (.bl b)):=λ_ _ _ H _ I h=>Constant_bool ⟨.bl b,H,I,rfl,h⟩
theorem SX{j pos}:PE X (.Constant .none j pos) (tC .cE):=λ_ _ _ H _ I h=>Constant_none ⟨.cE,H,I,rfl,h⟩
theorem SY{x j pos}:PE X (.Constant (.str x) j pos) (tC (.str x)):=λ_ _ _ H _ I h=>Calls.Constant_str ⟨.str x,H,I.tok _,⟨_,rfl⟩,h⟩
def Gl(X:Cx)(x:Str):Prop:=X.env.kindOf x=some .globalImplicit
theorem ld_glob{E:cQ}{ag:List (ae×Obj)}{s:az}{σ:St}{H:Hp}{x:Str}{u:aq}{pos:Pos}{Q:cQ}(I:Inv X ag σ H s)(hg:Gl X x)(hm:X.mg x=some u)(h:Q u s)
    (hd:(x==("__debug__":Str))=false:=by decide):wpAny (model X.prog X.w) X.A (eval (.Name x pos) X.env) Q E s :=
  JC I.ok.kind hg (Calls.loadGlobal_global (by rw[I.ok.glob];exact I.mod.glob.keeps I.bk) hm h) hd
theorem ld_blt{E:cQ}{ag:List (ae×Obj)}{s:az}{σ:St}{H:Hp}{x:Str}{u:aq}{pos:Pos}{Q:cQ}(I:Inv X ag σ H s)(hg:Gl X x)(hm:X.mg x=none)(hv:bootBuiltins x=some u)(h:Q u s)
    (hn:x≠"__name__":=by decide) (hd:(x==("__debug__":Str))=false:=by decide):wpAny (model X.prog X.w) X.A (eval (.Name x pos) X.env) Q E s:=by
  obtain⟨mb,h1,h2⟩:=I.mod.blt;exact JC I.ok.kind hg (Calls.loadGlobal_builtin (by rw[I.ok.glob];exact I.mod.glob.keeps I.bk) hm (by rw[I.ok.blt];exact h1.keeps I.bk) ((h2 x hn).trans hv) h) hd
theorem E7{x:Str}{v:V}{u:aq}{pos:Pos}(hg:Gl X x)(hm:X.mg x=some u)(r:RelV v u)(hd:(x==("__debug__":Str))=false:=by decide):PE X (.Name x pos) (tC v) :=
  λ_ _ _ H _ I h=>ld_glob I hg hm ⟨v,H,I,r,h⟩ hd
theorem N6{x:Str}{v:V}{u:aq}{pos:Pos}(hg:Gl X x)(hm:X.mg x=none)(hv:bootBuiltins x=some u)(r:RelV v u)(hn:x≠"__name__":=by decide)(hd:(x==("__debug__":Str))=false:=by decide):PE X (.Name x pos) (tC v) :=
  λ_ _ _ H _ I h=>ld_blt I hg hm hv ⟨v,H,I,r,h⟩ hn hd
variable {a b:au} {ta tb:TE} {pos:Pos}
def tB(t:TE):TT:=λσ H Q=>t σ H λx H1=>∃c,x=.bl c/\Q c H1
theorem S0{e:au}{t:TE}(h:PE X e t)(he:∀ja,isTrue e X.env ja=(do let v <-ja;standAt e.pos;holding [v] (truthy v)):=by intro _;rfl):PT X e (tB t):=by
  intro ag s σ H Q I hw;refine isTrue_plain (thn (h ag s σ H _ I hw) λv s1 ⟨x,H1,I1,r1,q1⟩=>?_) (he _)
  obtain⟨d,rfl,q⟩:=q1;cases r1;exact jU ⟨H1,I1,q⟩
variable {tA Z8:TT} {rest:List au}
def ab2(t u:TT):TT:=λσ H Q=>t σ H λc H1=>if c=true then u σ H1 Q else Q false H1
def tOr(t u:TT):TT:=λσ H Q=>t σ H λc H1=>if c=true then Q true H1 else u σ H1 Q
def ab3(t:TT):TT:=λσ H Q=>t σ H λc H1=>Q (!c) H1
theorem N7(ha:PT X a tA):PW X (.BoolOp .And [a] pos) tA:=by
  intro wh ag s σ H Q I h;refine isTrue_and (thn (ha ag s σ H Q I h) λc s1 e=>?_)
  cases c with
  | true=>exact isTrue_and_nil e
  | false=>exact e
theorem S2(ha:PT X a tA):PW X (.BoolOp .Or [a] pos) tA:=by
  intro wh ag s σ H Q I h;refine isTrue_or (thn (ha ag s σ H Q I h) λc s1 e=>?_)
  cases c with
  | false=>exact isTrue_or_nil e
  | true=>exact e
theorem S3(ha:PT X a tA)(hb:PW X (.BoolOp .And (b::rest) pos) Z8):PW X (.BoolOp .And (a::b::rest) pos) (ab2 tA Z8):=by
  intro wh ag s σ H Q I h;refine isTrue_and (thn (ha ag s σ H _ I h) λc s1 ⟨H1,I1,q1⟩=>?_)
  cases c with
  | true=>exact hb wh ag s1 σ H1 Q I1 q1
  | false=>exact⟨H1,I1,q1⟩
theorem WK(ha:PT X a tA)(hb:PW X (.BoolOp .Or (b::rest) pos) Z8):PW X (.BoolOp .Or (a::b::rest) pos) (tOr tA Z8):=by
  intro wh ag s σ H Q I h;refine isTrue_or (thn (ha ag s σ H _ I h) λc s1 ⟨H1,I1,q1⟩=>?_)
  cases c with
  | true=>exact⟨H1,I1,q1⟩
  | false=>exact hb wh ag s1 σ H1 Q I1 q1
theorem S4(ha:PT X a tA):PT X (.UnaryOp .Not a pos) (ab3 tA):=by
  intro ag s σ H Q I h;exact isTrue_not (ha ag s σ H (λc H1=>Q (!c) H1) I h)
def WL(ta tb:TE):TE:=λσ H Q=>ta σ H λx H1=>∃c,x=.bl c/\if c=true then tb σ H1 Q else Q (.bl false) H1
def WM(ta:TE):TE:=λσ H Q=>ta σ H λx H1=>∃c,x=.bl c/\Q (.bl (!c)) H1
theorem S5{op}{t:TE}(h:PE X a t):PE X (.BoolOp op [a] pos) t:=λag s σ H Q I hw=>BoolOp_one (h ag s σ H Q I hw)
theorem S6(ha:PE X a ta)(hb:PE X (.BoolOp .And (b::rest) pos) tb):PE X (.BoolOp .And (a::b::rest) pos) (WL ta tb):=by
  intro ag s σ H Q I h;refine BoolOp_and (thn (ha ag s σ H _ I h) λv s1 ⟨x,H1,I1,r1,q1⟩=>?_)
  obtain⟨c,rfl,q1⟩:=q1;cases r1;refine jU ?_;cases c with
  | true=>exact hb ag s1 σ H1 Q I1 q1
  | false=>exact⟨.bl false,H1,I1,rfl,q1⟩
theorem S7(ha:PE X a ta):PE X (.UnaryOp .Not a pos) (WM ta):=by
  intro ag s σ H Q I h;refine UnaryOp_ (thn (ha ag s σ H _ I h) λv s1 ⟨x,H1,I1,r1,q1⟩=>?_)
  obtain⟨c,rfl,q1⟩:=q1;cases r1;exact not_of (jU ⟨.bl (!c),H1,I1,rfl,q1⟩)
def tIf(t:TT)(ta tb:TE):TE:=λσ H Q=>t σ H λc H1=>if c=true then ta σ H1 Q else tb σ H1 Q
theorem J6{c:au}(hc:PT X c tA)(ha:PE X a ta)(hb:PE X b tb):PE X (.IfExp c a b pos) (tIf tA ta tb):=by
  intro ag s σ H Q I h;refine wpAny_IfExp (thn (hc ag s σ H _ I h) λd s1 ⟨H1,I1,q1⟩=>?_)
  cases d with
  | true=>exact ha ag s1 σ H1 Q I1 q1
  | false=>exact hb ag s1 σ H1 Q I1 q1
end
def l8(K:aj)(H:Hp)(a:ae)(xs:List V):Prop :=
  Rd H a (.ao xs) \/
    ∃(o:Obj) (aX:Array aq) (n:Nat),K.lookup a=some o/\o.cls=.type "list"/\o.dict=none/\o.data=.seq aX n/\aX.size<=sizeLine/\Vals xs aX.toList
theorem ql.sq{K:aj}{H:Hp}{a:ae}{xs:List V}(h:ql K H a xs):l8 K H a xs:=by
  rcases h with h | ⟨aX,n,e,z,r⟩
  · exact .inl h
  · exact .inr ⟨_,aX.toArray,n,e,rfl,rfl,rfl,by simpa using z,by simpa using r⟩
def ab4:aq->Option V
  | .none=>some .cE
  | .bool b=>some (.bl b)
  | .int i _=>some (.int i)
  | .str x _=>some (.str x)
  | .bytes b _=>some (.Wq b)
  | .float b _=>some (.flt b)
  | .ref a=>some (.ref a)
  | .type n=>some (.ty n)
  | _=>none
theorem RelV.abs{x:V}{u:aq}(r:RelV x u):ab4 u=some x:=by
  cases x with
  | cE=>cases r;rfl
  | bl _=>cases r;rfl
  | int _=>obtain⟨t,rfl⟩:=r;rfl
  | str _=>obtain⟨t,rfl⟩:=r;rfl
  | Wq _=>obtain⟨t,rfl⟩:=r;rfl
  | flt _=>obtain⟨t,rfl⟩:=r;rfl
  | ref _=>cases r;rfl
  | ty _=>cases r;rfl
theorem RelV.inj{x y:V}{u:aq}(r:RelV x u)(q:RelV y u):x=y:=bM (r.abs.symm.trans q.abs)
theorem Vals.inj:∀{xs ys:List V} {us:cg},Vals xs us->Vals ys us->xs=ys
  | _,_,_,.nil,.nil=>rfl
  | _,_,_,.cons r t,.cons r' t'=>by rw[r.inj r',Vals.inj t t']
section
variable {X:Cx} {ag:List (ae×Obj)} {σ:St} {H:Hp} {s:az} {a:ae} {xs ys:List V}
theorem l8.of{K:aj}(h:H a=some (.ao xs)):l8 K H a xs:=.inl (.inl h)
theorem iA.of{K:aj}(h:H a=some (.aC xs)):iA K H a xs:=.inl (.inl h)
theorem Inv.list(I:Inv X ag σ H s)(h:l8 X.K H a xs):∃aX:cg,Vals xs aX/\PlainL s.heap a aX.toArray/\xs.length<=sizeLine:=by
  rcases h with h | ⟨o,aX,n,hk,hc,hd,hs,hz,r⟩
  · obtain⟨z,aX,n,r,e⟩:=h.ok I.hok
    exact⟨aX,r,⟨_,n,e,rfl,rfl,rfl⟩,z⟩
  · refine⟨aX.toList,r,⟨o,n,I.zj a o hk,hc,hd,by simpa using hs⟩,?_⟩
    have e:=r.length;simp only[oV]at e
    lia
theorem Inv.tuple(I:Inv X ag σ H s)(h:iA X.K H a xs):∃aX:cg,Vals xs aX/\IsTup s.heap a aX.toArray/\xs.length<=sizeLine:=by
  rcases h with h | ⟨o,aX,n,hk,hc,hs,hz,r⟩
  · obtain⟨z,aX,r,p⟩:=h.ok I.hok
    exact⟨aX,r,p,z⟩
  · refine⟨aX.toList,r,⟨o,I.zj a o hk,hc,n,by simpa using hs⟩,?_⟩
    have e:=r.length;simp only[oV]at e
    lia
theorem Inv.sU(I:Inv X ag σ H s)(h:l8 X.K H a xs)(h':l8 X.K H a ys):xs=ys:=by
  obtain⟨aX,r,⟨o,n,e,_,_,d⟩,_⟩:=I.list h;obtain⟨its',r',⟨o',n',e',_,_,d'⟩,_⟩:=I.list h';rw[e]at e';cases e';rw[d]at d';injection d' with d1 _
  have:aX=its':=by simpa using dy Array.toList d1
  subst this;exact r.inj r'
theorem Inv.pE(I:Inv X ag σ H s)(h:iA X.K H a xs)(h':iA X.K H a ys):xs=ys:=by
  obtain⟨aX,r,⟨o,e,_,n,d⟩,_⟩:=I.tuple h;obtain⟨its',r',⟨o',e',_,n',d'⟩,_⟩:=I.tuple h';rw[e]at e';cases e';rw[d]at d';injection d' with d1 _
  have:aX=its':=by simpa using dy Array.toList d1
  subst this;exact r.inj r'
end
section
variable {X:Cx} {st:aE} {rest:List aE} {t u:TS} {e:au} {te:TE} {pos:Pos}
def WN:TS:=λD σ H=>D.nx σ H
def ab5(t u:TS):TS:=λD σ H=>t {D with nx:=u D} σ H
theorem E8:qU X [] WN:=λ_ _ σ H _ I h=>w5 ⟨σ,H,I,h⟩
theorem hZ(h1:PS X st t)(h2:qU X rest u):qU X (st::rest) (ab5 t u):=by
  intro ag s σ H D I h;refine wpAny_execs_cons (thn (h1 ag s σ H {D with nx:=u D} I h) λf s1 q=>?_)
  cases f with
  | next =>
    obtain⟨c9,H',I',q⟩:=q;exact h2 ag s1 c9 H' D I' q
  | ret v=>exact q
  | brk=>exact q
  | cont=>exact q
theorem lK(h1:PS X st t):qU X [st] t:=by
  intro ag s σ H D I h;refine wpAny_execs_cons (thn (h1 ag s σ H D I h) λf s1 q=>?_)
  cases f with
  | next=>exact w5 q
  | ret v=>exact q
  | brk=>exact q
  | cont=>exact q
theorem Inv.quiet{ag:List (ae×Obj)}{σ:St}{H:Hp}{s:az}(I:Inv X ag σ H s):interactive X.env=false:=by simp[interactive,I.ok.kind]
def tDrop(te:TE):TS:=λD σ H=>te σ H λ_ H1=>D.nx σ H1
theorem g9(he:PE X e te)(hs:swapsWith e none pos.line X.env=pure false:=by rfl):PS X (.Expr e pos) (tDrop te):=by
  intro ag s σ H D I h;exact wpAny_Expr_any (thn (he ag s σ H _ I h) λv s1 ⟨x,H1,I1,r1,q1⟩=>⟨σ,H1,I1,q1⟩) I.quiet hs
def ab6(te:TE):TS:=λD σ H=>te σ H D.rt
theorem C8(he:PE X e te):PS X (.Return (some e) pos) (ab6 te):=by
  intro ag s σ H D I h;exact wpAny_Return_some (thn (he ag s σ H _ I h) λv s1 ⟨x,H1,I1,r1,q1⟩=>⟨x,σ,H1,I1,r1,q1⟩)
def WO:TS:=λD _ H=>D.rt .cE H
theorem N8:PS X (.Return none pos) WO:=λ_ _ σ H _ I h=>wpAny_Return_none ⟨.cE,σ,H,I,rfl,h⟩
def ab7(c:TT)(t u:TS):TS:=λD σ H=>c σ H λb H1=>if b=true then t D σ H1 else u D σ H1
theorem Rx{c:au}{a b:List aE}{tc:TT}(hc:PT X c tc)(ha:qU X a t)(hb:qU X b u):PS X (.If c a b pos) (ab7 tc t u):=by
  intro ag s σ H D I h;refine wpAny_If (thn (hc ag s σ H _ I h) λd s1 ⟨H1,I1,q1⟩=>?_)
  cases d with
  | true=>exact ha ag s1 σ H1 D I1 q1
  | false=>exact hb ag s1 σ H1 D I1 q1
def S8:TS:=λ_ _ _=>False
theorem J7:PS X st S8:=λ_ _ _ _ _ _ h=>h.elim
end
abbrev TG:=V->St->Hp->(St->Hp->Prop)->Prop
abbrev N9:=List V->St->Hp->(St->Hp->Prop)->Prop
def PG(X:Cx)(target:au)(t:TG):Prop :=
  ∀(ag:List (ae×Obj)) (s:az) (σ:St) (H:Hp) (v:V) (u:aq) (Q:St->Hp->Prop),Inv X ag σ H s->RelV v u->t v σ H Q ->
    wpAny (model X.prog X.w) X.A (assign target X.env u) (λ_ s'=>∃c9 H',Inv X ag c9 H' s'/\Q c9 H') X.xe s
def Jo(X:Cx)(ts:List au)(t:N9):Prop :=
  ∀(ag:List (ae×Obj)) (s:az) (σ:St) (H:Hp) (vs:List V) (us:cg) (Q:St->Hp->Prop),Inv X ag σ H s->Vals vs us->t vs σ H Q ->
    wpAny (model X.prog X.w) X.A (assignInOrder ((assignEach ts X.env).map (·.2)) us) (λ_ s'=>∃c9 H',Inv X ag c9 H' s'/\Q c9 H') X.xe s
abbrev TIp:=V->V->Hp->VK->Prop
def PIp(X:Cx)(op:Operator)(t:TIp):Prop :=
  ∀(ag:List (ae×Obj)) (s:az) (σ:St) (H:Hp) (x y:V) (v u:aq) (Q:VK),Inv X ag σ H s->RelV x v->RelV y u->t x y H Q ->
    wpAny (model X.prog X.w) X.A (inplaceOp op v u) (EP X ag σ Q) X.xe s
section
variable {X:Cx} {pos:Pos}
def gName(i:Nat):TG:=λv σ H Q=>Q (σ.set i (some v)) H
theorem E9{i:Nat}{x:Str}(hN:X.N.Nodup)(hi:X.N[i]?=some x)(hx:Rq X.env.scope x)(hf:X.fn x=true\/X.env.scope.names.lookup x=some .local:=by first | exact .inl rfl | exact .inr rfl | assumption):PG X (.Name x pos) (gName i):=by
  intro ag s σ H v u Q I r h;exact wpAny_assign_Name (sT I hN hi hx r (λs' I'=>⟨_,H,I',h⟩) hf)
def ab9:N9:=λvs σ H Q=>vs=[]/\Q σ H
def WQ(t:TG)(u:N9):N9:=λvs σ H Q=>∃v r,vs=v::r/\t v σ H λc9 H'=>u r c9 H' Q
theorem Oa:Jo X [] ab9:=by
  intro ag s σ H vs us Q I r h;obtain⟨e,h⟩:=h;subst e;cases r;exact assignInOrder_nil ⟨σ,H,I,h⟩
theorem J8{e:au}{es:List au}{t:TG}{u:N9}(h1:PG X e t)(h2:Jo X es u)
    (hs:(assignEach (e::es) X.env).map (·.2)=assign e X.env::(assignEach es X.env).map (·.2):=by rfl):Jo X (e::es) (WQ t u):=by
  intro ag s σ H vs us Q I r h;obtain⟨v,vr,e1,h⟩:=h;subst e1;cases r with
  | cons r rr =>
    rw[hs];refine assignInOrder_cons (thn (h1 ag s σ H _ _ _ I r h) λ_ s1 ⟨jI,H1,I1,q1⟩=>?_)
    exact h2 ag s1 jI H1 _ _ Q I1 rr q1
def aca(K:aj)(n:Nat)(t:N9):TG:=λv σ H Q=>∃a xs,v=.ref a/\iA K H a xs/\xs.length=n/\t xs σ H Q
theorem S9{es:List au}{k:Nat}{t:N9}{n:Nat}(hc:X.calm=true)(h:Jo X es t)
    (hn:(assignEach es X.env).length=n:=by rfl) (Hg:(assignEach es X.env).findIdx? (·.1)=none:=by rfl):PG X (.Tuple es k pos) (aca X.K n t):=by
  intro ag s σ H v u Q I r hw;obtain⟨a,xs,e1,hq,hl,hw⟩:=hw;subst e1;cases r;obtain⟨aX,rv,ht,hz⟩:=I.tuple hq;refine assign_Tuple_tuple (I.ok.hd hc) ht (by simp[hn,<-hl,rv.length]) Hg λh' hx=>?_
  have I1:Inv X ag σ H {s with heap:=h'}:=I.kept (t':=s.toks) λb o e=>hx b o (cX (bR e)) e
  exact h ag _ σ H xs _ Q I1 (by simpa using rv) hw
def nN(te:TE)(g:TG):TS:=λD σ H=>te σ H λx H1=>g x σ H1 D.nx
theorem Ta{tg e:au}{te:TE}{g:TG}(he:PE X e te)(hg:PG X tg g)(hs:swapsWithSole [tg] e pos.line X.env=pure false:=by rfl)(hw:swappedStores [tg] e X.env=pure none:=by rfl)
    (h1:(assignEach [tg] X.env).map (·.2)=[assign tg X.env]:=by rfl):PS X (.Assign [tg] e pos) (nN te g):=by
  intro ag s σ H D I h;refine wpAny_Assign_stores (thn (he ag s σ H _ I h) λv s1 ⟨x,H1,I1,r1,q1⟩=>?_) hs hw
  rw[h1];exact thn (hg ag s1 σ H1 x v _ I1 r1 q1) λ_ s2 q=>q
theorem xq{i:Nat}{x:Str}{e:au}{te:TE}{ib:Pos}(hN:X.N.Nodup)(hi:X.N[i]?=some x)(hx:Rq X.env.scope x)(he:PE X e te)(hs:swapsWith e (some (.Name x ib)) pos.line X.env=pure false:=by rfl)(hf:X.fn x=true\/X.env.scope.names.lookup x=some .local:=by first | exact .inl rfl | exact .inr rfl | assumption) :
    PS X (.Assign [.Name x ib] e pos) (nN te (gName i)):=by
  intro ag s σ H D I h;refine wpAny_Assign_Name (thn (he ag s σ H _ I h) λv s1 ⟨y,H1,I1,r1,q1⟩=>?_) hs
  exact sT I1 hN hi hx r1 (λs2 I2=>⟨_,H1,I2,q1⟩) hf
def acb(i:Nat)(te:TE)(ti:TIp):TS:=λD σ H=>∃x,σ[i]?=some (some x)/\te σ H λy H1=>ti x y H1 λz H2=>D.nx (σ.set i (some z)) H2
theorem J9{i:Nat}{x:Str}{e:au}{te:TE}{op:Operator}{ti:TIp}{ib:Pos}(hN:X.N.Nodup)(hi:X.N[i]?=some x)(hx:Rq X.env.scope x)(he:PE X e te)(ho:PIp X op ti)(hf:X.fn x=true\/X.env.scope.names.lookup x=some .local:=by first | exact .inl rfl | exact .inr rfl | assumption) :
    PS X (.AugAssign (.Name x ib) op e pos) (acb i te ti):=by
  intro ag s σ H D I h;obtain⟨v,e1,h⟩:=h;obtain⟨m,hn,hl⟩:=I.loc;have vG:VZ X.env.scope x:=by rcases hx with k | k;exact .inl k;exact .inr (.inl k)
  obtain⟨u,r,l⟩:=hl i x v hi e1 vG;refine wpAny_AugAssign_Name ?_;have go:wpAny (model X.prog X.w) X.A (eval e X.env) (λw Hh=>wpAny (model X.prog X.w) X.A (inplaceOp op u w) (λr acd=>wpAny (model X.prog X.w) X.A (storeName X.env x r) (λ_=>SP X ag D .next) X.xe acd) X.xe Hh) X.xe s:=by
    refine thn (he ag s σ H _ I h) λw s1 ⟨y,H1,I1,r1,q1⟩=>?_
    refine thn (ho ag s1 σ H1 v y u w _ I1 r r1 q1) λz s2 ⟨zv,H2,I2,r2,q2⟩=>?_
    exact sT I2 hN hi hx r2 (λs3 I3=>⟨_,H2,I3,q2⟩) hf
  rcases l with⟨hk,hm⟩ | ⟨hk,c,hc,kP⟩
  · exact wpAny_loadName_local I.ok.kind hk hn hm go
  · rcases hk with hk | hk
    · exact wpAny_loadName_cell I.ok.kind hk hc kP go
    · rcases hx with k | k
      · have:X.env.scope.names.lookup x=some .free:=hk
        rw[k]at this;cases this
      · have:X.env.scope.names.lookup x=some .free:=hk
        rw[k]at this;cases this
end
section
variable {X:Cx} {pos:Pos}
def Tb(c:TT)(tb:TS):TS:=λD σ H=>∃W:Nat->St->Hp->Prop,(∃m,W m σ H)/\∀m σ H,W m σ H ->
  c σ H λb H1=>if b=true then ∃N:St->Hp->Prop,(∀c9 H',N c9 H'->∃m',m'<m/\W m' c9 H')/\tb {D with nx:=N,ct:=N,bk:=D.nx} σ H1 else D.nx σ H1
theorem Ka{c:au}{body:List aE}{tc:TT}{tb:TS}(hp:PassesOwn (model X.prog X.w) X.A X.env X.xe)(hc:PT X c tc)(hb:qU X body tb):PS X (.While c body [] pos) (Tb tc tb):=by
  intro ag s σ H D I h;obtain⟨W,⟨m0,w0⟩,uO⟩:=h;refine wpAny_While (codeAny_whileLoop (λn s'=>∃c9 H',Inv X ag c9 H' s'/\W n c9 H') ?_ m0 ⟨σ,H,I,w0⟩)
  rintro n s1 ⟨jI,H1,I1,w1⟩
  refine mJ hp (thn (hc ag s1 jI H1 _ I1 (uO n jI H1 w1)) λb s2 ⟨H2,I2,q2⟩=>?_)
  cases b with
  | true =>
    obtain⟨N,hN,q2⟩:=q2;rw[if_pos rfl];refine mJ hp (thn (hb ag s2 jI H2 _ I2 q2) λf s3 q3=>?_)
    cases f with
    | next =>
      obtain⟨rh,H3,I3,n3⟩:=q3;obtain⟨m',hm,w3⟩:=hN rh H3 n3;exact⟨m',hm,rh,H3,I3,w3⟩
    | cont =>
      obtain⟨rh,H3,I3,n3⟩:=q3;obtain⟨m',hm,w3⟩:=hN rh H3 n3;exact⟨m',hm,rh,H3,I3,w3⟩
    | brk=>exact q3
    | ret v=>exact q3
  | false =>
    rw[if_neg iE];exact w5 ⟨jI,H2,I2,q2⟩
end
structure It where
  go:Nat->Hp->Prop
  yld:Nat->Hp->V->Hp->Prop
  stop:Nat->Hp->Prop
def xt(X:Cx)(ag:List (ae×Obj))(H:Hp)(b:ae):Prop :=
  H b=none/\b≠X.env.locals/\b∉X.fs/\(b∈X.ex\/X.s₀.heap.objs.size<=b)/\(∀x c,X.env.cells.lookup x=some c->c≠b)/\∀p∈X.pn++ag,p.1≠b
theorem Inv.Kb{X:Cx}{ag:List (ae×Obj)}{σ:St}{H H':Hp}{s:az}{b:ae}(I:Inv X ag σ H s)(hb:s.heap.objs.size<=b)(hn:H' b=none):xt X ag H' b:=by
  refine⟨hn,sd (cU I.lt hb),I.abY hb,.inr (cG I.sz hb),λx c e z=>?_,λp hp z=>?_⟩
  · obtain⟨v,q⟩:=I.cell x c e
    exact absurd (cU q.lt (by rw[z];exact hb)) (jv _)
  · exact absurd (cU (bR (I.pin p hp).1) (by rw[z];exact hb)) (jv _)
structure Turn (P:bK) (w:aW) (K:aj) (tg:au) (J:It) (fp:List ae) (it:ae) (tn:Nat->Heap->Prop):Prop where
  mem:it∈fp
  obj:∀i h,tn i h->∀b∈fp,∃o,h.get? b=some o/\∀v,o.data≠.cell v
  keep:∀i h h',tn i h->(∀b∈fp,∀o,h.get? b=some o->h'.get? b=some o)->tn i h'
  item:∀(X:Cx),X.prog=P->X.w=w->X.K=K->X.calm=true->∀(i:Nat) (ag:List (ae×Obj)) (s:az) (σ:St) (H:Hp) (E:cQ),Inv X ag σ H s->(∀b∈fp,xt X ag H b)->tn i s.heap->J.go i H ->
    wpAny (model P w) X.A (pyNext (.ref it)) (λr s1=>∃u,r=some u /\
      wpAny (model P w) X.A (letOwnedTupleGo tg (.ref it) u) (λ_ s2=>∃x H',Inv X ag σ H' s2/\RelV x u/\J.yld i H x H'/\tn (i+1) s2.heap/\∀b∈fp,H' b=none) E s1) E s
  done:∀(X:Cx),X.prog=P->X.w=w->X.K=K->X.calm=true->∀(i:Nat) (ag:List (ae×Obj)) (s:az) (σ:St) (H:Hp) (E:cQ),Inv X ag σ H s->(∀b∈fp,xt X ag H b)->tn i s.heap->J.stop i H ->
    wpAny (model P w) X.A (pyNext (.ref it)) (λr s1=>r=none/\Inv X ag σ H s1) E s
  self:∀(A:bY) (i:Nat) (s:az) (Q:cQ) (E:cQ),tn i s.heap->Q (.ref it) s->wpAny (model P w) A (pyIter (.ref it)) Q E s
abbrev TI:=St->Hp->(It->Hp->Prop)->Prop
def PIE(X:Cx)(ag:List (ae×Obj))(σ:St)(tg:au)(R:It->Hp->Prop)(itv:aq)(s2:az):Prop :=
  ∃(it:ae) (fp:List ae) (tn:Nat->Heap->Prop) (J:It) (H':Hp),itv=.ref it/\Inv X ag σ H' s2/\Turn X.prog X.w X.K tg J fp it tn/\tn 0 s2.heap/\(∀b∈fp,xt X ag H' b)/\R J H'
def PI(X:Cx)(tg iter:au)(wi:TI):Prop :=
  ∀(ag:List (ae×Obj)) (s:az) (σ:St) (H:Hp) (R:It->Hp->Prop),Inv X ag σ H s->wi σ H R ->
    wpAny (model X.prog X.w) X.A (eval iter X.env) (λv s1=>wpAny (model X.prog X.w) X.A (pyIter v) (PIE X ag σ tg R) X.xe s1) X.xe s
theorem Kc{M:Model}{A:bY}{E:cQ}{s:az}{tg:au}{it:ae}{u:aq}{o:Obj}{n:String}{vs:Array aq}{Q:Unit->az->Prop}(ho:s.heap.get? it=some o)(hc:o.cls=.type n)(hd:o.data=.fields vs)
    (hn:["enumerate","zip","dict_itemiterator","dict_reverseitemiterator","odict_iterator","itertools.zip_longest","itertools.pairwise"].contains n=false) (hQ:Q () s):wpAny M A (letOwnedTupleGo tg (.ref it) u) Q E s:=by
  unfold letOwnedTupleGo;cases tg<;>first
    | exact aN hQ
    | (cases u<;>first
        | exact aN hQ
        | (refine av (wpAny_load ho ?_)
           rw[hc,hd];show wpAny M A (if(["enumerate","zip","dict_itemiterator","dict_reverseitemiterator","odict_iterator","itertools.zip_longest","itertools.pairwise"].contains n&&vs[0]?==some (rawInt _))=true then _ else _) Q E s
           rw[if_neg (by intro h;rw[hn,Bool.false_and]at h;cases h)]
           exact aN hQ))
def V0(K:aj)(a:ae):It :=
  ⟨λi H=>∃xs x,l8 K H a xs/\xs[i]?=some x,λi H x H'=>H'=H/\∀xs,l8 K H a xs->xs[i]?=some x,λi H=>∃xs,l8 K H a xs/\xs.length<=i⟩
def Itt(K:aj)(a:ae):It :=
  ⟨λi H=>∃xs x,iA K H a xs/\xs[i]?=some x,λi H x H'=>H'=H/\∀xs,iA K H a xs->xs[i]?=some x,λi H=>∃xs,iA K H a xs/\xs.length<=i⟩
def WR(lo:Int)(n:Nat):It:=⟨λi _=>i<n,λi H x H'=>H'=H/\x=.int (lo+i),λi _=>n<=i⟩
theorem Hi{P:bK}{w:aW}{K:aj}{tg:au}(a it:ae):Turn P w K tg (V0 K a) [it] it (λi h=>h.IsListIter it a i) where
  mem:=by simp
  obj:=λi h st b hb=>by
    have e:b=it:=by simpa using hb
    subst e;obtain⟨o,e,c,d⟩:=st;exact⟨o,e,λv z=>by rw[d]at z;cases z⟩
  keep:=λi h h' st k=>st.at λo e=>k it (by simp) o e
  item:=by
    intro X hP hw hK hc i ag s σ H E I hf st hg;subst hP hw hK;obtain⟨xs,x,hq,hx⟩:=hg;obtain⟨aX,rv,p,hz⟩:=I.list hq;obtain⟨u,hu,ru⟩:=rv.get hx;obtain⟨f0,f1,f2,f3,f4,f5⟩:=hf it (by simp)
    refine wpAny_pyNext_list_item st p.isList (x:=u) (by simpa using hu) λh' oO sb=>?_
    have I1:Inv X ag σ H {s with heap:=h'}:=I.turned (t':=s.toks) (λb o hb e=>(sb.2 b hb).trans e) f0 f1 f3 f4 f5
    obtain⟨o,e,c,d⟩:=id oO;exact⟨u,rfl,Kc (s:={s with heap:=h'}) e c d (by decide) ⟨x,H,I1,ru,⟨rfl,λys hy=>by rw[I.sU hy hq];exact hx⟩,oO,λb hb=>(hf b hb).1⟩⟩
  done:=by
    intro X hP hw hK hc i ag s σ H E I hf st hg;subst hP hw hK;obtain⟨xs,hq,hx⟩:=hg;obtain⟨aX,rv,p,hz⟩:=I.list hq;obtain⟨f0,f1,f2,f3,f4,f5⟩:=hf it (by simp)
    have hl:=rv.length;exact wpAny_pyNext_list_end (I.ok.hd hc) st p.isList (by simp;lia) λh' eb=>⟨rfl,I.turned (t':=s.toks) (λb o hb e=>eb b o hb e) f0 f1 f3 f4 f5⟩
  self:=λ_ _ _ _ _ st h=>wpAny_pyIter_listiter st h
theorem C9{P:bK}{w:aW}{K:aj}{tg:au}(a it:ae):Turn P w K tg (Itt K a) [it] it (λi h=>h.IsTupleIter it a i) where
  mem:=by simp
  obj:=λi h st b hb=>by
    have e:b=it:=by simpa using hb
    subst e;obtain⟨o,e,c,d⟩:=st;exact⟨o,e,λv z=>by rw[d]at z;cases z⟩
  keep:=λi h h' st k=>st.at λo e=>k it (by simp) o e
  item:=by
    intro X hP hw hK hc i ag s σ H E I hf st hg;subst hP hw hK;obtain⟨xs,x,hq,hx⟩:=hg;obtain⟨aX,rv,p,hz⟩:=I.tuple hq;obtain⟨u,hu,ru⟩:=rv.get hx;obtain⟨f0,f1,f2,f3,f4,f5⟩:=hf it (by simp)
    refine wpAny_pyNext_tuple_item st (show s.heap.IsTuple a aX.toArray from p) (x:=u) (by simpa using hu) λh' oO sb=>?_
    have I1:Inv X ag σ H {s with heap:=h'}:=I.turned (t':=s.toks) (λb o hb e=>(sb.2 b hb).trans e) f0 f1 f3 f4 f5
    obtain⟨o,e,c,d⟩:=id oO;exact⟨u,rfl,Kc (s:={s with heap:=h'}) e c d (by decide) ⟨x,H,I1,ru,⟨rfl,λys hy=>by rw[I.pE hy hq];exact hx⟩,oO,λb hb=>(hf b hb).1⟩⟩
  done:=by
    intro X hP hw hK hc i ag s σ H E I hf st hg;subst hP hw hK;obtain⟨xs,hq,hx⟩:=hg;obtain⟨aX,rv,p,hz⟩:=I.tuple hq;obtain⟨f0,f1,f2,f3,f4,f5⟩:=hf it (by simp)
    have hl:=rv.length;exact wpAny_pyNext_tuple_end (I.ok.hd hc) st (show s.heap.IsTuple a aX.toArray from p) (by simp;lia) λh' eb=>⟨rfl,I.turned (t':=s.toks) (λb o hb e=>eb b o hb e) f0 f1 f3 f4 f5⟩
  self:=λ_ _ _ _ _ st h=>wpAny_pyIter_tupleiter st h
theorem Dc{P:bK}{w:aW}{K:aj}{tg:au}(it:ae)(lo:Int)(n:Nat):Turn P w K tg (WR lo n) [it] it (λi h=>IsRangeIter h it (lo+(i:Nat)*1) ((n:Int)-(i:Nat)) 1) where
  mem:=by simp
  obj:=λi h st b hb=>by
    have e:b=it:=by simpa using hb
    subst e;exact⟨_,st,λv z=>by
      have z':Data.fields _=Data.cell v:=z;cases z'⟩
  keep:=λi h h' st k=>k it (by simp) _ st
  item:=by
    intro X hP hw hK hc i ag s σ H E I hf st hg;subst hP hw hK;obtain⟨f0,f1,f2,f3,f4,f5⟩:=hf it (by simp)
    have W:=Walks.range (prog:=X.prog) (w:=X.w) (I.ok.hd hc) it lo 1 n;refine W.item i s _ _ hg st λv h' tk hv oO kk=>?_
    obtain⟨t,rfl⟩:=hv;have I1:Inv X ag σ H {s with heap:=h',toks:=tk}:=I.turned (λb o hb e=>kk b o (by simpa using hb) e) f0 f1 f3 f4 f5
    refine⟨_,rfl,Kc (s:={s with heap:=h',toks:=tk}) (n:="range_iterator") oO rfl rfl (by decide) ⟨.int (lo+i),H,I1,⟨t,?_⟩,⟨rfl,rfl⟩,oO,λb hb=>(hf b hb).1⟩⟩
    rw[Int.mul_one]
  done:=by
    intro X hP hw hK hc i ag s σ H E I hf st hg;subst hP hw hK;obtain⟨f0,f1,f2,f3,f4,f5⟩:=hf it (by simp)
    exact wpAny_pyNext_range_end (I.ok.hd hc) st (by have:n<=i:=hg;lia) λh' eb=>⟨rfl,I.turned (t':=s.toks) (λb o hb e=>eb b o hb e) f0 f1 f3 f4 f5⟩
  self:=λ_ _ _ _ _ st h=>wpAny_pyIter_rangeiter st h
section
variable {X:Cx} {tg:au}
def WS(K:aj)(tl:TE):TI:=λσ H R=>tl σ H λx H1=>∃a,x=.ref a/\(∃xs,l8 K H1 a xs)/\R (V0 K a) H1
def acg(K:aj)(tl:TE):TI:=λσ H R=>tl σ H λx H1=>∃a,x=.ref a/\(∃xs,iA K H1 a xs)/\R (Itt K a) H1
theorem Fb{l:au}{tl:TE}(hl:PE X l tl):PI X tg l (WS X.K tl):=by
  intro ag s σ H R I h;refine thn (hl ag s σ H _ I h) λv s1 ⟨x,H1,I1,r1,q1⟩=>?_
  obtain⟨a,e,⟨xs,hq⟩,q⟩:=q1;subst e;cases r1;obtain⟨aX,rv,p,hz⟩:=I1.list hq;refine CD p.isList ?_;refine⟨s1.heap.objs.size,[s1.heap.objs.size],_,_,H1,rfl,I1.kept (t':=s1.toks) λb o e=>cD _ e,Hi a _,⟨_,d0 _ rfl,rfl,rfl⟩,λb hb=>?_,q⟩
  have e:b=s1.heap.objs.size:=by simpa using hb
  subst e;exact I1.Kb (bc _) (I1.hok.fresh (bc _))
theorem Tc{l:au}{tl:TE}(hl:PE X l tl):PI X tg l (acg X.K tl):=by
  intro ag s σ H R I h;refine thn (hl ag s σ H _ I h) λv s1 ⟨x,H1,I1,r1,q1⟩=>?_
  obtain⟨a,e,⟨xs,hq⟩,q⟩:=q1;subst e;cases r1;obtain⟨aX,rv,p,hz⟩:=I1.tuple hq;refine wpAny_pyIter_tuple (show s1.heap.IsTuple a aX.toArray from p) ?_
  refine⟨s1.heap.objs.size,[s1.heap.objs.size],_,_,H1,rfl,I1.kept (t':=s1.toks) λb o e=>cD _ e,C9 a _,⟨_,d0 _ rfl,rfl,rfl⟩,λb hb=>?_,q⟩
  have e:b=s1.heap.objs.size:=by simpa using hb
  subst e;exact I1.Kb (bc _) (I1.hok.fresh (bc _))
theorem zW{ag:List (ae×Obj)}{σ:St}{H:Hp}{s:az}{R:It->Hp->Prop}{E:cQ}{lo hi:Int}{t u v:Tok}{tk:Nat}(I:Inv X ag σ H s)(h1:-(2^62)<=lo)(h2:lo<2^62)(h3:-(2^62)<=hi)(h4:hi<2^62)
    (q:R (WR lo (hi-lo).toNat) H):wpAny (model X.prog X.w) X.A (pyIter (.ref s.heap.objs.size)) (PIE X ag σ tg R) E {s with heap:=s.heap.push {cls:=.type "range",data:=.fields #[.int lo t,.int hi u,.int 1 v]},toks:=tk}:=by
  refine wpAny_pyIter_range (xi ..) (small_one h1 h2 h3 h4) ?_;have I1:Inv X ag σ H {s with heap:=s.heap.push {cls:=.type "range",data:=.fields #[.int lo t,.int hi u,.int 1 v]},toks:=tk}:=I.kept λb o e=>cD _ e
  refine⟨(s.heap.push {cls:=.type "range",data:=.fields #[.int lo t,.int hi u,.int 1 v]}).objs.size,[(s.heap.push {cls:=.type "range",data:=.fields #[.int lo t,.int hi u,.int 1 v]}).objs.size],_,_,H,rfl,
    I1.kept (t':=tk) λb o e=>cD _ e,Dc _ lo (hi-lo).toNat,?_,λb hb=>?_,q⟩
  · have e1:lo+((0:Nat):Int)*1=lo:=by simp
    have e2:(((hi-lo).toNat:Nat):Int)-((0:Nat):Int)=Builtin.Range.rangeSize lo hi 1:=by rw[rangeSize_one];split<;>lia
    show IsRangeIter _ _ (lo+((0:Nat):Int)*1) ((((hi-lo).toNat:Nat):Int)-((0:Nat):Int)) 1;rw[e1,e2];exact d0 _ rfl
  · have e:b=(s.heap.push {cls:=.type "range",data:=.fields #[.int lo t,.int hi u,.int 1 v]}).objs.size:=by simpa using hb
    subst e;exact I1.Kb (bc _) (I1.hok.fresh (bc _))
def WT(ta:TA):TI:=λσ H R=>ta σ H λvs H1=>∃j:Int,vs=[.int j] /\ -(2^62)<=j/\j<2^62/\R (WR 0 j.toNat) H1
def WU(ta:TA):TI:=λσ H R=>ta σ H λvs H1=>∃i j:Int,vs=[.int i,.int j]/\(-(2^62)<=i/\i<2^62 /\ -(2^62)<=j/\j<2^62)/\R (WR i (j-i).toNat) H1
theorem Hj{a:au}{ta:TA}{p pos:Pos}(hg:Gl X "range")(hm:X.mg "range"=none)(ha:PA X [a] ta)(hs:starEach [a] X.env=[(false,eval a X.env)]:=by rfl):PI X tg (.Call (.Name "range" p) [a] [] pos) (WT ta):=by
  intro ag s σ H R I h;refine Call_ (ld_blt I hg hm boot_range (mF (thn (ha pos ag s σ H _ I h) λus s1 ⟨vs,H1,I1,r1,q1⟩=>?_) hs rfl))
  obtain⟨j,e,q1,q2,q⟩:=q1;subst e;cases r1 with
  | cons r rr =>
    cases rr;obtain⟨t,rfl⟩:=r;exact call_range_1 (zW I1 (by lia) (by lia) q1 q2 (by simpa using q))
theorem Hk{a b:au}{ta:TA}{p pos:Pos}(hg:Gl X "range")(hm:X.mg "range"=none)(ha:PA X [a,b] ta)(hs:starEach [a,b] X.env=[(false,eval a X.env),(false,eval b X.env)]:=by rfl)(Ry:starEach [b] X.env=[(false,eval b X.env)]:=by rfl) :
    PI X tg (.Call (.Name "range" p) [a,b] [] pos) (WU ta):=by
  intro ag s σ H R I h;refine Call_ (ld_blt I hg hm boot_range (mF (thn (ha pos ag s σ H _ I h) λus s1 ⟨vs,H1,I1,r1,q1⟩=>?_) (by rw[hs,Ry]) (by rw[Ry];rfl)))
  obtain⟨i,j,e,⟨q1,q2,q3,q4⟩,q⟩:=q1;subst e;cases r1 with
  | cons r rr =>
    cases rr with
    | cons r' rr =>
      cases rr;obtain⟨t,rfl⟩:=r;obtain⟨t',rfl⟩:=r';exact call_range_2 (zW I1 q1 q2 q3 q4 q)
def ach(wi:TI)(g:TG)(tb:TS):TS:=λD σ H=>wi σ H λJ H1=>∃W:Nat->Nat->St->Hp->Prop,(∃m,W 0 m σ H1)/\∀i m σ H,W i m σ H ->
  (J.stop i H/\D.nx σ H)\/(J.go i H/\∃N:St->Hp->Prop,(∀c9 H',N c9 H'->∃m',m'<m/\W (i+1) m' c9 H')/\∀x H',J.yld i H x H'->g x σ H' λB6 H2=>tb {D with nx:=N,ct:=N,bk:=D.nx} B6 H2)
def sW(fp:List ae)(h:Heap):List (ae×Obj):=fp.filterMap λb=>(h.get? b).map λo=>(b,o)
theorem jZ{fp:List ae}{h:Heap}{b:ae}{o:Obj}(hb:b∈fp)(e:h.get? b=some o):(b,o)∈sW fp h:=wX.mpr ⟨b,hb,by rw[e];rfl⟩
theorem Hl{fp:List ae}{h:Heap}{p:ae×Obj}(hp:p∈sW fp h):p.1∈fp/\h.get? p.1=some p.2:=by
  obtain⟨b,hb,e⟩:=wX.mp hp;cases q:h.get? b with
  | none=>rw[q]at e;cases e
  | some o =>
    rw[q]at e;have e':(b,o)=p:=bM e;subst e';exact⟨hb,q⟩
theorem Inv.pinned{ag:List (ae×Obj)}{σ:St}{H:Hp}{s:az}{fp:List ae}(I:Inv X ag σ H s)(hf:∀b∈fp,xt X ag H b)(ho:∀b∈fp,∃o,s.heap.get? b=some o/\∀v,o.data≠.cell v):Inv X (ag++sW fp s.heap) σ H s :=
  I.nM λp hp=>(cW.mp hp).elim (λz=>I.pin p (dH _ z)) λz=>by
    obtain⟨hb,e⟩:=Hl z;obtain⟨f0,f1,f2,_⟩:=hf p.1 hb;obtain⟨o,e',d⟩:=ho p.1 hb;rw[e]at e';cases e';exact⟨e,f0,f1,f2,d⟩
theorem Inv.sX{ag pl:List (ae×Obj)}{σ:St}{H:Hp}{s:az}(I:Inv X (ag++pl) σ H s):Inv X ag σ H s:=I.nM λp hp=>I.pin p (dH _ (iD _ hp))
theorem Ke{iter:au}{body:List aE}{wi:TI}{g:TG}{tb:TS}{pos:Pos}(hp:PassesOwn (model X.prog X.w) X.A X.env X.xe)(hc:X.calm=true)(hi:PI X tg iter wi)(hg:PG X tg g)(hb:qU X body tb)
    (hs:∀x,foldedSetIterable iter X.env x=pure x:=by intro _;rfl):PS X (.For tg iter body [] pos) (ach wi g tb):=by
  intro ag s σ H D I h;refine wpAny_For (thn (hi ag s σ H _ I h) λv s1 h1=>thn h1 λitv s2 h2=>?_) hs
  obtain⟨it,fp,tn,J,H2,e,I2,T,V1,f2,W,⟨m0,w0⟩,uO⟩:=h2;subst e;have Dd:∀{H':Hp},(∀b∈fp,H' b=none)->∀b∈fp,xt X ag H' b:=λhn b hb=>⟨hn b hb,(f2 b hb).2⟩
  refine codeAny_forLoop_any (λn s'=>∃i c9 H',Inv X ag c9 H' s'/\tn i s'.heap/\(∀b∈fp,H' b=none)/\W i n c9 H') ?_ m0 ⟨0,σ,H2,I2,V1,λb hb=>(f2 b hb).1,w0⟩
  rintro n s3 ⟨i,rh,H3,I3,st3,fr3,w3⟩
  rcases uO i n rh H3 w3 with⟨stop,qn⟩ | ⟨go,N,hN,step⟩
  · refine mJ hp (thn (T.done X rfl rfl rfl hc i ag s3 rh H3 X.xe I3 (Dd fr3) st3 stop) λr s4 ⟨hr,I4⟩=>?_)
    subst hr;exact w5 ⟨rh,H3,I4,qn⟩
  · refine mJ hp (thn (T.item X rfl rfl rfl hc i ag s3 rh H3 X.xe I3 (Dd fr3) st3 go) λr s4 ⟨u,hr,h4⟩=>?_)
    subst hr;refine mJ hp (thn h4 λ_ s5 ⟨x,H5,I5,r5,y5,Td,fr5⟩=>?_)
    have I5':=I5.pinned (Dd fr5) (T.obj _ _ Td);refine mJ hp (thn (hg _ s5 rh H5 x u _ I5' r5 (step x H5 y5)) λ_ s6 ⟨Z9,H6,I6,q6⟩=>?_)
    refine mJ hp (thn (hb _ s6 Z9 H6 _ I6 q6) λf s7 q7=>?_)
    have again:∀{Kf:St} {H7:Hp},Inv X (ag++sW fp s5.heap) Kf H7 s7->N Kf H7->∃m,m<n/\∃i c9 H',Inv X ag c9 H' s7/\tn i s7.heap/\(∀b∈fp,H' b=none)/\W i m c9 H':=λ{Kf H7} I7 n7=>by
      obtain⟨m',hm,w7⟩:=hN Kf H7 n7;refine⟨m',hm,i+1,Kf,H7,I7.sX,T.keep _ _ _ Td λb hb o e=>(I7.pin (b,o) (dH _ (dH _ (jZ hb e)))).1,λb hb=>?_,w7⟩
      obtain⟨o,e,d⟩:=T.obj _ _ Td b hb;exact(I7.pin (b,o) (dH _ (dH _ (jZ hb e)))).2.1
    cases f with
    | next=>obtain⟨Kf,H7,I7,n7⟩:=q7;exact again I7 n7
    | cont=>obtain⟨Kf,H7,I7,n7⟩:=q7;exact again I7 n7
    | brk=>obtain⟨Kf,H7,I7,q7⟩:=q7;exact⟨Kf,H7,I7.sX,q7⟩
    | ret v=>obtain⟨x7,Kf,H7,I7,r7,q7⟩:=q7;exact⟨x7,Kf,H7,I7.sX,r7,q7⟩
end
theorem Kg{K:aj}{a:ae}{xs:List V}{g:TG}{tb:TS}{D:kO}{σ:St}{H:Hp}(Pv:Nat->St->Hp->Prop)(h0:Pv 0 σ H)(hl:∀i σ H,i<=xs.length->Pv i σ H->l8 K H a xs)
    (hs:∀i x σ H,xs[i]?=some x->Pv i σ H->g x σ H λB6 H2=>tb {D with nx:=Pv (i+1),ct:=Pv (i+1),bk:=D.nx} B6 H2) (hd:∀σ H,Pv xs.length σ H->D.nx σ H) :
    ∃W:Nat->Nat->St->Hp->Prop,(∃m,W 0 m σ H)/\∀i m σ H,W i m σ H ->
      ((V0 K a).stop i H/\D.nx σ H)\/((V0 K a).go i H/\∃N:St->Hp->Prop,(∀c9 H',N c9 H'->∃m',m'<m/\W (i+1) m' c9 H')/\∀x H',(V0 K a).yld i H x H'->g x σ H' λB6 H2=>tb {D with nx:=N,ct:=N,bk:=D.nx} B6 H2):=by
  refine⟨λi m σ H=>m=xs.length-i/\i<=xs.length/\Pv i σ H,⟨xs.length,by simp,gr _,h0⟩,?_⟩
  rintro i m σ H ⟨rfl,hi,p⟩
  have q:=hl i σ H hi p;by_cases fg:i<xs.length
  · refine .inr ⟨⟨xs,xs[i],q,by simp[fg]⟩,Pv (i+1),λc9 H' p'=>⟨xs.length-(i+1),by lia,rfl,fg,p'⟩,λx H' y=>?_⟩
    obtain⟨e,y⟩:=y;subst e;exact hs i x σ _ (y xs q) p
  · have e:i=xs.length:=by lia
    subst e;exact .inl ⟨⟨xs,q,bc _⟩,hd σ H p⟩
abbrev R2:=V->V->Hp->VK->Prop
def OpR(X:Cx)(f:aq->aq->Sem aq)(r:R2):Prop :=
  ∀(ag:List (ae×Obj)) (s:az) (σ:St) (H:Hp) (x y:V) (v u:aq) (Q:VK),Inv X ag σ H s->RelV x v->RelV y u->r x y H Q ->
    wpAny (model X.prog X.w) X.A (f v u) (EP X ag σ Q) X.xe s
def UnR(X:Cx)(f:aq->Sem aq)(r:V->Hp->VK->Prop):Prop :=
  ∀(ag:List (ae×Obj)) (s:az) (σ:St) (H:Hp) (x:V) (v:aq) (Q:VK),Inv X ag σ H s->RelV x v->r x H Q ->
    wpAny (model X.prog X.w) X.A (f v) (EP X ag σ Q) X.xe s
def kQ(X:Cx)(f:aq)(r:List V->Hp->VK->Prop):Prop :=
  ∀(ag:List (ae×Obj)) (s:az) (σ:St) (H:Hp) (xs:List V) (us:cg) (Q:VK),Inv X ag σ H s->Vals xs us->r xs H Q ->
    wpAny (model X.prog X.w) X.A (call f us) (EP X ag σ Q) X.xe s
def ack(X:Cx)(r:V->Hp->(Bool->Hp->Prop)->Prop):Prop :=
  ∀(ag:List (ae×Obj)) (s:az) (σ:St) (H:Hp) (x:V) (v:aq) (Q:Bool->Hp->Prop),Inv X ag σ H s->RelV x v->r x H Q ->
    wpAny (model X.prog X.w) X.A (truthy v) (TP X ag σ Q) X.xe s
def V2(r:R2)(ta tb:TE):TE:=λσ H Q=>ta σ H λx H1=>tb σ H1 λy H2=>r x y H2 Q
def tUn(r:V->Hp->VK->Prop)(ta:TE):TE:=λσ H Q=>ta σ H λx H1=>r x H1 Q
def rI(C:Int->Int->Prop)(g:Int->Int->V):R2:=λx y H Q=>∃i j,x=.int i/\y=.int j/\C i j/\Q (g i j) H
def De(g:Int->Int->V):R2:=λx y H Q=>∃i j,x=.int i/\y=.int j/\Q (g i j) H
def rU(g:Int->V):V->Hp->VK->Prop:=λx H Q=>∃i,x=.int i/\Q (g i) H
section
variable {X:Cx} {a b c:au} {ta tb tc:TE} {pos:Pos}
theorem Te(ha:PE X a ta)(hb:PE X b tb){ag:List (ae×Obj)}{s:az}{σ:St}{H:Hp}{R:V->V->Hp->Prop}(I:Inv X ag σ H s)
    (h:ta σ H λx H1=>tb σ H1 λy H2=>R x y H2) {Q:cQ} {f:aq->aq->Sem aq}
    (hf:∀v u s2 x y H2,Inv X ag σ H2 s2->RelV x v->RelV y u->R x y H2->wpAny (model X.prog X.w) X.A (f v u) Q X.xe s2) :
    wpAny (model X.prog X.w) X.A (eval a X.env) (λv s₁=>wpAny (model X.prog X.w) X.A (eval b X.env) (λu Hh=>wpAny (model X.prog X.w) X.A (f v u) Q X.xe Hh) X.xe s₁) X.xe s:=by
  refine thn (ha ag s σ H _ I h) λv s1 ⟨x,H1,I1,r1,q1⟩=>?_
  refine thn (hb ag s1 σ H1 _ I1 q1) λu s2 ⟨y,H2,I2,r2,q2⟩=>?_
  exact hf v u s2 x y H2 I2 r1 r2 q2
theorem Rz{op:Operator}{r:R2}(ho:OpR X (binaryOp op) r)(ha:PE X a ta)(hb:PE X b tb):PE X (.BinOp a op b pos) (V2 r ta tb):=by
  intro ag s σ H Q I h;exact wpAny_BinOp (Te ha hb I h λv u s2 x y H2 I2 rx ry q=>ho ag s2 σ H2 x y v u Q I2 rx ry q)
theorem RA{op:UnaryOp}{r:V->Hp->VK->Prop}(ho:UnR X (unaryOp op) r)(ha:PE X a ta):PE X (.UnaryOp op a pos) (tUn r ta):=by
  intro ag s σ H Q I h;exact UnaryOp_ (thn (ha ag s σ H _ I h) λv s1 ⟨x,H1,I1,r1,q1⟩=>ho ag s1 σ H1 x v Q I1 r1 q1)
theorem opI{f:aq->aq->Sem aq}{C:Int->Int->Prop}{g:Int->Int->Int}
    (rule:∀(i j:Int) (t u:Tok) (s:az) (Q:cQ) (E:cQ),C i j->Q (.int (g i j) s.toks) {s with toks:=s.toks+1}->wpAny (model X.prog X.w) X.A (f (.int i t) (.int j u)) Q E s) :
    OpR X f (rI C λi j=>.int (g i j)):=by
  intro ag s σ H x y v u Q I rx ry h;obtain⟨i,j,rfl,rfl,hc,q⟩:=h;obtain⟨t,rfl⟩:=rx;obtain⟨t',rfl⟩:=ry;exact rule i j t t' s _ _ hc ⟨.int (g i j),H,I.tok _,⟨_,rfl⟩,q⟩
theorem Oc{f:aq->aq->Sem aq}{g:Int->Int->Int}
    (rule:∀(i j:Int) (t u:Tok) (s:az) (Q:cQ) (E:cQ),Q (.int (g i j) s.toks) {s with toks:=s.toks+1}->wpAny (model X.prog X.w) X.A (f (.int i t) (.int j u)) Q E s) :
    OpR X f (De λi j=>.int (g i j)):=by
  intro ag s σ H x y v u Q I rx ry h;obtain⟨i,j,rfl,rfl,q⟩:=h;obtain⟨t,rfl⟩:=rx;obtain⟨t',rfl⟩:=ry;exact rule i j t t' s _ _ ⟨.int (g i j),H,I.tok _,⟨_,rfl⟩,q⟩
theorem Od{f:aq->aq->Sem aq}{g:Int->Int->Bool}
    (rule:∀(i j:Int) (t u:Tok) (s:az) (Q:cQ) (E:cQ),Q (.bool (g i j)) s->wpAny (model X.prog X.w) X.A (f (.int i t) (.int j u)) Q E s) :
    OpR X f (De λi j=>.bl (g i j)):=by
  intro ag s σ H x y v u Q I rx ry h;obtain⟨i,j,rfl,rfl,q⟩:=h;obtain⟨t,rfl⟩:=rx;obtain⟨t',rfl⟩:=ry;exact rule i j t t' s _ _ ⟨.bl (g i j),H,I,rfl,q⟩
def acm(i j:Int):Prop:=0<j/\j<1073741824
def acn(i j:Int):Prop:=0<=j/\j<=1000000/\i.natAbs<2^64
def Tf(i j:Int):Prop:=(-(2^64)<i/\i<2^64)\/(-(2^64)<j/\j<2^64)
theorem Tf.ok{i j:Int}(h:Tf i j):IntMulOk i j:=by
  rcases h with⟨h1,h2⟩ | ⟨h1,h2⟩
  · exact .of_left (intBits_le_64 h1 h2)
  · exact .of_right (intBits_le_64 h1 h2)
theorem Tg:OpR X (binaryOp .Add) (De λi j=>.int (i+j)):=Oc λ_ _ _ _ _ _ _ q=>add_int q
theorem Th:OpR X (binaryOp .Sub) (De λi j=>.int (i-j)):=Oc λ_ _ _ _ _ _ _ q=>sub_int q
theorem Ti:OpR X (binaryOp .Mult) (rI Tf λi j=>.int (i*j)):=opI λ_ _ _ _ _ _ _ hc q=>mul_int q hc.ok
theorem Oe:OpR X (binaryOp .FloorDiv) (rI acm λi j=>.int (i/j)):=opI λi j _ _ _ _ _ hc q=>by
  have h1:(0:Int)<j:=hc.1;have h2:j<1073741824:=hc.2;exact floordiv_int (by lia) (by rw[Int.fdiv_eq_ediv_of_nonneg i (by lia)];exact q) (.inl (PyProof.noPylong_small (by lia)))
theorem Tj:OpR X (binaryOp .Mod) (rI (λ_ j=>0<j) λi j=>.int (i%j)):=opI λi j _ _ _ _ _ hc q=>by
  have h1:(0:Int)<j:=hc;exact mod_int' (by lia) (by rw[Int.fmod_eq_emod_of_nonneg i (by lia)];exact q)
theorem Tn:OpR X (binaryOp .Pow) (rI acn λi j=>.int (i^j.toNat)):=opI λ_ _ _ _ _ _ _ hc q=>pow_int_small hc.1 hc.2.1 hc.2.2 q
theorem iop_add:OpR X (inplaceOp .Add) (De λi j=>.int (i+j)):=Oc λ_ _ _ _ _ _ _ q=>iadd_int q
theorem Of:OpR X (inplaceOp .Sub) (De λi j=>.int (i-j)):=Oc λ_ _ _ _ _ _ _ q=>isub_int q
theorem unI{f:aq->Sem aq}{g:Int->Int}
    (rule:∀(i:Int) (t:Tok) (s:az) (Q:cQ) (E:cQ),Q (.int (g i) s.toks) {s with toks:=s.toks+1}->wpAny (model X.prog X.w) X.A (f (.int i t)) Q E s) :
    UnR X f (rU λi=>.int (g i)):=by
  intro ag s σ H x v Q I rx h;obtain⟨i,rfl,q⟩:=h;obtain⟨t,rfl⟩:=rx;exact rule i t s _ _ ⟨.int (g i),H,I.tok _,⟨_,rfl⟩,q⟩
theorem Kh:UnR X (unaryOp .USub) (rU λi=>.int (-i)):=unI λ_ _ _ _ _ q=>neg_int q
end
section
variable {X:Cx} {a b c:au} {ta tb tc:TE} {pos:Pos}
theorem Ki{ag:List (ae×Obj)}{σ:St}{H:Hp}{s:az}{Q:VK}{k k':Bool}(I:Inv X ag σ H s)(q:Q (.bl k) H)(e:k=k'):EP X ag σ Q (.bool k') s:=by
  subst e;exact⟨.bl k,H,I,rfl,q⟩
theorem RB:OpR X (compareOp .Lt) (De λi j=>.bl (decide (i<j))):=Od λ_ _ _ _ _ _ _ q=>lt_int q
theorem WV:OpR X (compareOp .LtE) (De λi j=>.bl (decide (i<=j))):=Od λ_ _ _ _ _ _ _ q=>le_int q
theorem WX:OpR X (compareOp .Gt) (De λi j=>.bl (decide (j<i))):=Od λ_ _ _ _ _ _ _ q=>gt_int q
theorem WY:OpR X (compareOp .GtE) (De λi j=>.bl (decide (j<=i))):=Od λ_ _ _ _ _ _ _ q=>ge_int q
theorem To:OpR X (compareOp .Is) (λx y H Q=>y=.cE/\Q (.bl (decide (x=.cE))) H):=by
  intro ag s σ H x y v u Q I rx ry h;obtain⟨rfl,q⟩:=h;cases ry;refine is_none_gen (Ki I q ?_);cases x<;>first
    | (cases rx;rfl)
    | (obtain⟨t,rfl⟩:=rx;rfl)
theorem Og:OpR X (compareOp .IsNot) (λx y H Q=>y=.cE/\Q (.bl (!decide (x=.cE))) H):=by
  intro ag s σ H x y v u Q I rx ry h;obtain⟨rfl,q⟩:=h;cases ry;refine isnot_none_gen (Ki I q ?_);cases x<;>first
    | (cases rx;rfl)
    | (obtain⟨t,rfl⟩:=rx;rfl)
theorem Oh{op:CmpOp}{r:R2}(ho:OpR X (compareOp op) r)(ha:PE X a ta)(hb:PE X b tb)(hm:behindInMarks op b=false):PE X (.Compare a [op] [b] pos) (V2 r ta tb):=by
  intro ag s σ H Q I h;exact wpAny_Compare1 (Te ha hb I h λv u s2 x y H2 I2 rx ry q=>ho ag s2 σ H2 x y v u Q I2 rx ry q) hm
def RC(t:TE):TT:=λσ H Q=>t σ H λx H'=>∃k,x=.bl k/\Q k H'
theorem nO{op:CmpOp}{r:R2}(ho:OpR X (compareOp op) r)(ha:PE X a ta)(hb:PE X b tb)(hm:behindInMarks op b=false):PT X (.Compare a [op] [b] pos) (RC (V2 r ta tb)):=by
  intro ag s σ H Q I h;refine wpAny_isTrue_Compare1 (thn (ha ag s σ H _ I h) λv s1 ⟨x,H1,I1,r1,q1⟩=>thn (hb ag s1 σ H1 _ I1 q1) λu s2 ⟨y,H2,I2,r2,q2⟩ =>
    thn (ho ag s2 σ H2 x y v u _ I2 r1 r2 q2) λc s3 ⟨z,H3,I3,r3,k,e,q3⟩=>?_) hm
  subst e;cases r3;exact jU ⟨H3,I3,q3⟩
def Kj(r r':R2)(ta tb tc:TE):TE:=λσ H Q=>ta σ H λx H1=>tb σ H1 λy H2=>r x y H2 λz H3=>∃k,z=.bl k /\
  (if k=true then tc σ H3 λw' H4=>r' y w' H4 Q else Q (.bl false) H3)
theorem Kk{op xu:CmpOp}{r r':R2}(ho:OpR X (compareOp op) r)(xm:OpR X (compareOp xu) r')(ha:PE X a ta)(hb:PE X b tb)(hc:PE X c tc)
    (hm:lastMarks [op,xu] [b,c]=false:=by with_unfolding_all rfl):PE X (.Compare a [op,xu] [b,c] pos) (Kj r r' ta tb tc):=by
  intro ag s σ H Q I h;refine Compare_chain (thn (ha ag s σ H _ I h) λv s1 ⟨x,H1,I1,r1,q1⟩=>chain_link (thn (hb ag s1 σ H1 _ I1 q1) λu s2 ⟨y,H2,I2,r2,q2⟩ =>
    thn (ho ag s2 σ H2 x y v u _ I2 r1 r2 q2) λd s3 ⟨z,H3,I3,r3,k,e,q3⟩=>?_)) hm
  subst e;cases r3;refine jU ?_;cases k with
  | false=>exact ite_ff ⟨.bl false,H3,I3,rfl,q3⟩
  | true=>exact ite_tt (chain_last (thn (hc ag s3 σ H3 _ I3 q3) λw' s4 ⟨z',H4,I4,r4,q4⟩=>xm ag s4 σ H4 y z' u w' Q I4 r2 r4 q4))
theorem Kl{op xu:CmpOp}{r r':R2}(ho:OpR X (compareOp op) r)(xm:OpR X (compareOp xu) r')(ha:PE X a ta)(hb:PE X b tb)(hc:PE X c tc)
    (hm:lastMarks [op,xu] [b,c]=false:=by with_unfolding_all rfl):PT X (.Compare a [op,xu] [b,c] pos) (RC (Kj r r' ta tb tc)):=by
  intro ag s σ H Q I h;refine isTrue_chain (thn (ha ag s σ H _ I h) λv s1 ⟨x,H1,I1,r1,q1⟩=>test_link (thn (hb ag s1 σ H1 _ I1 q1) λu s2 ⟨y,H2,I2,r2,q2⟩ =>
    thn (ho ag s2 σ H2 x y v u _ I2 r1 r2 q2) λd s3 ⟨z,H3,I3,r3,k,e,q3⟩=>?_)) hm
  subst e;cases r3;refine jU ?_;cases k with
  | false =>
    obtain⟨k',e',q'⟩:=q3;cases e';exact ite_ff ⟨H3,I3,q'⟩
  | true =>
    refine ite_tt (test_last (thn (hc ag s3 σ H3 _ I3 q3) λw' s4 ⟨z',H4,I4,r4,q4⟩=>thn (xm ag s4 σ H4 y z' u w' _ I4 r2 r4 q4) λd' s5 ⟨z2,H5,I5,r5,k2,e2,q5⟩=>?_))
    subst e2;cases r5;exact jU ⟨H5,I5,q5⟩
def WZ(K:aj)(x:V)(H:Hp)(k:Bool):Prop :=
  match x with
  | .cE=>k=false
  | .bl b=>k=b
  | .int i=>k=(i != 0)
  | .str y=>y.length<=sizeLine/\k=((y.length:Int) != 0)
  | .Wq y=>y.size<=sizeLine/\k=((y.size:Int) != 0)
  | .ref p=>(∃xs,l8 K H p xs/\k = !xs.isEmpty)\/(∃xs,iA K H p xs/\k = !xs.isEmpty)\/∃kvs,H p=some (.dK kvs)/\k = !kvs.isEmpty
  | _=>False
theorem Df{κ:Type}{kvs:List (κ×V)}{vs:List (κ×aq)}(r:KV kvs vs):(!vs.isEmpty) = !kvs.isEmpty:=by
  cases r<;>rfl
theorem sY{xs:List V}{aX:cg}(r:Vals xs aX):(!aX.toArray.isEmpty) = !xs.isEmpty:=by
  cases r<;>simp
theorem pG:(sizeLine:Nat)<2^63:=by rw[sizeLine_eq];decide
theorem Tp:ack X (λx H Q=>∃k,WZ X.K x H k/\Q k H):=by
  intro ag s σ H x v Q I rx h;obtain⟨k,e,q⟩:=h;have hl:=pG;have hs:sizeLine=16777216:=sizeLine_eq;cases x with
  | cE =>
    cases rx;have e':k=false:=e;subst e';exact truthy_none ⟨H,I,q⟩
  | bl b =>
    cases rx;have e':k=b:=e;subst e';exact jU ⟨H,I,q⟩
  | int i =>
    obtain⟨t,rfl⟩:=rx;have e':k=(i != 0):=e;subst e';exact PySem.P.truthy_int ⟨H,I,q⟩
  | str y =>
    obtain⟨t,rfl⟩:=rx;obtain⟨hy,e'⟩:y.length<=sizeLine/\k=((y.length:Int) != 0):=e;subst e';exact PySem.P.truthy_str (by lia) ⟨H,I.tok _,q⟩
  | Wq y =>
    obtain⟨t,rfl⟩:=rx;obtain⟨hy,e'⟩:y.size<=sizeLine/\k=((y.size:Int) != 0):=e;subst e';exact W.truthy_bytes (by lia) ⟨H,I.tok _,q⟩
  | ref p =>
    cases rx;have e':(∃xs,l8 X.K H p xs/\k = !xs.isEmpty)\/(∃xs,iA X.K H p xs/\k = !xs.isEmpty)\/∃kvs,H p=some (.dK kvs)/\k = !kvs.isEmpty:=e
    rcases e' with⟨xs,hx,e'⟩ | ⟨xs,hx,e'⟩ | ⟨kvs,hx,e'⟩
    · subst e'
      obtain⟨aX,r,pl,hz⟩:=I.list hx;have dD:=r.length;exact wpAny_truthy_list pl.isList (by simp only[bI];lia) ⟨H,I.tok _,by rw[sY r];exact q⟩
    · subst e'
      obtain⟨aX,r,pl,hz⟩:=I.tuple hx;have dD:=r.length;exact truthy_tuple pl (by simp only[bI];lia) ⟨H,I.tok _,by rw[sY r];exact q⟩
    · subst e'
      obtain⟨hz,hS,vs,r,m⟩:kvs.length<=sizeLine/\(p==sysModules)=false/\∃vs,KV kvs vs/\s.heap.DictOf (gf X.prog X.w) p vs:=I.hok p _ hx
      have dD:kvs.length=vs.length:=xc r;exact wpAny_truthy_dict hS m (by lia) ⟨H,I.tok _,by rw[Df r];exact q⟩
  | _=>exact(show False from e).elim
theorem Dg:OpR X (binaryOp .Add) (λx y H Q=>∃i j,x=.str i/\y=.str j/\i.length+j.length<=sizeLine/\Q (.str (i++j)) H):=by
  intro ag s σ H x y v u Q I rx ry h;obtain⟨i,j,rfl,rfl,hz,q⟩:=h;obtain⟨t,rfl⟩:=rx;obtain⟨t',rfl⟩:=ry;exact add_str (λt' tk=>⟨.str (i++j),H,I.tok _,⟨_,rfl⟩,q⟩) hz
theorem kj{x:V}{us:cg}(r:Vals [x] us):∃u,us=[u]/\RelV x u:=by
  cases r with
  | cons r1 r2=>cases r2;exact⟨_,rfl,r1⟩
theorem Km{x y:V}{us:cg}(r:Vals [x,y] us):∃u w',us=[u,w']/\RelV x u/\RelV y w':=by
  cases r with
  | cons r1 r2 =>
    cases r2 with
    | cons r3 r4=>cases r4;exact⟨_,_,rfl,r1,r3⟩
theorem vH:kQ X (.type "int") (λxs H Q=>(∃i,xs=[.int i]/\Q (.int i) H)\/∃k,xs=[.bl k]/\Q (.int (if k then 1 else 0)) H):=by
  intro ag s σ H xs us Q I r h;rcases h with⟨i,rfl,q⟩ | ⟨k,rfl,q⟩
  · obtain⟨u,rfl,t,rfl⟩:=kj r
    exact call_int_int ⟨.int i,H,I,⟨_,rfl⟩,q⟩
  · obtain⟨u,rfl,r1⟩:=kj r
    cases r1;exact call_int_bool ⟨.int (if k then 1 else 0),H,I.tok _,⟨_,rfl⟩,q⟩
theorem xw:kQ X (.type "str") (λxs H Q=>∃i,xs=[.int i]/\i.natAbs.log2<1920/\Q (.str (toString i)) H):=by
  intro ag s σ H xs us Q I r h;obtain⟨i,rfl,hz,q⟩:=h;obtain⟨u,rfl,t,rfl⟩:=kj r;exact PySem.P.str_of_int hz ⟨.str _,H,I.tok _,⟨_,rfl⟩,q⟩
end
structure eJ (k:Nat) (A:bY):Prop where
  hd:A.handled=none
  dp:A.depth+3*k+5<recursionLimit
  un:A.units+16*k+1200<cLine
theorem eJ.mono{j k:Nat}{A:bY}(r:eJ k A)(h:j<=k):eJ j A:=⟨r.hd,by have:=r.dp;lia,by have:=r.un;lia⟩
theorem eJ.deeper{k:Nat}{A:bY}(r:eJ (k+1) A)(env:Env):eJ k (A.deeper env) :=
  ⟨r.hd,by have:=r.dp;show A.depth+1+3*k+5<_;lia,by have:=r.un;show A.units+3+16*k+1200<_;lia⟩
theorem eJ.depth{k:Nat}{A:bY}(r:eJ k A):A.depth<recursionLimit:=by have:=r.dp;lia
theorem eJ.units{k:Nat}{A:bY}(r:eJ k A):A.units+64<cLine:=by have:=r.un;lia
def W0:TA:=λ_ H Q=>Q [] H
def Fc(ta:TE)(tr:TA):TA:=λσ H Q=>ta σ H λx H1=>tr σ H1 λxs H2=>Q (x::xs) H2
section
variable {X:Cx} {e:au} {es:List au} {te:TE} {t:TA} {pos:Pos}
theorem ir:PA X [] W0:=λ_ _ _ _ H Q I h=>Calls.spliced_nil ⟨[],H,I,.nil,h⟩
theorem dm(ha:PE X e te)(hr:PA X es t)(hs:starEach (e::es) X.env=(false,eval e X.env)::starEach es X.env:=by rfl):PA X (e::es) (Fc te t):=by
  intro pos ag s σ H Q I h;rw[hs];show wpAny _ _ (spliced ((false,eval e X.env)::backTo pos (starEach es X.env))) _ _ s;refine Calls.spliced_cons (thn (ha ag s σ H _ I h) λu s1 ⟨x,H1,I1,r1,q1⟩=>?_)
  exact thn (hr pos ag s1 σ H1 _ I1 q1) λus s2 ⟨xs,H2,I2,r2,q2⟩=>⟨x::xs,H2,I2,.cons r1 r2,q2⟩
def aco(t:TA):TE:=λσ H Q=>t σ H λxs H1=>xs.length<=sizeLine/\∀p,H1 p=none->Q (.ref p) (upd H1 p (.aC xs))
def acp(t:TA):TE:=λσ H Q=>t σ H λxs H1=>xs.length<=sizeLine/\∀p,H1 p=none->Q (.ref p) (upd H1 p (.ao xs))
theorem Tq{x1}(h:PA X es t):PE X (.Tuple es x1 pos) (aco t):=by
  intro ag s σ H Q I hq;refine wpAny_Tuple_spliced (thn (h pos ag s σ H _ I hq) λus s1 ⟨xs,H1,I1,r,z,q⟩=>⟨by rw[<-r.length];exact z,?_⟩)
  have hf:H1 s1.heap.objs.size=none:=I1.hok.fresh (bc _);refine⟨.ref s1.heap.objs.size,upd H1 s1.heap.objs.size (.aC xs),I1.laid (t':=s1.toks) (λb u e=>cD _ e) (bc _) ?_,rfl,q _ hf⟩
  exact⟨z,us,r,⟨_,d0 _ rfl,rfl,_,rfl⟩⟩
theorem Kn(h:PA X es t):PE X (.List es pos) (acp t):=by
  intro ag s σ H Q I hq;refine wpAny_List_spliced (thn (h pos ag s σ H _ I hq) λus s1 ⟨xs,H1,I1,r,z,q⟩=>⟨by rw[<-r.length];exact z,?_⟩)
  have hf:H1 s1.heap.objs.size=none:=I1.hok.fresh (bc _);refine⟨.ref s1.heap.objs.size,upd H1 s1.heap.objs.size (.ao xs),I1.laid (t':=s1.toks) (λb u e=>cD _ e) (bc _) ?_,rfl,q _ hf⟩
  exact⟨z,us,0,r,d0 _ rfl⟩
end
abbrev Sp:=List V->Hp->VK->XK->Prop
abbrev ET:=List Env->Hp->az->XK->cQ
structure Dh (P:bK) (w:aW) (K:aj) (mg:dQ) (base:Heap) (A:bY) (outer:List Env) (s:az) (H:Hp):Prop where
  frames:A.frames=some outer
  mod:Mod K mg base
  bs:∀b o,base.get? b=some o->s.heap.get? b=some o/\H b=none
  bsz:base.objs.size<=s.heap.objs.size
  funs:s.heap.FunFrames base outer
  frf:∀b∈BZ outer,H b=none
  hok:oN P w H s.heap
  bare:AllBare s.gens
  tabs:sR K H
def CE(outer:List Env)(P:bK)(w:aW)(H:Hp)(s:az)(Q:VK)(u:aq)(s':az):Prop :=
  ∃v H',s'.os=s.os/\AllBare s'.gens/\Un (BZ outer) [] H H' s.heap s'.heap/\oN P w H' s'.heap/\RelV v u/\Q v H'
def CR(CX:ET)(outer:List Env)(P:bK)(w:aW)(H:Hp)(s:az)(Q:VK)(E:XK)(r:Result)(s':az):Prop :=
  match r with
  | .ok (.ret u)=>CE outer P w H s Q u s'
  | .ok _=>False
  | .error e=>CX outer H s E e s'
structure FnOk (P:bK) (w:aW) (K:aj) (mg:dQ) (base:Heap) (CX:ET) (k:Nat) (f:ae) (fd:dN) (ps:List Str) (sp:Sp):Prop where
  len:∀vs H Q E,sp vs H Q E->vs.length=ps.length
  run:∀(A:bY) (outer:List Env) (s:az) (H:Hp) (args:Args) (us:cg) (vs:List V) (Q:VK) (E:XK),eJ k A->Dh P w K mg base A outer s H->BindsTo s fd args (ps.zip us)->Vals vs us->sp vs H Q E ->
    codeAny (model P w) A (.call (.ref f) args) (CR CX outer P w H s Q E) s
section
variable {X:Cx} {ag:List (ae×Obj)} {σ:St} {H:Hp} {s s':az}
theorem Inv.Tr(I:Inv X ag σ H s):Dh X.prog X.w X.K X.mg X.base X.A X.stack s H :=
  ⟨I.ok.frames,I.ok.mod,I.bs,cG I.ok.bsz I.sz,I.stack,I.E4,I.hok,I.bare,I.tabs⟩
theorem Inv.after{Q:VK}{u:aq}(I:Inv X ag σ H s)(h:CE X.stack X.prog X.w H s Q u s'):EP X ag σ Q u s':=by
  obtain⟨v,H',os,bare,un,hok,r,q⟩:=h;obtain⟨hh,g,d,t,W2⟩:=s';obtain rfl:W2=s.os:=os;exact⟨v,H',I.call (h':=hh) (g':=g) (d':=d) (t':=t) (ch:=[]) un hok bare (λb z=>absurd z (by simp)),r,q⟩
end
def zX(sp:Sp)(NV:List V)(E:XK)(t:TA):TE:=λσ H Q=>t σ H λvs H1=>sp (vs++NV) H1 Q E
def fO(K:aj)(fd:dN)(ps:List Str)(ds:cg):Prop :=
  ∀(s:az) (us:cg),K.In s.heap->(us++ds).length=ps.length->BindsTo s fd ⟨us,[]⟩ (ps.zip (us++ds))
theorem fO.all{K:aj}{fd:dN}{ps:List Str}(h:∀us:cg,us.length=ps.length->bindArgs fd ⟨us,[]⟩=pure (ps.zip us)):fO K fd ps []:=λs us _ hl=>by
  rw[gG]at hl ⊢;exact .of_eq (h us hl)
def Di(CX:ET)(X:Cx)(E:XK):Prop:=∀(ag:List (ae×Obj)) (σ:St) (H:Hp) (s:az) (e:aq) (s':az),Inv X ag σ H s->CX X.stack H s E e s'->X.xe e s'
section
variable {X:Cx} {CX:ET} {k:Nat} {f C:ae} {fd:dN} {ps:List Str} {sp:Sp} {NV:List V} {ds:cg} {E:XK} {x m:Str} {p pos xj:Pos} {e o:au} {es:List au} {ta:TE} {t:TA}
theorem Ko{ag:List (ae×Obj)}{σ:St}{H:Hp}{s:az}{Q:VK}{us:cg}{vs:List V}(F:FnOk X.prog X.w X.K X.mg X.base CX k f fd ps sp)(hr:eJ k X.A)(hb:fO X.K fd ps ds)(hd:Vals NV ds)(hx:Di CX X E)
    (I:Inv X ag σ H s) (r:Vals vs us) (h:sp (vs++NV) H Q E):wpAny (model X.prog X.w) X.A (call (.ref f) us) (EP X ag σ Q) X.xe s:=by
  have r2:Vals (vs++NV) (us++ds):=r.append hd;have hl:(us++ds).length=ps.length:=by rw[<-r2.length];exact F.len _ _ _ _ h
  refine wpAny_call (mK (F.run X.A X.stack s H ⟨us,[]⟩ (us++ds) (vs++NV) Q E hr I.Tr (hb s us I.zj hl) r2 h) λr s' hq=>?_)
  cases r with
  | error e=>exact hx ag σ H s e s' I hq
  | ok fl =>
    cases fl with
    | ret u=>exact I.after hq
    | next=>exact False.elim hq
    | brk=>exact False.elim hq
    | cont=>exact False.elim hq
theorem nQ(F:FnOk X.prog X.w X.K X.mg X.base CX k f fd ps sp)(hr:eJ k X.A)(hg:Gl X x)(hm:X.mg x=some (.ref f))(hk:W.keepIn X.K (.ref f)=true)(hb:fO X.K fd ps ds)(hd:Vals NV ds)(hx:Di CX X E)
    (ha:PA X (e::es) t) (Dj:(x==("__debug__":Str))=false:=by decide) (he:starEach (e::es) X.env=(false,eval e X.env)::starEach es X.env:=by rfl) (pH:(backTo pos (starEach es X.env)).any (·.1)=false:=by rfl) :
    PE X (.Call (.Name x p) (e::es) [] pos) (zX sp NV E t):=by
  intro ag s σ H Q I h;refine mH (ld_glob I hg hm ?_ Dj);refine W.callWith_K (h₀:=X.base) I.ok.mod.kin hk (thn (ha pos ag s σ H _ I h) λus s1 ⟨vs,H1,I1,r,q⟩=>⟨I1.zj,?_⟩) he pH
  exact Ko F hr hb hd hx I1 r q
end
theorem vI{kindOf:Str->Option NameKind}{x:Str}:∀{zY:List (Str×aq)} {m:dQ},(∀v,(x,v)∉zY)->bindL kindOf zY m x=m x
  | [],_,_=>rfl
  | (n,v)::r,m,h=>by
    unfold bindL;rw[vI λw hw=>h w (bz _ hw)]
    split
    · have:x≠n:=by rintro rfl;exact h v bo
      simp[this]
    · rfl
theorem vJ{kindOf:Str->Option NameKind}{x:Str}:∀{zY:List (Str×aq)} {m:dQ},(∀v,(x,v)∉zY)->bindC kindOf zY m x=m x
  | [],_,_=>rfl
  | (n,v)::r,m,h=>by
    unfold bindC;rw[vJ λw hw=>h w (bz _ hw)]
    split
    · rfl
    · have:x≠n:=by rintro rfl;exact h v bo
      simp[this]
theorem vK{kindOf:Str->Option NameKind}{x:Str}{v:aq}:∀{P:List Str} {vs:cg} {i:Nat} {m:dQ},P.Nodup->P[i]?=some x->vs[i]?=some v->kindOf x=some .local ->
    bindL kindOf (P.zip vs) m x=some v
  | [],_,_,_,_,h,_,_=>by simp at h
  | _::_,[],_,_,_,_,h,_=>by simp at h
  | p::P,w::vs,0,m,nd,h1,h2,hk=>by
    simp at h1 h2;subst h1;subst h2;show bindL kindOf ((p,w)::P.zip vs) m p=_;unfold bindL;rw[vI λv hv=>(eA.mp nd).1 (w9 hv).1,if_pos hk]
    simp
  | p::P,w::vs,i+1,m,nd,h1,h2,hk=>by
    show bindL kindOf ((p,w)::P.zip vs) m x=_;unfold bindL;exact vK (i:=i) (eA.mp nd).2 (by simpa using h1) (by simpa using h2) hk
theorem vL{kindOf:Str->Option NameKind}{x:Str}{v:aq}:∀{P:List Str} {vs:cg} {i:Nat} {m:dQ},P.Nodup->P[i]?=some x->vs[i]?=some v->kindOf x≠some .local ->
    bindC kindOf (P.zip vs) m x=some v
  | [],_,_,_,_,h,_,_=>by simp at h
  | _::_,[],_,_,_,_,h,_=>by simp at h
  | p::P,w::vs,0,m,nd,h1,h2,hk=>by
    simp at h1 h2;subst h1;subst h2;show bindC kindOf ((p,w)::P.zip vs) m p=_;unfold bindC;rw[vJ λv hv=>(eA.mp nd).1 (w9 hv).1,if_neg hk]
    simp
  | p::P,w::vs,i+1,m,nd,h1,h2,hk=>by
    show bindC kindOf ((p,w)::P.zip vs) m x=_;unfold bindC;exact vL (i:=i) (eA.mp nd).2 (by simpa using h1) (by simpa using h2) hk
def start(N:List Str)(vs:List V):St:=vs.map some++List.replicate (N.length-vs.length) none
def kq(CX:ET)(P:bK)(w:aW)(K:aj)(mg:dQ)(base:Heap)(N:List Str)(qual:Str)(scope:Scope)(f:ae)(cd:aq)(A:bY)(outer:List Env)(s:az)(H:Hp)(E:XK):Cx where
  prog:=P
  w:=w
  K:=K
  mg:=mg
  base:=base
  A:=A.deeper (envOfC qual scope s.heap.objs.size f cd)
  N:=N
  s₀:=s
  H₀:=H
  env:=envOfC qual scope s.heap.objs.size f cd
  outer:=outer
  stack:=envOfC qual scope s.heap.objs.size f cd::outer
  ex:=[]
  calm:=true
  fn:=λ_=>true
  pn:=[]
  xe:=λe s'=>wpAny (model P w) (A.deeper (envOfC qual scope s.heap.objs.size f cd)) (leaving (envOfC qual scope s.heap.objs.size f cd) e) (λ_ Oi=>CX outer H s E e Oi) (λe' Oi=>CX outer H s E e' Oi) s'
theorem zZ{sc:Scope}{n:Nat}{x:Str}(h:sc.names.lookup x=some .cell):∃c,(cellsFrom n sc.names []).lookup x=some c:=by
  have q:=W.cellsFrom_some sc.names n [] (.inl h);exact Ck.mp q
theorem vM{CX:ET}{P:bK}{w:aW}{K:aj}{mg:dQ}{base:Heap}{N ps:List Str}{qual:Str}{scope:Scope}{f:ae}{cd:aq}{A:bY}{outer:List Env}{s s1:az}{H:Hp}{E:XK}{us:cg}{vs:List V}
    (S:dY N ps scope) (hd:A.handled=none) (e0:Dh P w K mg base A outer s H) (hl:vs.length=ps.length) (r:Vals vs us)
    (x:InCallC s s.heap.objs.size (bindL (envOfC qual scope s.heap.objs.size f cd).kindOf (ps.zip us) λ_=>none) (cellsFrom (s.heap.objs.size+1) scope.names []) (bindC (envOfC qual scope s.heap.objs.size f cd).kindOf (ps.zip us) λ_=>none) s1) :
    Inv (kq CX P w K mg base N qual scope f cd A outer s H E) [] (start N vs) H s1:=by
  have pH:ps.length<=N.length:=by have:=dy List.length S.pre;rw[o8]at this;lia
  obtain⟨h1,tk,rfl,hk⟩:=x.done;have noA:∀b:ae,b∉(kq CX P w K mg base N qual scope f cd A outer s H E).ex:=λb z=>absurd (show b∈([]:List ae)from z) (by simp)
  refine⟨⟨e0.mod,S.kind,rfl,rfl,bc _,λy z c h1 h2=>?_,λy hy=>?_,λy c _ h=>?_,λ_=>hd,Around.frames_deeper e0.frames,.inr ⟨rfl,rfl⟩,λb z=>absurd z (noA b),e0.bs,e0.bsz,λb _ _=>noA b,λb z=>absurd z (noA b),e0.funs,e0.frf,e0.tabs⟩,
    rfl,e0.bare,Un.kept hk,⟨_,x.toInCall.ns,λi y v h1 h2 h3=>?_⟩,λy c h=>⟨_,x.cell y c h⟩,e0.hok.fresh (bc _),λy c h=>?_,λp hp=>absurd (show p∈([]:List (ae×Obj))from hp) (by simp),e0.hok.kept hk,?_⟩
  · exact name_of_addr x.apart (ez h1) (ez h2)
  · have hy:scope.names.lookup y=some .cell\/scope.names.lookup y=some .free:=hy
    rcases hy with hy | hy
    · exact zZ hy
    · exact absurd rfl (S.nofree _ (ez hy))
  · exact mM (x.above y c (ez h))
  · have hi:i<vs.length:=by
      unfold start at h2;by_cases hi:i<vs.length
      · exact hi
      · rw[iC (by simpa using hi)]at h2
        rw[jm]at h2;split at h2<;>cases h2
    have ha:vs[i]?=some v:=by
      unfold start at h2;rw[gR (by simpa using hi),cm]at h2
      cases e:vs[i]? with
      | none=>rw[e]at h2;cases h2
      | some a=>rw[e]at h2;cases h2;rfl
    obtain⟨u,hu,rv⟩:=r.get ha;have hp:ps[i]?=some y:=by
      rw[<-S.pre,List.getElem?_take_of_lt (by lia)];exact h1
    have ndP:ps.Nodup:=by rw[<-S.pre];exact S.nd.sublist (List.take_sublist _ _)
    refine⟨u,rv,?_⟩;rcases S.par y (cS hp)with k | k
    · exact .inl ⟨k,vK ndP hp hu k⟩
    · obtain⟨c,e⟩:=zZ (n:=s.heap.objs.size+1) k
      refine .inr ⟨.inl k,c,e,?_⟩;have q:=x.cell y c e;rw[vL ndP hp hu (by show scope.names.lookup y≠_;rw[k];decide)]at q
      exact q
  · exact e0.hok.fresh (mM (x.above y c (ez h)))
  · unfold start
    show _=N.length;rw[bF,aB,jn]
    lia
theorem Fe{CX:ET}{P:bK}{w:aW}{K:aj}{mg:dQ}{base:Heap}{k:Nat}{f:ae}{name qual:Str}{params:Arguments}{body:List aE}{scope:Scope}{dV kV doc pm dI ct oc:aq}{an od:Option ae}
    {uM:Array mP} {N ps:List Str} {sp:Sp} (lk:K.lookup f=some ⟨oc,od,.func (W.fnOf name qual params body scope dV kV doc pm an dI ct),uM⟩) (vw:W.codeIn K dI qual=true) (S:dY N ps scope)
    (len:∀vs H Q E,sp vs H Q E->vs.length=ps.length)
    (hbody:∀(A:bY) (outer:List Env) (s:az) (H:Hp) (vs:List V) (Q:VK) (E:XK),eJ k (A.deeper (envOfC qual scope s.heap.objs.size f dI))->sp vs H Q E ->
      ∃t,qU (kq CX P w K mg base N qual scope f dI A outer s H E) body t/\t {nx:=λ_ H'=>Q .cE H',rt:=Q} (start N vs) H) :
    FnOk P w K mg base CX (k+1) f (W.fnOf name qual params body scope dV kV doc pm an dI ct) ps sp:=by
  refine⟨len,λA outer s H args us vs Q E hr e0 hb r mQ=>?_⟩
  have hl:=len _ _ _ _ mQ;have KX:K.In s.heap:=e0.mod.kin.keeps λb o e=>(e0.bs b o e).1
  have lim:s.heap.NoLimit:=e0.mod.nolimit.keeps λb o e=>(e0.bs b o e).1
  have W3:∀y∈ps.zip us,scope.names.lookup y.1=some .local\/(scope.names.lookup y.1=some .cell/\((cellsFrom (s.heap.objs.size+1) scope.names []).lookup y.1).isSome=true):=by
    rintro⟨n,v⟩ hy
    rcases S.par n (w9 hy).1 with q | q
    · exact .inl q
    · exact .inr ⟨q,W.cellsFrom_some _ _ _ (.inl q)⟩
  refine codeAny_call_function hr.depth (KX _ _ lk) rfl S.co S.gen rfl (W.codeRec_of KX vw) (hb _ _ _ _ ?_);refine JD S.kind W3 λenv he s1 x=>?_
  subst he;refine⟨lim.keeps x.toInCall.keep,codeAny_func ?_⟩;obtain⟨t,ht,hq⟩:=hbody A outer s H vs Q E (hr.deeper _) mQ;have I:Inv (kq CX P w K mg base N qual scope f dI A outer s H E) [] (start N vs) H s1:=vM S hr.hd e0 hl r x;refine mN (ht [] s1 (start N vs) H _ I hq) (λfl s' hs=>?_) λe s' hs=>hs
  have fin:∀{c9:St} {H':Hp} {v:V} {u:aq},Inv (kq CX P w K mg base N qual scope f dI A outer s H E) [] c9 H' s'->RelV v u->Q v H'->CE outer P w H s Q u s' :=
    λ{c9 H' v u} J rv q=>⟨v,H',J.os,J.bare,J.base,J.hok,rv,q⟩
  cases fl with
  | ret u =>
    obtain⟨v,c9,H',J,rv,q⟩:=hs;exact fin J rv q
  | next =>
    obtain⟨c9,H',J,q⟩:=hs;exact fin (v:=V.cE) (u:=Value.none) J rfl q
  | brk =>
    obtain⟨_,_,_,q⟩:=hs;exact False.elim q
  | cont =>
    obtain⟨_,_,_,q⟩:=hs;exact False.elim q
section
variable {X:Cx} {x:Str} {p pos:Pos} {e:au} {es:List au} {t:TA} {id T:String} {r:List V->Hp->VK->Prop}
def tCB(r:List V->Hp->VK->Prop)(t:TA):TE:=λσ H Q=>t σ H λvs H1=>r vs H1 Q
theorem kR(hc:kQ X (.builtin id) r)(hg:Gl X x)(hm:X.mg x=none)(hv:bootBuiltins x=some (.builtin id))(ha:PA X (e::es) t)(hn:x≠"__name__":=by decide)(Dj:(x==("__debug__":Str))=false:=by decide)
    (he:starEach (e::es) X.env=(false,eval e X.env)::starEach es X.env:=by rfl) (pH:(backTo pos (starEach es X.env)).any (·.1)=false:=by rfl):PE X (.Call (.Name x p) (e::es) [] pos) (tCB r t):=by
  intro ag s σ H Q I h;refine mH (ld_blt I hg hm hv ?_ hn Dj);exact Jx (thn (ha pos ag s σ H _ I h) λus s1 ⟨vs,H1,I1,r1,q1⟩=>hc ag s1 σ H1 vs us Q I1 r1 q1) he pH
theorem jJ(hc:kQ X (.type T) r)(hg:Gl X x)(hm:X.mg x=none)(hv:bootBuiltins x=some (.type T))(ha:PA X (e::es) t)(hn:x≠"__name__":=by decide)(Dj:(x==("__debug__":Str))=false:=by decide)
    (he:starEach (e::es) X.env=(false,eval e X.env)::starEach es X.env:=by rfl) (pH:(backTo pos (starEach es X.env)).any (·.1)=false:=by rfl):PE X (.Call (.Name x p) (e::es) [] pos) (tCB r t):=by
  intro ag s σ H Q I h;refine mH (ld_blt I hg hm hv ?_ hn Dj);exact mF (thn (ha pos ag s σ H _ I h) λus s1 ⟨vs,H1,I1,r1,q1⟩=>hc ag s1 σ H1 vs us Q I1 r1 q1) he pH
end
end L2
namespace HT
open PySem PyProof.Rows
section
variable {prog:bK} {w:aW} {A:bY} {E:cQ} {s:az}
theorem Oj{t b:ae}{vs ws:cg}{Q:cQ}(ht:IsTup s.heap t vs.toArray)(hb:IsTup s.heap b ws.toArray)(hv:vs≠[])
    (h1:ws=[]->Q (.ref t) s) (h2:ws≠[]->Q (.ref s.heap.objs.size) {s with heap:=s.heap.push {cls:=.type "tuple",data:=.seq (vs++ws).toArray}})
    (hsz:vs.length+ws.length<=sizeLine):wpAny (model prog w) A (binaryOp .Add (.ref t) (.ref b)) Q E s:=by
  obtain⟨⟨cls,dd,data,sl⟩,ho,hc,n,hd⟩:=id ht;obtain⟨⟨acs,dd2,W4,sl2⟩,ho2,W5,n2,W6⟩:=id hb;simp only at hc hd W5 W6;subst hc hd W5 W6;have e:vs.toArray++ws.toArray=(vs++ws).toArray:=by simp
  by_cases hw:ws=[]
  · exact concat_meets ⟨_,ho,rfl⟩ ⟨_,ho2,rfl⟩ CM seq_tuple_add Cp Cm (Ci _ _)
      (tuple_addW1 t b vs.toArray ws.toArray n n2 dd dd2 sl sl2 (by simpa using hv) (by simp[hw])) ⟨ho,ho2,h1 hw⟩
  · refine concat_meets ⟨_,ho,rfl⟩ ⟨_,ho2,rfl⟩ CM seq_tuple_add Cp Cm (Ci _ _)
      (tuple_addW2 t b vs.toArray ws.toArray n n2 dd dd2 sl sl2 (by simpa using hv) (by simpa using hw) (by rw[bI,bI];exact hsz)) ⟨ho,ho2,?_⟩
    rw[e];exact h2 hw
noncomputable def fy(n d:Nat):Option Int->Nat
  | none=>d
  | some v=>if v<0 then(v+(n:Int)).toNat else min v.toNat n
theorem z0(n d:Nat):fy n d none=d:=rfl
theorem ri(n d k:Nat):fy n d (some (k:Int))=min k n:=by
  show(if(k:Int)<0 then((k:Int)+(n:Int)).toNat else min (k:Int).toNat n)=min k n
  rw[if_neg (by lia),fH]
theorem Ts(n d:Nat)(hd:d<=n)(o:Option Int):fy n d o<=n:=by
  cases o with
  | none=>exact hd
  | some v =>
    show(if v<0 then(v+(n:Int)).toNat else min v.toNat n)<=n
    by_cases hv:v<0
    · rw[if_pos hv];lia
    · rw[if_neg hv];exact Nat.min_le_right _ _
theorem Fg(v:Int)(n d:Nat):(if v<0 then max (v+(n:Int)) 0 else min v (n:Int))=((fy n d (some v):Nat):Int):=by
  show(if v<0 then max (v+(n:Int)) 0 else min v (n:Int))=(((if v<0 then(v+(n:Int)).toNat else min v.toNat n):Nat):Int)
  by_cases hv:v<0
  · simp only[if_pos hv];lia
  · simp only[if_neg hv];lia
theorem Dl(lo hi:Option Int)(n:Nat):Builtin.Slice.sliceAdjust lo hi 1 (n:Int)=(((fy n 0 lo:Nat):Int),((fy n n hi:Nat):Int)):=by
  have h1:¬((1:Int)<0):=by lia
  unfold Builtin.Slice.sliceAdjust;simp only[h1,pA];refine Prod.ext ?_ ?_
  · cases lo with
    | none=>rfl
    | some v=>exact Fg v n 0
  · cases hi with
    | none=>rfl
    | some v=>exact Fg v n n
theorem Dm(i j:Nat):Builtin.Slice.slicePlaces (i:Int) (j:Int) 1=j-i:=by
  unfold Builtin.Slice.slicePlaces;have h1:(1:Int)>0:=by lia
  simp only[h1,mO,Int.ediv_one];split<;>lia
theorem sZ{v:aq}{o:Option Int}{Q:Option Int->az->Prop}(p:IsPart v o)(h:Q o s):wpAny (model prog w) A (Builtin.Slice.slicePartIndex v) Q E s:=by
  cases p with
  | none=>exact slicePart_none h
  | int i t=>exact slicePart_int h
theorem jK{sl:ae}{vl vu:aq}{lo hi:Option Int}{n:Nat}{Q:Int×Int×Nat->az->Prop}(hs:s.heap.IsSliceOf sl vl vu .none)(pl:IsPart vl lo)(pu:IsPart vu hi)
    (h:Q (((fy n 0 lo:Nat):Int),1,fy n n hi-fy n 0 lo) s):wpAny (model prog w) A (Builtin.Slice.sliceApplied (.ref sl) (pure (n:Int))) Q E s:=by
  obtain⟨os,Tt,hcs,W7⟩:=id hs;unfold Builtin.Slice.sliceApplied Builtin.Slice.sliceFields;refine av (av (kL Tt W7 (x:=vl) rfl (av (kL Tt W7 (x:=vu) rfl (av (kL Tt W7 (x:=.none) rfl (aN ?_)))))));refine av (slicePart_none ?_);show wpAny _ _ (if((1:Int)==0)=true then _ else _) _ _ s
  rw[if_neg (by decide)]
  refine av (sZ pl (av (sZ pu (av (aN ?_)))));show wpAny _ _ (match Builtin.Slice.sliceAdjust lo hi 1 (n:Int)with | (lo,hi)=>pure (lo,(1:Int),Builtin.Slice.slicePlaces lo hi 1)) _ _ s
  rw[Dl lo hi n];show wpAny _ _ (pure (((fy n 0 lo:Nat):Int),(1:Int),Builtin.Slice.slicePlaces ((fy n 0 lo:Nat):Int) ((fy n n hi:Nat):Int) 1)) _ _ s;rw[Dm];exact aN h
theorem Kp(xs:Array aq)(i k:Nat):((List.range k).filterMap fun(m:Nat)=>xs[((i:Int)+(m:Int)*1).toNat]?).toArray=((xs.toList.drop i).take k).toArray:=by
  have e:(fun(m:Nat)=>xs[((i:Int)+(m:Int)*1).toNat]?)=λm=>xs[i+m]?:=by
    funext m
    have:((i:Int)+(m:Int)*1).toNat=i+m:=by lia
    rw[this]
  rw[e];have:=pick_run xs i k;rw[List.filterMap_map]at this;have e2:((λx=>xs[x]?) ∘ λx=>i+x)=λm=>xs[i+m]?:=rfl
  rw[e2]at this;rw[this]
theorem nR{t sl:ae}{items:Array aq}{vl vu:aq}{lo hi:Option Int}{Q:cQ}(ht:IsTup s.heap t items)(hs:s.heap.IsSliceOf sl vl vu .none)(pl:IsPart vl lo)(pu:IsPart vu hi)
    (hw:¬(fy items.size 0 lo=0/\fy items.size items.size hi=items.size))
    (h:Q (.ref s.heap.objs.size) {s with heap:=s.heap.push {cls:=.type "tuple",data:=.seq ((items.toList.drop (fy items.size 0 lo)).take (fy items.size items.size hi-fy items.size 0 lo)).toArray}})
    (hsz:items.size<=sizeLine):wpAny (model prog w) A (getItem (.ref t) (.ref sl)) Q E s:=by
  have Fh:sizeOk (.seq ((items.toList.drop (fy items.size 0 lo)).take (fy items.size items.size hi-fy items.size 0 lo)).toArray):=by
    show((items.toList.drop (fy items.size 0 lo)).take (fy items.size items.size hi-fy items.size 0 lo)).toArray.size<=sizeLine;rw[bI,o8,rX,oV]
    lia
  have hj:fy items.size items.size hi<=items.size:=Ts _ _ (bc _) hi;obtain⟨os,Tt,hcs,W7⟩:=id hs;have Kq:s.TypeIs (.ref sl) "slice":=⟨os,Tt,hcs⟩;unfold getItem
  try with_reducible refine jV ?_
  first | refine av (aN ?_) | skip
  refine av (wpAny_sequenceKey ht.typeIs (by decide) ?_)
  refine av (kD (name:=Str.ofString "__getitem__") ht.typeIs oR
    (jt oR ht.typeIs entry_tuple_getitem ?_ (args_tuple_getitem _ _)))
  show wpAny _ _ (Builtin.Tuple.tupleItemsOf (.ref t) >>= _) _ _ s;refine av (tupleItemsOf_ ht ?_);refine av (xh Kq ?_);rw[if_pos (by decide)]
  refine av (jK hs pl pu ?_);have Tu:¬((((fy items.size 0 lo:Nat):Int)==0&&(1:Int)==1&&(fy items.size items.size hi-fy items.size 0 lo)==items.size)=true):=by
    intro q;rw[aO,aO]at q;have q1:((fy items.size 0 lo:Nat):Int)=0:=bO q.1.1;have q2:fy items.size items.size hi-fy items.size 0 lo=items.size:=bO q.2;exact hw ⟨by lia,by lia⟩
  show wpAny _ _ (if(((fy items.size 0 lo:Nat):Int)==0&&(1:Int)==1&&(fy items.size items.size hi-fy items.size 0 lo)==items.size)=true then _ else _) _ _ s
  rw[if_neg Tu,Kp]
  first
    | exact av (m:=Builtin.Tuple.tupleExact _) (jq (aN ⟨_,rfl,aN h⟩) Fh)
    | exact av (m:=Builtin.Tuple.tupleExact _) (jq (av (aN (aN ⟨_,rfl,aN h⟩))) Fh)
    | exact av (av (m:=Builtin.Tuple.tupleExact _) (jq (aN (aN ⟨_,rfl,aN h⟩)) Fh))
    | exact av (av (m:=Builtin.Tuple.tupleExact _) (jq (aN ⟨_,rfl,aN h⟩) Fh))
end
end HT
namespace L2
open PySem PySem.Spec PyProof.Rows
abbrev TO:=St->Hp->(Option Int->Hp->Prop)->Prop
def PO(X:Cx)(e:Option au)(t:TO):Prop :=
  ∀(ag:List (ae×Obj)) (s:az) (σ:St) (H:Hp) (Q:Option Int->Hp->Prop),Inv X ag σ H s->t σ H Q ->
    wpAny (model X.prog X.w) X.A (evalPart e X.env) (λu s'=>∃o H',Inv X ag σ H' s'/\IsPart u o/\Q o H') X.xe s
def Ol:TO:=λ_ H Q=>Q none H
def W8(t:TE):TO:=λσ H Q=>t σ H λx H1=>∃i,x=.int i/\Q (some i) H1
theorem s9{ns:List Int}:∀{us:cg},Vals (ns.map V.int) us->IntsAre us ns:=by
  induction ns with
  | nil=>intro us r;rw[r9]at r;cases r;exact .nil
  | cons n ns ih =>
    intro us r;rw[bX]at r;cases r with
    | cons r1 r2 =>
      obtain⟨t,e⟩:=r1;subst e;exact .cons n t (ih r2)
section
variable {X:Cx} {e:au} {te:TE} {lo hi:Option au} {tl th:TO} {pos p2:Pos}
theorem Om:PO X none Ol:=by
  intro ag s σ H Q I h;rw[evalPart_none];exact aN ⟨none,H,I,.none,h⟩
theorem Oo(h:PE X e te):PO X (some e) (W8 te):=by
  intro ag s σ H Q I hw;rw[evalPart_some];refine thn (h ag s σ H _ I hw) λu s1 ⟨x,H1,I1,r1,q1⟩=>?_
  obtain⟨i,rfl,q⟩:=q1;obtain⟨t,rfl⟩:=r1;exact⟨some i,H1,I1,.int i t,q⟩
def SlR(X:Cx)(r:V->Option Int->Option Int->Hp->VK->Prop):Prop :=
  ∀(ag:List (ae×Obj)) (s:az) (σ:St) (H:Hp) (x:V) (v vl vu:aq) (lo hi:Option Int) (sl:ae) (Q:VK),Inv X ag σ H s->RelV x v->s.heap.IsSliceOf sl vl vu .none->IsPart vl lo->IsPart vu hi->r x lo hi H Q ->
    ∃T id,typeLookup (.type T) "__getitem__"=pure (some (.builtin id))/\s.TypeIs v T/\wpAny (model X.prog X.w) X.A (getItem v (.ref sl)) (EP X ag σ Q) X.xe s
def tSl(r:V->Option Int->Option Int->Hp->VK->Prop)(te:TE)(tl th:TO):TE:=λσ H Q=>te σ H λx H1=>tl σ H1 λl H2=>th σ H2 λu H3=>r x l u H3 Q
theorem Aa{r:V->Option Int->Option Int->Hp->VK->Prop}(hr:SlR X r)(he:PE X e te)(hl:PO X lo tl)(hu:PO X hi th):PE X (.Subscript e (.Slice lo hi none p2) pos) (tSl r te tl th):=by
  intro ag s σ H Q I h;refine Subscript_ (thn (he ag s σ H _ I h) λv s1 ⟨x,H1,I1,r1,q1⟩=>?_)
  refine wpAny_Slice (thn (hl ag s1 σ H1 _ I1 q1) λvl s2 ⟨l,H2,I2,pl,q2⟩=>thn (hu ag s2 σ H2 _ I2 q2) λvu s3 ⟨u,H3,I3,pu,q3⟩=>?_)
  rw[evalPart_none];refine aN ?_;have I4:Inv X ag σ H3 {s3 with heap:=s3.heap.push {cls:=.type "slice",data:=.fields #[vl,vu,.none]}}:=I3.kept (t':=s3.toks) λb ob q=>cD _ q
  obtain⟨T,id,hT,ht,hg⟩:=hr ag {s3 with heap:=s3.heap.push {cls:=.type "slice",data:=.fields #[vl,vu,.none]}} σ H3 x v vl vu l u s3.heap.objs.size Q I4 r1 (Heap.IsSliceOf.new ..) pl pu q3
  show wpAny (model X.prog X.w) X.A (subscriptTail e (.Slice lo hi none p2) v (.ref s3.heap.objs.size)) (EP X ag σ Q) X.xe {s3 with heap:=s3.heap.push {cls:=.type "slice",data:=.fields #[vl,vu,.none]}}
  exact tail_any (ops:=[.ref s3.heap.objs.size,v]) ht hT hg (by with_unfolding_all rfl)
def uP(xs:List V)(lo hi:Option Int):List V:=(xs.drop (HT.fy xs.length 0 lo)).take (HT.fy xs.length xs.length hi-HT.fy xs.length 0 lo)
theorem qC(xs:List V)(lo hi:Option Int):(uP xs lo hi).length<=xs.length:=by
  unfold uP;rw[o8,rX]
  lia
def acu(K:aj):V->Option Int->Option Int->Hp->VK->Prop:=λx lo hi H Q=>∃a xs,x=.ref a/\iA K H a xs /\
  ¬(HT.fy xs.length 0 lo=0/\HT.fy xs.length xs.length hi=xs.length)/\∀p,H p=none->Q (.ref p) (upd H p (.aC (uP xs lo hi)))
theorem Tv:SlR X (acu X.K):=by
  intro ag s σ H x v vl vu lo hi sl Q I rx hs pl pu h;obtain⟨a,xs,rfl,hx,hw,q⟩:=h;cases rx;obtain⟨aX,r,ht,hz⟩:=I.tuple hx;have dD:aX.toArray.size=xs.length:=by rw[bI];exact r.length.symm
  refine⟨"tuple",_,oR.lookup,ht.typeIs,?_⟩;refine HT.nR ht hs pl pu (by rw[dD];exact hw) ?_ (by rw[dD];exact hz)
  rw[dD];refine⟨.ref s.heap.objs.size,_,I.laid (t':=s.toks) (o:=.aC (uP xs lo hi)) (λb ob q=>cD _ q) (bc _) ?_,rfl,q _ (I.hok.fresh (bc _))⟩
  exact⟨cG (qC xs lo hi) hz,_,(r.drop (HT.fy xs.length 0 lo)).take (HT.fy xs.length xs.length hi-HT.fy xs.length 0 lo),IsTup.new _ _⟩
def W9(K:aj):R2:=λx y H Q=>∃a b xs ys,x=.ref a/\y=.ref b/\iA K H a xs/\iA K H b ys/\xs≠[]/\xs.length+ys.length<=sizeLine /\
  (ys=[]->Q (.ref a) H)/\(ys≠[]->∀p,H p=none->Q (.ref p) (upd H p (.aC (xs++ys))))
theorem Vals.xx{xs:List V}{us:cg}(r:Vals xs us):us=[]↔xs=[]:=by
  cases r with
  | nil=>simp
  | cons _ _=>simp
theorem Oq:OpR X (binaryOp .Add) (W9 X.K):=by
  intro ag s σ H x y v u Q I rx ry h;obtain⟨a,b,xs,ys,rfl,rfl,ha,hb,hx,hz,q1,q2⟩:=h;cases rx;cases ry;obtain⟨aX,r1,p1,_⟩:=I.tuple ha;obtain⟨iW,r2,p2,_⟩:=I.tuple hb;refine HT.Oj p1 p2 (λz=>hx (r1.xx.mp z)) (λz=>⟨.ref a,H,I,rfl,q1 (r2.xx.mp z)⟩) (λz=>?_) (by rw[<-r1.length,<-r2.length];exact hz)
  refine⟨.ref s.heap.objs.size,_,I.laid (t':=s.toks) (o:=.aC (xs++ys)) (λb ob q=>cD _ q) (bc _) ?_,rfl,q2 (λw=>z (r2.xx.mpr w)) _ (I.hok.fresh (bc _))⟩
  exact⟨by rw[bF];exact hz,_,r1.append r2,IsTup.new _ _⟩
end
def Kr(n:Nat)(i:Int):Option Nat:=if 0<=i then(if i<n then some i.toNat else none)else if -(n:Int)<=i then some (i+n).toNat else none
def atI{α:Type}(xs:List α)(i:Int):Option α:=(Kr xs.length i).bind λj=>xs[j]?
theorem Ot{n:Nat}{i:Int}{j:Nat}(h:Kr n i=some j):seqIndex? i n=some j/\j<n /\ -(n:Int)<=i/\i<n:=by
  unfold Kr at h;by_cases h0:0<=i
  · rw[if_pos h0]at h
    by_cases h1:i<n
    · rw[if_pos h1]at h
      have e:i.toNat=j:=bM h;exact⟨by rw[seqIndex_of h0 h1,e],by lia,by lia,h1⟩
    · rw[if_neg h1]at h;cases h
  · rw[if_neg h0]at h
    by_cases h1:-(n:Int)<=i
    · rw[if_pos h1]at h
      have e:(i+n).toNat=j:=bM h;exact⟨by rw[seqIndex_neg (by lia) h1,e],by lia,h1,by lia⟩
    · rw[if_neg h1]at h;cases h
theorem xy{α:Type}{xs:List α}{i:Int}{v:α}(h:atI xs i=some v):∃j,seqIndex? i xs.length=some j/\xs[j]?=some v/\j<xs.length /\ -(xs.length:Int)<=i/\i<xs.length:=by
  unfold atI at h;cases e:Kr xs.length i with
  | none=>rw[e]at h;cases h
  | some j =>
    rw[e]at h;obtain⟨h1,h2,h3,h4⟩:=Ot e;exact⟨j,h1,h,h2,h3,h4⟩
theorem dw{α:Type}{xs:List α}{j:Nat}{v:α}(h:xs[j]?=some v):atI xs (j:Int)=some v:=by
  have hj:j<xs.length:=(dF.mp h).1;have e:Kr xs.length (j:Int)=some j:=by
    unfold Kr;rw[if_pos (by lia),if_pos (by lia)];simp
  unfold atI;rw[e];exact h
def lM(b:au):Prop:=∀o i,subscripted b false o i=operate [o,i] (getItem o i)
def RD(X:Cx)(r:R2):Prop :=
  ∀(value slice:au) (ag:List (ae×Obj)) (s:az) (σ:St) (H:Hp) (x y:V) (v u:aq) (Q:VK),Inv X ag σ H s->RelV x v->RelV y u->r x y H Q ->
    subscripted slice false v u=operate [v,u] (getItem v u)->wpAny (model X.prog X.w) X.A (subscriptTail value slice v u) (EP X ag σ Q) X.xe s
def MtR(X:Cx)(id:String)(r:V->List V->Hp->VK->Prop):Prop :=
  ∀(ag:List (ae×Obj)) (s:az) (σ:St) (H:Hp) (x:V) (xs:List V) (v:aq) (us:cg) (Q:VK),Inv X ag σ H s->RelV x v->Vals xs us->r x xs H Q ->
    wpAny (model X.prog X.w) X.A (call (.builtin id) (v::us)) (EP X ag σ Q) X.xe s
section
variable {X:Cx} {a b:au} {ta tb:TE} {pos:Pos}
theorem Ab{r:R2}(hr:RD X r)(ha:PE X a ta)(hb:PE X b tb)(hs:lM b):PE X (.Subscript a b pos) (V2 r ta tb):=by
  intro ag s σ H Q I h;exact Subscript_ (Te ha hb I h λv u s2 x y H2 I2 rx ry q=>hr a b ag s2 σ H2 x y v u Q I2 rx ry q (hs _ _))
def acw(K:aj):R2:=λx y H Q=>∃p xs i v,x=.ref p/\y=.int i/\l8 K H p xs/\atI xs i=some v/\Q v H
def acx(K:aj):R2:=λx y H Q=>∃p xs i v,x=.ref p/\y=.int i/\iA K H p xs/\atI xs i=some v/\Q v H
def acy:R2:=λx y H Q=>∃z i c,x=.str z/\y=.int i/\z.length<=sizeLine/\atI z.cps.toList i=some c/\Q (.str ⟨#[c]⟩) H
theorem xA:RD X (acw X.K):=by
  intro value slice ag s σ H x y v u Q I rx ry h hs;obtain⟨p,xs,i,z,rfl,rfl,hq,he,q⟩:=h;cases rx;obtain⟨t,rfl⟩:=ry;obtain⟨aX,r,pl,hz⟩:=I.list hq;obtain⟨j,h1,h2,h3,h4,h5⟩:=xy he;obtain⟨w,ew,Tw⟩:=r.get h2;have hl:=r.length;have hn:=pG;have fin:EP X ag σ Q w s:=⟨z,H,I,Tw,q⟩;by_cases h0:0<=i
  · have hj:i.toNat=j:=by
      rw[seqIndex_of h0 h5]at h1;exact bM h1
    exact item_listR pl.isList h0 (by lia) (by rw[hj];simpa using ew) fin hs
  · have hj:(i+(aX.toArray.size:Int)).toNat=j:=by
      rw[seqIndex_neg (by lia) h4]at h1
      rw[bI,<-hl];exact bM h1
    exact subscriptTail_builtinR (x:=w) pl.isList.typeIs slot_list_getitem.lookup
      (wpAny_getItem_list_neg (Q:=λr s'=>r=w/\EP X ag σ Q r s') pl.isList (by lia) (by rw[bI]<;>lia) (by lia) (by rw[hj];simpa using ew) ⟨rfl,fin⟩) hs
theorem Tx:RD X (acx X.K):=by
  intro value slice ag s σ H x y v u Q I rx ry h hs;obtain⟨p,xs,i,z,rfl,rfl,hq,he,q⟩:=h;cases rx;obtain⟨t,rfl⟩:=ry;obtain⟨aX,r,pl,hz⟩:=I.tuple hq;obtain⟨j,h1,h2,h3,h4,h5⟩:=xy he;obtain⟨w,ew,Tw⟩:=r.get h2;have hl:=r.length;have hn:=pG;have fin:EP X ag σ Q w s:=⟨z,H,I,Tw,q⟩;exact subscriptTail_builtinR (x:=w) pl.typeIs slot_tuple_getitem.lookup
    (getItem_tuple (j:=j) (Q:=λr s'=>r=w/\EP X ag σ Q r s') pl (by lia) (by lia) (by rw[bI,<-hl];exact h1) (by simpa using ew) ⟨rfl,fin⟩) hs
theorem Tz:RD X acy:=by
  intro value slice ag s σ H x y v u Q I rx ry h hs;obtain⟨z,i,c,rfl,rfl,hz,he,q⟩:=h;obtain⟨t,rfl⟩:=rx;obtain⟨t',rfl⟩:=ry;obtain⟨j,h1,h2,h3,h4,h5⟩:=xy he;have hl:z.cps.toList.length=z.length:=by simp[Str.length]
  rw[hl]at h1 h4 h5;have hn:=pG;exact tail_any (typeIs_str s z t) slot_str_getitem.lookup (getItem_str (c:=c) (by
    have e1:decide (i < -(2^63:Int))=false:=gn (by lia)
    have e2:decide (i>=2^63)=false:=gn (by lia)
    rw[e1,e2,Bool.or_false]) (by rw[h1];simpa using h2) ⟨.str ⟨#[c]⟩,H,I.tok _,⟨_,rfl⟩,q⟩) hs
theorem xB(lo hi:Option Int)(n:Nat):(sliceBounds lo hi none n).1=((HT.fy n 0 lo:Nat):Int)/\(sliceBounds lo hi none n).2.1=((HT.fy n n hi:Nat):Int)/\(sliceBounds lo hi none n).2.2=1:=by
  refine⟨?_,?_,rfl⟩
  · cases lo with
    | none=>simp[sliceBounds,HT.fy]
    | some i =>
      simp only[sliceBounds,HT.fy,CV,show(1:Int)>0 by decide,mO]
      by_cases h:i<0
      · simp only[h,mO]<;>lia
      · simp only[h,pA]<;>lia
  · cases hi with
    | none=>simp[sliceBounds,HT.fy]
    | some i =>
      simp only[sliceBounds,HT.fy,CV,show(1:Int)>0 by decide,mO]
      by_cases h:i<0
      · simp only[h,mO]<;>lia
      · simp only[h,pA]<;>lia
theorem uQ(aX:cg)(lo hi:Option Int):slicePick aX.toArray lo hi none=((aX.drop (HT.fy aX.length 0 lo)).take (HT.fy aX.length aX.length hi-HT.fy aX.length 0 lo)).toArray:=by
  obtain⟨h1,h2,h3⟩:=xB lo hi aX.toArray.size;unfold slicePick;rw[h1,h2,h3];simp only[sliceRange_one,pick_run,bI]<;>rfl
def acz(K:aj):V->Option Int->Option Int->Hp->VK->Prop:=λx lo hi H Q=>∃a xs,x=.ref a/\l8 K H a xs/\∀p,H p=none->Q (.ref p) (upd H p (.ao (uP xs lo hi)))
theorem Fi:SlR X (acz X.K):=by
  intro ag s σ H x v vl vu lo hi sl Q I rx hs pl pu h;obtain⟨a,xs,rfl,hx,q⟩:=h;cases rx;obtain⟨aX,r,ht,hz⟩:=I.list hx;have dD:=r.length;refine⟨"list",_,slot_list_getitem.lookup,ht.isList.typeIs,?_⟩;refine wpAny_getItem_list_slice ht.isList hs pl pu .none (by simp) ?_ (by rw[bI]<;>lia)
  rw[uQ,<-dD];refine⟨.ref s.heap.objs.size,_,I.laid (t':=s.toks) (o:=.ao (uP xs lo hi)) (λb ob q=>cD _ q) (bc _) ?_,rfl,q _ (I.hok.fresh (bc _))⟩
  exact⟨cG (qC xs lo hi) hz,_,0,(r.drop (HT.fy xs.length 0 lo)).take (HT.fy xs.length xs.length hi-HT.fy xs.length 0 lo),d0 _ rfl⟩
theorem j0:kQ X (.builtin "len") (λxs H Q=>∃p ys,xs=[.ref p]/\(l8 X.K H p ys\/iA X.K H p ys)/\Q (.int ys.length) H):=by
  intro ag s σ H xs us Q I r h;obtain⟨p,ys,rfl,hq,q⟩:=h;obtain⟨u,rfl,rx⟩:=kj r;cases rx;have hn:=pG;rcases hq with hq | hq
  · obtain⟨aX,r',pl,hz⟩:=I.list hq
    have dD:=r'.length;exact Calls.call_len_list pl.isList (by simp only[bI]<;>lia) ⟨.int ys.length,H,I.tok _,⟨s.toks+1,by rw[bI,dD]⟩,q⟩
  · obtain⟨aX,r',pl,hz⟩:=I.tuple hq
    have dD:=r'.length;exact len_tuple pl (by simp only[bI]<;>lia) ⟨.int ys.length,H,I.tok _,⟨s.toks+1,by rw[bI,dD]⟩,q⟩
theorem xC:kQ X (.builtin "len") (λxs H Q=>∃z,xs=[.str z]/\z.length<=sizeLine/\Q (.int z.length) H):=by
  intro ag s σ H xs us Q I r h;obtain⟨z,rfl,hz,q⟩:=h;obtain⟨u,rfl,t,rfl⟩:=kj r;have hn:=pG;exact len_str (by lia) ⟨.int z.length,H,I.tok _,⟨_,rfl⟩,q⟩
theorem j1:kQ X (.type "list") (λxs H Q=>∃p ys,xs=[.ref p]/\(l8 X.K H p ys\/iA X.K H p ys)/\∀l,H l=none->Q (.ref l) (upd H l (.ao ys))):=by
  intro ag s σ H xs us Q I r h;obtain⟨p,ys,rfl,hq,q⟩:=h;obtain⟨u,rfl,rx⟩:=kj r;cases rx;have fin:∀(aX:cg),Vals ys aX->ys.length<=sizeLine->∀(h':Heap) (c':Nat),(∀b o',s.heap.get? b=some o'->h'.get? b=some o') ->
      h'.get? s.heap.objs.size=some {cls:=.type "list",dict:=none,data:=.seq aX.toArray c',slots:=#[]}->EP X ag σ Q (.ref s.heap.objs.size) {s with heap:=h'}:=λaX r' hz h' c' kp e =>
    ⟨.ref s.heap.objs.size,_,I.laid (t':=s.toks) kp (bc _) (show ee X.prog X.w _ h' _ (.ao ys)from⟨hz,aX,c',r',e⟩),rfl,q _ (I.hok.fresh (bc _))⟩
  rcases hq with hq | hq
  · obtain⟨aX,r',pl,hz⟩:=I.list hq
    have dD:=r'.length;obtain⟨o,ho,hc,n,hd⟩:=pl.isList;exact call_list_seq p (.inl rfl) ho hc hd (λh' c' kp e=>fin aX r' hz h' c' kp e) (by simp only[bI]<;>lia)
  · obtain⟨aX,r',pl,hz⟩:=I.tuple hq
    have dD:=r'.length;obtain⟨o,ho,hc,n,hd⟩:=pl;exact call_list_seq p (.inr rfl) ho hc hd (λh' c' kp e=>fin aX r' hz h' c' kp e) (by simp only[bI]<;>lia)
theorem mq:kQ X (.type "tuple") (λxs H Q=>∃p ys,xs=[.ref p]/\((l8 X.K H p ys/\∀l,H l=none->Q (.ref l) (upd H l (.aC ys)))\/(iA X.K H p ys/\Q (.ref p) H))):=by
  intro ag s σ H xs us Q I r h;obtain⟨p,ys,rfl,h⟩:=h;obtain⟨u,rfl,rx⟩:=kj r;cases rx;rcases h with⟨hq,q⟩ | ⟨hq,q⟩
  · obtain⟨aX,r',pl,hz⟩:=I.list hq
    have dD:=r'.length;refine call_tuple_list pl.isList (λh' kp=>?_) (by simp only[bI]<;>lia)
    have I1:Inv X ag σ H {s with heap:=h'}:=I.kept (t':=s.toks) kp
    have I2:Inv X ag σ (upd H h'.objs.size (.aC ys)) {s with heap:=h'.push {cls:=.type "tuple",data:=.seq aX.toArray}} :=
      I1.laid (t':=s.toks) (λb o e=>cD _ e) (bc _) (show ee X.prog X.w _ _ _ (.aC ys)from⟨hz,aX,r',IsTup.new _ _⟩)
    exact⟨.ref h'.objs.size,_,I2,rfl,q _ (I1.hok.fresh (bc _))⟩
  · obtain⟨aX,r',pl,hz⟩:=I.tuple hq
    exact call_tuple_same pl ⟨.ref p,H,I,rfl,q⟩
def tyV(K:aj)(T:String)(x:V)(H:Hp):Prop:=match x with
  | .str _=>T="str"
  | .int _=>T="int"
  | .ref p=>(T="list"/\∃xs,l8 K H p xs)\/(T="tuple"/\∃o,K.lookup p=some o/\o.cls=.type "tuple"/\o.dict=none) \/
      (T="dict"/\((∃kvs,H p=some (.dK kvs))\/∃kvs,H p=some (.dT kvs)))\/(T="set"/\∃S n,H p=some (.set S n))
  | _=>False
theorem Dn{ag:List (ae×Obj)}{σ:St}{H:Hp}{s:az}{T:String}{x:V}{v:aq}(I:Inv X ag σ H s)(r:RelV x v)(ty:tyV X.K T x H) :
    s.TypeIs v T/\∀a,v=.ref a->∃ob,s.heap.get? a=some ob/\ob.dict=none:=by
  cases x with
  | str z =>
    obtain⟨t,rfl⟩:=r;cases(show T="str" from ty)
    exact⟨typeIs_str s z t,λ_ e=>nomatch e⟩
  | int i =>
    obtain⟨t,rfl⟩:=r;cases(show T="int" from ty)
    exact⟨typeIs_int s i t,λ_ e=>nomatch e⟩
  | ref p =>
    cases r;rcases ty with⟨rfl,xs,hq⟩ | ⟨rfl,o,hk,hc,hd⟩ | ⟨rfl,hk⟩ | ⟨rfl,S,n,hk⟩
    · obtain⟨aX,_,pl,_⟩:=I.list hq
      refine⟨pl.isList.typeIs,λa e=>?_⟩
      cases e;obtain⟨o,n,e,c,hd,_⟩:=pl;exact⟨o,e,hd⟩
    · refine⟨⟨o,I.zj p o hk,hc⟩,λa e=>?_⟩
      cases e;exact⟨o,I.zj _ o hk,hd⟩
    · have z:∃o,s.heap.get? p=some o/\o.ExactDict:=by
        rcases hk with⟨kvs,hk⟩ | ⟨kvs,hk⟩
        · obtain⟨_,_,_,_,o,_,_,e,ex,_⟩:=I.hok p _ hk
          exact⟨o,e,ex⟩
        · obtain⟨_,_,o,_,_,e,ex,_⟩:=(show ee X.prog X.w H s.heap p (.dT kvs)from I.hok p _ hk)
          exact⟨o,e,ex⟩
      obtain⟨o,e,ex⟩:=z;refine⟨⟨o,e,ex.1⟩,λa e2=>?_⟩
      cases e2;exact⟨o,e,ex.2.1⟩
    · obtain⟨o,_,_,_,e,ex,_⟩:=I.hok p _ hk
      refine⟨⟨o,e,ex.1⟩,λa e2=>?_⟩
      cases e2;exact⟨o,e,ex.2.1⟩
  | _=>exact False.elim ty
def Xa(K:aj)(T:String)(r:V->List V->Hp->VK->Prop)(to:TE):TE:=λσ H Q=>to σ H λx H1=>tyV K T x H1/\r x [] H1 Q
def tBM(K:aj)(T:String)(r:V->List V->Hp->VK->Prop)(to:TE)(t:TA):TE:=λσ H Q=>to σ H λx H1=>tyV K T x H1/\t σ H1 λxs H2=>r x xs H2 Q
variable {o e:au} {es:List au} {to:TE} {t:TA} {name:Str} {xj kW:Pos} {T id:String} {r:V->List V->Hp->VK->Prop}
theorem TC(pa:PlainAttrs T)(slot:Slot T name id)(hty:typeOf (.builtin id)=pure (.type "method_descriptor"))(hm:MtR X id r)(ho:PE X o to)
    (Ac:attributeBase o name X.env (eval o X.env)=eval o X.env:=by rfl) (Ad:(xj.endLine==kW.line)=true:=by rfl):PE X (.Call (.Attribute o name xj) [] [] kW) (Xa X.K T r to):=by
  intro ag s σ H Q I h;refine wpAny_Call_method0_late Ac Ad (thn (ho ag s σ H _ I h) λv s1 ⟨x,H1,I1,r1,ty,q1⟩=>?_)
  obtain⟨h1,h2⟩:=Dn I1 r1 ty;exact⟨T,id,pa,slot,hty,h1,h2,Cr rfl (PySem.evalArgs_none (hm ag s1 σ H1 x [] v [] Q I1 r1 .nil q1))⟩
theorem Ae(pa:PlainAttrs T)(slot:Slot T name id)(hty:typeOf (.builtin id)=pure (.type "method_descriptor"))(hm:MtR X id r)(ho:PE X o to)(ha:PA X (e::es) t)
    (Ac:attributeBase o name X.env (eval o X.env)=eval o X.env:=by rfl)
    (Ou:((backTo kW (starEach (e::es) X.env)).all (λx=>!x.1)&&(backToKw kW (keywordEach [] X.env)).all (λx=>x.1.isSome)
      && decide ((e::es).length+([]:List Keyword).length+(if([]:List Keyword).isEmpty then 0 else 1)<30))=true:=by rfl)
    (Ad:(xj.endLine==kW.line)=true:=by rfl) (hs:starEach (e::es) X.env=(false,eval e X.env)::starEach es X.env:=by rfl) (Dp:(backTo kW (starEach es X.env)).any (·.1)=false:=by rfl) :
    PE X (.Call (.Attribute o name xj) (e::es) [] kW) (tBM X.K T r to t):=by
  intro ag s σ H Q I h;refine wpAny_Call_method_late Ac Ou Ad rfl (thn (ho ag s σ H _ I h) λv s1 ⟨x,H1,I1,r1,ty,q1⟩=>?_)
  obtain⟨h1,h2⟩:=Dn I1 r1 ty;refine⟨T,id,pa,slot,hty,h1,h2,?_⟩;have hA:=ha kW ag s1 σ H1 _ I1 q1;rw[hs]at hA ⊢;refine Cr (by show(false || (backTo kW (starEach es X.env)).any (·.1))=false;rw[Dp]<;>rfl) (Calls.evalArgs_plain ?_)
  exact thn hA λus s2 ⟨vs,H2,I2,r2,q2⟩=>hm ag s2 σ H2 x vs v us Q I2 r1 r2 q2
end
def Xb(X:Cx)(id:String)(r:V->List V->Hp->VK->Prop):Prop :=
  ∀(ag:List (ae×Obj)) (s:az) (σ:St) (H:Hp) (x:V) (xs:List V) (v:aq) (us:cg) (Q:VK),Inv X ag σ H s->RelV x v->Vals xs us->r x xs H Q ->
    wpAny (model X.prog X.w) X.A (call (.builtin id) (v::us)) (EP X ag σ Q) X.xe s
theorem Vals.one:∀{x:V} {us:cg},Vals [x] us->∃u,us=[u]/\RelV x u
  | _,_,.cons r .nil=>⟨_,rfl,r⟩
theorem Vals.two:∀{x y:V} {us:cg},Vals [x,y] us->∃u v,us=[u,v]/\RelV x u/\RelV y v
  | _,_,_,.cons r (.cons q .nil)=>⟨_,_,rfl,r,q⟩
theorem Vals.zero:∀{us:cg},Vals [] us->us=[]
  | _,.nil=>rfl
theorem Vals.reverse{xs:List V}{us:cg}(h:Vals xs us):Vals xs.reverse us.reverse:=by
  induction h with
  | nil=>exact .nil
  | cons r t ih=>rw[wY,wY];exact Vals.append ih (.cons r .nil)
section
variable {X:Cx} {ag:List (ae×Obj)} {σ:St} {H:Hp} {s:az} {l b:ae} {xs ys zs:List V}
theorem Inv.Ov{aX its':cg}{n:Nat}{f:Array aq->Array aq}{t':Nat}(I:Inv X ag σ H s)(hH:H l=some (.ao xs))
    (e:s.heap.get? l=some {cls:=.type "list",data:=.seq aX.toArray n}) (hf:f aX.toArray=its'.toArray) (hv:Vals ys its') (hz:ys.length<=sizeLine) :
    Inv X ag σ (upd H l (.ao ys)) {s with heap:=s.heap.update l (Obj.mapSeq f),toks:=t'}:=by
  have q:=PySem.IsL.update e f;rw[hf]at q;refine I.write (x:=l) (e:=l) (by rw[hH];exact trivial) (.inl rfl) (λb' u hb hu=>(Cq s.heap (Obj.mapSeq f) (eE hb)).trans hu) ⟨_,q⟩ ?_
  exact⟨hz,its',_,hv,q⟩
theorem Inv.Xc{aX:cg}{t':Nat}(I:Inv X ag σ H s)(hv:Vals ys aX)(hz:ys.length<=sizeLine) :
    Inv X ag σ (upd H s.heap.objs.size (.ao ys)) {s with heap:=s.heap.push {cls:=.type "list",data:=.seq aX.toArray},toks:=t'} :=
  I.laid (λ_ _ q=>cD _ q) (bc _) ⟨hz,aX,0,hv,d0 _ rfl⟩
theorem Inv.fresh(I:Inv X ag σ H s):H s.heap.objs.size=none:=I.hok.fresh (bc _)
theorem Inv.Ow(I:Inv X ag σ H s)(hH:H l=some (.ao xs)):xs.length<=sizeLine/\∃(aX:cg) (n:Nat),Vals xs aX/\xs.length=aX.length/\s.heap.get? l=some {cls:=.type "list",data:=.seq aX.toArray n}:=by
  obtain⟨z,aX,n,r,e⟩:=I.hok l _ hH;exact⟨z,aX,n,r,r.length,e⟩
theorem Ks{n:Nat}(h:n<=sizeLine):Builtin.List.listTooLong n=false:=by
  unfold Builtin.List.listTooLong;exact gn (by lia)
end
section
variable {X:Cx}
def Fj:V->List V->Hp->VK->Prop:=λx vs H Q=>∃l xs y,x=.ref l/\vs=[y]/\H l=some (.ao xs)/\xs.length<sizeLine/\Q .cE (upd H l (.ao (xs++[y])))
theorem pI:Xb X "list.append" Fj:=by
  intro ag s σ H x vs v us Q I rx rv h;obtain⟨l,xs,y,rfl,rfl,hH,hz,q⟩:=h;cases rx;obtain⟨u,rfl,ru⟩:=rv.one;obtain⟨z,aX,n,r,hl,e⟩:=I.Ow hH;refine pz F.slot_list_append ⟨_,e,rfl⟩ F.entry_list_append (F.args_list_append_2 _ _) (PySem.list_append l aX.toArray n u (by rw[bI];lia)) ⟨e,?_⟩
  refine⟨.cE,_,I.Ov (its':=aX++[u]) hH e (by simp) (r.append (.cons ru .nil)) ?_,rfl,q⟩
  rw[bF,List.length_singleton]
  lia
def Af:V->List V->Hp->VK->Prop:=λx vs H Q=>∃l xs,x=.ref l/\vs=[]/\H l=some (.ao xs)/\Q .cE (upd H l (.ao xs.reverse))
theorem Dq:Xb X "list.reverse" Af:=by
  intro ag s σ H x vs v us Q I rx rv h;obtain⟨l,xs,rfl,rfl,hH,q⟩:=h;cases rx;have hus:=rv.zero;subst hus;obtain⟨z,aX,n,r,hl,e⟩:=I.Ow hH;refine pz F.slot_list_reverse ⟨_,e,rfl⟩ F.entry_list_reverse (F.args_list_reverse_1 _) (AutoSeq1.list_reverse_list_0 l aX.toArray n (by rw[bI];lia)) ⟨e,?_⟩
  refine⟨.cE,_,I.Ov (its':=aX.reverse) hH e (by simp) r.reverse ?_,rfl,q⟩
  rw[List.length_reverse]
  lia
end
end L2
namespace Att
open PySem PySem.W PySem.Calls PyProof.Rows
theorem qV{P:Params}{h:Heap}:∀(ns:List Int) (vs:cg),WellAll P h vs (ns.map WData.int)->IntsAre vs ns:=by
  intro ns;induction ns with
  | nil =>
    intro vs w;rw[r9]at w;cases w;exact .nil
  | cons n ns ih =>
    intro vs w;rw[bX]at w;cases w with
    | cons a b =>
      cases a;exact .cons _ _ (ih _ b)
theorem Hm{l:OpenLaw}{n:Nat}(hn:l.most=some n){P:Params}{h:Heap}{args:List WData}{TF:cg}
    (Ox:l.row.toRowW.claim.pre args=true) (RE:WellAll P h TF args) :
    ∃a vs ns,TF=[Value.ref a]/\args=[WData.list (ns.map WData.int)]/\h.get? a=some {cls:=.type "list",data:=.seq vs.toArray}/\IntsAre vs ns/\ns.length<=n:=by
  have hsh:WShape.hasAll [] args [.list .int]=true:=(pre_splitW Ox).1;have hc:l.pre.holds [] {args:=args}=true:=(pre_splitW Ox).2
  obtain⟨d,r,rfl,h1,h2⟩:=hasAllW_cons hsh;obtain rfl:=hasAllW_nil h2;obtain⟨xs,rfl,h3⟩:=hasW_list h1;obtain⟨ns,rfl⟩:=items_int h3;have dD:ns.length<=n:=by
    unfold OpenLaw.pre at hc;have h4:(WTm.not (.lt (.lit (.int (n:Int))) (.len (.arg 0)))).holds [] {args:=[.list (ns.map .int)]}=true:=by
      have h4:=(holds_andW hc).1;rw[hn]at h4;exact h4
    have h5:=condW_of h4 (w_not (w_lt w_lit (w_len_list (w_arg rfl))));rw[aB]at h5;refine CN λq=>?_
    have q':(n:Int)<((ns.length:Nat):Int):=by lia
    first
      | (rw[gp q']at h5;exact absurd h5 (by decide))
      | (simp at h5;lia)
  cases RE with
  | cons w1 w2 =>
    cases w2;cases w1 with
    | list ho nS=>exact⟨_,_,ns,rfl,rfl,ho,qV ns _ nS,dD⟩
theorem Hn(l:OpenLaw)(args:List WData):l.row.toRowW.claim.post args (.bool true) args=true :=
  postW_of (r:=l.row.toRowW) (X:=(true==true))
    (show WShape.has [] (.bool true) .bool=true by first | rfl | decide | simp[WShape.has,WShape.arms,WShape.armsAll])
    (show(WTm.eq .res (.lit (.bool true))).value [] {args:=args,res:=some (.bool true),after:=args}=some (.bool (true==true))from w_eq_bool (w_res rfl) w_lit) rfl
theorem Ag{l:OpenLaw}{n:Nat}{q:bK}{loose:List Str}{XP:dQ->Heap->Prop}{YP:aW->Heap->Prop}{d:DefRec}
    (hn:l.most=some n) (hdf:d.params.defaults=[])
    (call:∀(w:aW) (s₀ s₁:az) (mg mb:dQ) (fa:ae) (o:Obj) (pm cd doc:aq) (a:ae) (vs:cg) (ns:List Int),
      Ground q loose [] XP w s₀ mg mb s₁.heap->YP w s₁.heap ->
      s₁.heap.get? fa=some o->o.data=.func (docDef d.name d.params d.body d.scope pm cd doc)->s₁.heap.CodeRec cd d.name->mg d.name=some (.ref fa) ->
      s₁.heap.get? a=some {cls:=.type "list",data:=.seq vs.toArray}->IntsAre vs ns->ns.length<=n->s₁.gens=#[] ->
      codeAny (model l.prog w) callerA (.call (.ref fa) ⟨[.ref a],[]⟩) (λr s'=>r=.ok (.ret (.bool true))/\OldK s₁.heap s'.heap/\s'.os=s₁.os/\AllBare s'.gens) s₁) :
    WalkO q loose XP YP l.row.toRowW d [] (λf vs=>PySem.call f vs):=by
  intro w s₀ s₁ mg mb G Y fa o pm cd doc dV kV ho hd vw hD RF hg args TF as Ox ago hrd RE hlo;obtain rfl:dV=.none:=Dflts.none hD hdf;obtain rfl:kV=.none:=Dflts.noKw hD;obtain⟨a,vs,ns,rfl,rfl,Kt,Ku,dD⟩:=Hm hn Ox RE;refine enter_call (mK (call w s₀ s₁ mg mb fa o pm cd doc a vs ns G Y ho (fd_plain hd) vw RF Kt Ku dD hg) λr s' hq=>?_)
  obtain⟨rfl,h2,h3,h4⟩:=hq;exact⟨.inl ⟨.bool true,.bool true,[],rfl,λ_=>rfl,.bool true,Hn l _,λ_=>⟨List.Pairwise.nil,λ_ hm=>(nomatch hm)⟩⟩,h2,h3,h4⟩
end Att
namespace L2
open PySem PySem.Spec PyProof.Rows
theorem vN:∀{vs:cg} {ns:List Int},IntsAre vs ns->Vals (ns.map V.int) vs
  | _,_,.nil=>.nil
  | _,_,.cons n t h=>.cons ⟨t,rfl⟩ (vN h)
theorem Ho{P:bK}{w:aW}{K:aj}{mg mb:dQ}{CX:ET}{k:Nat}{fa a:ae}{fd:dN}{x:Str}{sp:Sp}{s₁:az}{vs:cg}{ns:List Int}{tabs:List (ae×Str)}
    (KX:K.In s₁.heap) (Oy:s₁.heap.Ns mainGlobals mg) (hb:s₁.heap.Ns builtinsNs mb) (hbb:∀x:Str,x≠"__name__"->mb x=bootBuiltins x) (Kv:s₁.heap.NoLimit) (hg:s₁.gens=#[])
    (hT:∀b q,tabs.lookup b=some q->s₁.heap.get? b=some {cls:=.none,data:=.fields #[]}/\isCodeTable s₁.heap b/\K.lookup b=none) (hTI:∀H:Hp,(∀b q,tabs.lookup b=some q->H b=some (.zx q))->sR K H)
    (ha:s₁.heap.get? a=some {cls:=.type "list",data:=.seq vs.toArray}) (hi:IntsAre vs ns) (hl:ns.length<=sizeLine) (hr:eJ k callerA)
    (F:∀base:Heap,K.In base->base.Ns mainGlobals mg->FnOk P w K mg base CX k fa fd [x] sp) (Xd:∀(s:az) (u:aq),BindsTo s fd ⟨[u],[]⟩ [(x,u)])
    (mQ:∀H:Hp,ql K H a (ns.map V.int)->sp [.ref a] H (λv _=>v=.bl true) λ_ _ _=>False) (hCX:∀H e s',CX [] H s₁ (λ_ _ _=>False) e s'->False) :
    codeAny (model P w) callerA (.call (.ref fa) ⟨[.ref a],[]⟩) (λr s'=>r=.ok (.ret (.bool true))/\OldK s₁.heap s'.heap/\s'.os=s₁.os/\AllBare s'.gens) s₁:=by
  have rv:=vN hi;have cJ:=hi.length
  let oa:Obj:={cls:=.type "list",data:=.seq vs.toArray}
  let H:Hp:=λb=>if b=a/\K.lookup a=none then some (.mj oa (.ao (ns.map V.int)))else(tabs.lookup b).map HO.zx
  have TJ:∀b,H b=if b=a/\K.lookup a=none then some (.mj oa (.ao (ns.map V.int)))else(tabs.lookup b).map HO.zx:=λ_=>rfl
  have hHt:∀b q,tabs.lookup b=some q->H b=some (.zx q):=λb q e=>by
    have hne:b≠a:=λz=>by
      subst z;have h1:=(hT b q e).1;rw[ha]at h1;cases h1
    rw[TJ,if_neg (λz=>hne z.1),e]
    rfl
  have hH:∀b u,H b=some u->(b=a/\K.lookup a=none/\u=.mj oa (.ao (ns.map V.int)))\/∃q,tabs.lookup b=some q/\u=.zx q:=λb u e=>by
    rw[TJ]at e;by_cases h:b=a/\K.lookup a=none
    · rw[if_pos h]at e
      cases e;exact .inl ⟨h.1,h.2,rfl⟩
    · rw[if_neg h]at e
      cases z:tabs.lookup b with
      | none=>rw[z]at e;cases e
      | some q=>rw[z]at e;cases e;exact .inr ⟨q,rfl,rfl⟩
  have hS:ql K H a (ns.map V.int):=by
    cases hk:K.lookup a with
    | some o =>
      have e:=KX a o hk;rw[ha]at e;cases e;exact .inr ⟨vs,_,hk,by rw[cJ];exact hl,rv⟩
    | none=>exact .inl (.inr ⟨oa,by rw[TJ,if_pos ⟨rfl,hk⟩]⟩)
  have hok:oN P w H s₁.heap:=λb u e=>by
    rcases hH b u e with⟨rfl,_,rfl⟩ | ⟨q,hq,rfl⟩
    · exact⟨ha,by rw[aB];exact hl,vs,_,rv,ha⟩
    · exact⟨#[],(hT b q hq).1,trivial,λpos cv z=>by cases z⟩
  have noD:∀{b:ae} {o:Obj} {es:Array DictEntry} {ep:Nat},s₁.heap.get? b=some o->o.data=.dict es ep->H b=none:=λ{b o es ep} e d=>by
    cases q:H b with
    | none=>rfl
    | some u =>
      rcases hH b u q with⟨rfl,_,_⟩ | ⟨t,ht,_⟩
      · rw[ha]at e;cases e;cases d
      · have h1:=(hT b t ht).1
        rw[h1]at e;cases e;cases d
  have nsK:∀{b:ae} {m:dQ},s₁.heap.Ns b m->(zU s₁.heap H).Ns b m:=λ{b m} ⟨o,es,ep,e,d,r⟩=>⟨o,es,ep,hidT_get e (noD e d),d,r⟩
  have hKb:K.In (zU s₁.heap H):=λb o e=>hidT_get (KX b o e) (by
    cases q:H b with
    | none=>rfl
    | some u =>
      rcases hH b u q with⟨rfl,z,_⟩ | ⟨t,ht,_⟩
      · rw[z]at e;cases e
      · rw[(hT b t ht).2.2]at e;cases e)
  have hM:Mod K mg (zU s₁.heap H):=⟨hKb,nsK Oy,⟨mb,nsK hb,hbb⟩,let ⟨mc,h1,h2⟩:=Kv;⟨mc,nsK h1,h2⟩⟩
  have e0:Dh P w K mg (zU s₁.heap H) callerA [] s₁ H:=⟨rfl,hM,λb o e=>of_hidT e,pj (Hf _ _),trivial,λb hb=>absurd (show b∈([]:List ae)from hb) (by simp),hok,.of_eq hg,hTI H hHt⟩
  refine mK ((F _ hKb (nsK Oy)).run callerA [] s₁ H ⟨[.ref a],[]⟩ [.ref a] [.ref a] _ _ hr e0 (Xd s₁ (.ref a)) (.cons rfl .nil) (mQ H hS)) λr s' h=>?_
  cases r with
  | error e=>exact(hCX H e s' h).elim
  | ok fl =>
    cases fl with
    | next=>exact False.elim h
    | brk=>exact False.elim h
    | cont=>exact False.elim h
    | ret u =>
      obtain⟨v,H',os,bare,un,Xe,r',q⟩:=h;have q':v=.bl true:=q;subst q';obtain rfl:u=Value.bool true:=r';have noF:∀b:ae,b∉BZ ([]:List Env):=λb z=>absurd (show b∈([]:List ae)from z) (by simp)
      refine⟨rfl,⟨λb o e=>?_,λb o e=>un.there b o e (by simp)⟩,os,bare⟩
      cases q:H b with
      | none=>exact .inl (un.keep b o e q (noF b) (by simp))
      | some u =>
        rcases hH b u q with⟨rfl,_,rfl⟩ | ⟨t,ht,rfl⟩
        · obtain⟨e2,_⟩:=Xe b _ (un.frzs b _ _ q)
          rw[ha]at e;cases e;exact .inl e2
        · obtain⟨h1,h2,_⟩:=hT b t ht
          obtain⟨ps,e2,_⟩:=(show ee P w H' s'.heap b (.zx t)from Xe b _ (un.tbls b _ q))
          rw[h1]at e;cases e;exact .inr (.inl ⟨h2,rfl,#[],ps,rfl,by rw[e2];simp⟩)
abbrev E0:XK:=λ_ _ _=>False
theorem Xf{A:bY}{k:Nat}(hr:eJ k A):A.units+1<cLine:=jT (Nat.add_le_add_left (by decide:1<=64) _) hr.units
section
variable {X:Cx}
theorem pv(i:Nat){x:Str}{pos:Pos}(hN:X.N[i]?=some x:=by rfl)(hv:VZ X.env.scope x:=by first | exact Or.inl rfl | exact Or.inr (Or.inl rfl) | exact Or.inr (Or.inr rfl))(hd:(x==("__debug__":Str))=false:=by decide)
    (vw:(x==("__classdict__":Str))=false:=by decide):PE X (.Name x pos) (jY i):=pe_var hN hv hd vw
end
theorem Xg{A B:Prop}(h:B):if false=true then A else B:=by
  rw[if_neg iE];exact h
theorem Xh{A B:Prop}(h:A):if true=true then A else B:=by
  rw[if_pos rfl];exact h
def Same(H H':Hp):Prop:=∀b o,H b=some o->H' b=some o
theorem Same.refl(H:Hp):Same H H:=λ_ _ h=>h
theorem Same.trans{H H1 H2:Hp}(a:Same H H1)(b:Same H1 H2):Same H H2:=λc o h=>b c o (a c o h)
theorem Same.free{H H':Hp}(e:Same H H'){l:ae}(h:H' l=Option.none):H l=Option.none:=by
  cases q:H l with
  | none=>rfl
  | some o =>
    rw[e l o q]at h;cases h
theorem Same.seq{K:aj}{H H':Hp}{a:ae}{xs:List V}(e:Same H H')(h:l8 K H a xs):l8 K H' a xs:=by
  rcases h with(h | ⟨o,h⟩) | h
  · exact .inl (.inl (e _ _ h))
  · exact .inl (.inr ⟨o,e _ _ h⟩)
  · exact .inr h
section
variable {κ:Type} [DecidableEq κ]
def l9(kvs:List (κ×V))(k:κ):Option V:=(kvs.find? λkv=>decide (kv.1=k)).map (·.2)
def Oz(kvs:List (κ×V))(k:κ)(v:V):List (κ×V) :=
 if(kvs.any λkv=>decide (kv.1=k))=true then kvs.map (λkv=>if kv.1=k then(kv.1,v)else kv)else kvs++[(k,v)]
theorem tf{p:κ×V}{r:List (κ×V)}{k:κ}(e:p.1=k):l9 (p::r) k=some p.2:=by simp[l9,o9,e]
theorem tj{p:κ×V}{r:List (κ×V)}{k:κ}(e:¬p.1=k):l9 (p::r) k=l9 r k:=by simp[l9,o9,e]
theorem Ah(k:κ):∀kvs:List (κ×V),(kvs.any λkv=>decide (kv.1=k))=(l9 kvs k).isSome
 | []=>rfl
 | p::r=>by
  rw[ph];by_cases e:p.1=k
  ·simp only[tf e,gp e,Bool.true_or,Option.isSome_some]
  ·rw[tj e,gn e,Bool.false_or];exact Ah k r
theorem Kw{kvs:List (κ×V)}{k:κ}(v:V)(h:l9 kvs k=none):Oz kvs k v=kvs++[(k,v)]:=by
 unfold Oz;rw[Ah,h];exact if_neg (by decide)
theorem He.getD{o:Option V}{u:mP}{d:V}{d':aq}(r:He o u)(rd:RelV d d'):RelV (o.getD d) (u.getD d'):=by
 cases o with
 | none=>cases u with
  | none=>exact rd
  | some _=>exact(show False from r).elim
 | some _=>cases u with
  | none=>exact(show False from r).elim
  | some _=>exact r
theorem KV.val{kvs:List (κ×V)}{vs:List (κ×aq)}(r:KV kvs vs)(k:κ):He (l9 kvs k) (valueAt vs k):=by
 unfold KV at r;induction r with
 | nil=>exact True.intro
 | @cons p q ps qs h t ih =>
  obtain⟨h1,h2⟩:=h;by_cases e:p.1=k
  ·have e':q.1=k:=h1.symm.trans e;have b:valueAt (q::qs) k=some q.2:=by simp[valueAt,o9,e']
   rw[tf e,b];exact h2
  ·have e':¬q.1=k:=λz=>e (h1.trans z)
   have b:valueAt (q::qs) k=valueAt qs k:=by simp[valueAt,o9,e']
   rw[tj e,b];exact ih
theorem KV.any{kvs:List (κ×V)}{vs:List (κ×aq)}(r:KV kvs vs)(k:κ):(kvs.any λkv=>decide (kv.1=k))=vs.any λkv=>decide (kv.1=k):=by
 unfold KV at r;induction r with
 | nil=>rfl
 | cons h t ih=>rw[ph,ph,ih,h.1]
theorem KV.acD{kvs:List (κ×V)}{vs:List (κ×aq)}(r:KV kvs vs)(k:κ){y:V}{u:aq}(ry:RelV y u) :
  KV (kvs.map λkv=>if kv.1=k then(kv.1,y)else kv) (vs.map λkv=>if kv.1=k then(kv.1,u)else kv):=by
 unfold KV at r ⊢;induction r with
 | nil=>exact .nil
 | @cons p q ps qs h t ih =>
  rw[bX,bX];refine .cons ?_ ih;obtain⟨h1,h2⟩:=h;by_cases e:p.1=k
  ·rw[if_pos e,if_pos (h1.symm.trans e)];exact⟨h1,ry⟩
  ·rw[if_neg e,if_neg (λz=>e (h1.trans z))];exact⟨h1,h2⟩
theorem KV.put{kvs:List (κ×V)}{vs:List (κ×aq)}(r:KV kvs vs)(k:κ){y:V}{u:aq}(ry:RelV y u):KV (Oz kvs k y) (stored vs k u):=by
 unfold Oz stored;rw[r.any k];by_cases e:(vs.any λkv=>decide (kv.1=k))=true
 ·rw[if_pos e,if_pos e];exact r.acD k ry
 ·rw[if_neg e,if_neg e];exact Paired.snoc r ⟨rfl,ry⟩
theorem KV.length{kvs:List (κ×V)}{vs:List (κ×aq)}(r:KV kvs vs):kvs.length=vs.length:=xc r
end
theorem Kx{P:bK}{w:aW}{k:cf}{u:aq}(r:RelV (kV k) u):(gf P w).is k u=true:=by
 cases k with
 | inl i=>obtain⟨t,e⟩:=(show ∃t,u=Value.int i t from r);subst e;exact zR P w i t
 | inr x=>obtain⟨t,e⟩:=(show ∃t,u=Value.str x t from r);subst e;exact zS P w x t
theorem vO{P:bK}{w:aW}:∀{ks:List cf} {us:cg},Vals (ks.map kV) us->ItemsAre (gf P w) ks us
 | [],_,r=>by rw[r9]at r;cases r;exact .nil
 | k::ks,_,r=>by
  rw[bX]at r;cases r with
  | cons h t=>exact .cons (Kx h) (vO t)
section
variable {P:bK} {w:aW} {H:Hp} {h:Heap} {a:ae}
theorem Ky{u:HO}(ok:oN P w H h)(e:Rd H a u):ee P w H h a u:=e.ok ok
theorem RG{kvs:List (cf×V)}(ok:oN P w H h)(e:Rd H a (.dK kvs)):kvs.length<=sizeLine/\(a==sysModules)=false/\∃vs,KV kvs vs/\h.DictOf (gf P w) a vs :=
 show ee P w H h a (.dK kvs)from Ky ok e
theorem Xi{kvs:List (cf×V)}(ok:oN P w H h)(e:H a=some (.dK kvs)):kvs.length<=sizeLine/\(a==sysModules)=false/\∃vs,KV kvs vs/\h.DictOf (gf P w) a vs:=RG ok (.inl e)
end
section
variable {X:Cx} {ag:List (ae×Obj)} {σ:St} {H:Hp} {s:az} {a b:ae} {k:List cf} {v:V} {r:aq} {A:bY} {E:cQ} {xs:List (List cf×ae×aq)}
def jw(K:aj)(H:Hp)(xs:List (List cf×ae×aq)):Prop:=∀x∈xs,iA K H x.2.1 (x.1.map kV)
theorem key_is(I:Inv X ag σ H s)(e:iA X.K H a (k.map kV)):(tupleKind (gf X.prog X.w)).is s.heap k a:=by
 obtain⟨aX,r,⟨o,h1,h2,n,h3⟩,_⟩:=I.tuple e;exact⟨o,aX.toArray,n,h1,h2,h3,by simpa using vO r⟩
theorem Kz(I:Inv X ag σ H s)(e:Rd H a (.dT xs))(hk:jw X.K H xs):xs.length<=sizeLine/\(a==sysModules)=false/\s.heap.DictOfH (tupleKind (gf X.prog X.w)) a xs:=by
 obtain⟨z,y,o,es,ep,h1,h2,h3,h4,h5⟩:=(show ee X.prog X.w H s.heap a (.dT xs)from Ky I.hok e)
 exact⟨z,y,o,es,ep,h1,h2,h3,h4,λx hx=>key_is I (hk x hx),h5⟩
theorem Xj{Q:cQ}(hu:A.units+1<cLine)(I:Inv X ag σ H s)(e:Rd H a (.dT xs))(hk:jw X.K H xs)(eb:iA X.K H b (k.map kV))(h:∀s',Inv X ag σ H s'->Q (.bool (atKey xs k).isSome) s') :
  wpAny (model X.prog X.w) A (compareOp .In (.ref b) (.ref a)) Q E s:=by
 obtain⟨_,hd,dd⟩:=Kz I e hk;exact wpAny_in_heap (Cz hu) (key_is I eb) hd dd (h _ (I.tok _))
theorem Xk{Q:cQ}(hu:A.units+1<cLine)(I:Inv X ag σ H s)(e:Rd H a (.dT xs))(hk:jw X.K H xs)(eb:iA X.K H b (k.map kV)) (h:∀s',Inv X ag σ H s'->Q (.bool (!(atKey xs k).isSome)) s') :
  wpAny (model X.prog X.w) A (compareOp .NotIn (.ref b) (.ref a)) Q E s:=by
 obtain⟨_,hd,dd⟩:=Kz I e hk;exact wpAny_notIn_heap (Cz hu) (key_is I eb) hd dd (h _ (I.tok _))
theorem Dr{κ:Type} [DecidableEq κ] (xs:List (κ×ae×aq)) (k:κ) (a:ae) (v:aq):(storedH xs k a v).length<=xs.length+1:=by
 unfold storedH;split
 ·rw[aB];lia
 ·rw[bF];exact bc _
theorem TK{Q:Unit->az->Prop}(hu:A.units+1<cLine)(I:Inv X ag σ H s)(e:H a=some (.dT xs))(hk:jw X.K H xs)(eb:iA X.K H b (k.map kV))(hl:xs.length<sizeLine)
  (h:∀s',Inv X ag σ (upd H a (.dT (storedH xs k b r))) s'->Q () s'):wpAny (model X.prog X.w) A (setItem (.ref a) (.ref b) r) Q E s:=by
 obtain⟨_,hd,dd⟩:=Kz I (.inl e) hk;refine wpAny_setItem_heap (hsz:=mM hl) (Cz hu) (key_is I eb) dd λh' dd' hs=>h _ ?_
 obtain⟨q,es,ep,hq,h2,h3,h4,_,h5⟩:=dd';have hz:(storedH xs k b r).length<=sizeLine:=by have:=Dr xs k b r;lia
 exact I.write (x:=a) (e:=a) (by rw[e];exact True.intro) (.inl rfl) (λc q' hc z=>(hs.2 c hc).trans z) ⟨q,hq⟩ ⟨hz,hd,q,es,ep,hq,h2,h3,h4,h5⟩
theorem Ai(I:Inv X ag σ H s):sysModules<s.heap.objs.size:=Nat.lt_trans (by decide) (show mainGlobals<s.heap.objs.size from(I.mod.glob.keeps I.bk).lt)
def Fl(o:HO):TE:=λ_ H Q=>∀p,H p=none->Q (.ref p) (upd H p o)
theorem Fm{pos:Pos}:PE X (.Dict [] [] pos) (Fl (.dT [])):=λag s σ H Q I h =>
 wpAny_Dict_empty ⟨.ref s.heap.objs.size,_,I.laid (a:=s.heap.objs.size) (o:=.dT []) (t':=s.toks) (λ_ _ q=>cD _ q) (bc _)
  ⟨gr _,rO.mpr (eE (cX (Ai I))),_,#[],0,d0 _ rfl,⟨rfl,rfl,rfl⟩,rfl,rfl,xb⟩,rfl,h _ (I.hok.fresh (bc _))⟩
theorem vP{κ:Type} [DecidableEq κ] (xs:List (κ×ae×aq)) (k:κ):(atKey xs k).isSome=(xs.map (·.1)).any λj=>decide (j=k):=by
 unfold atKey;rw[CJ,xg,List.isSome_find?];rfl
end
def V3(CX:ET)(P:bK)(w:aW)(K:aj)(mg:dQ)(base:Heap)(N:List Str)(qual:Str)(scope:Scope)(f:ae)(cd:aq)(cl:List (Str×ae))(A:bY)(outer:List Env)(s:az)(H:Hp)(E:XK):Cx where
 prog:=P
 w:=w
 K:=K
 mg:=mg
 base:=base
 A:=A.deeper (W.envX qual scope s.heap.objs.size f cd cl)
 N:=N
 s₀:=s
 H₀:=H
 env:=W.envX qual scope s.heap.objs.size f cd cl
 outer:=outer
 stack:=W.envX qual scope s.heap.objs.size f cd cl::outer
 ex:=[]
 calm:=true
 fn:=λ_=>false
 pn:=[]
 xe:=λe s'=>wpAny (model P w) (A.deeper (W.envX qual scope s.heap.objs.size f cd cl)) (leaving (W.envX qual scope s.heap.objs.size f cd cl) e) (λ_ Oi=>CX outer H s E e Oi) (λe' Oi=>CX outer H s E e' Oi) s'
structure kX (h:Heap) (H:Hp) (scope:Scope) (cl:List (Str×ae)) (N:List Str) (τ:St):Prop where
 inj:∀x y c,cl.lookup x=some c->cl.lookup y=some c->x=y
 has:∀x,scope.names.lookup x=some .free->∃c,cl.lookup x=some c
 cell:∀x c,cl.lookup x=some c->∃v,h.IsCell c v
 free:∀x c,cl.lookup x=some c->H c=none
 val:∀(i:Nat) (x:Str) (v:V),N[i]?=some x->τ[i]?=some (some v)->∃c u,scope.names.lookup x=some .free/\cl.lookup x=some c/\h.IsCell c (some u)/\RelV v u
 len:τ.length=N.length
theorem kX.un{h h':Heap}{H H':Hp}{scope:Scope}{cl:List (Str×ae)}{N:List Str}{τ:St}{fs:List ae}(C:kX h H scope cl N τ)(u:Un fs [] H H' h h'):kX h' H' scope cl N τ where
 inj:=C.inj
 has:=C.has
 cell:=λx c e=>by
  obtain⟨v,o,ho,hd⟩:=C.cell x c e;obtain⟨sl,q⟩:=u.any ho (C.free x c e) (by simp)
  exact⟨v,_,q,hd⟩
 free:=λx c e=>by
  obtain⟨v,o,ho,hd⟩:=C.cell x c e;exact u.free c o ho (C.free x c e) (by simp)
 val:=λi x v e1 e2=>by
  obtain⟨c,w,k,e,⟨o,ho,hd⟩,r⟩:=C.val i x v e1 e2;obtain⟨sl,q⟩:=u.any ho (C.free x c e) (by simp)
  exact⟨c,w,k,e,⟨_,q,hd⟩,r⟩
 len:=C.len
theorem OA{CX:ET}{P:bK}{w:aW}{K:aj}{mg:dQ}{base:Heap}{N:List Str}{x qual:Str}{scope:Scope}{f:ae}{cd:aq}{cl:List (Str×ae)}{A:bY}{outer:List Env}{s:az}{H:Hp}{E:XK}{u:aq}{v:V}{τ:St}{h1:Heap}{tk:Nat}
  (hk:scope.kind=.function) (hx:scope.names.lookup x=some .local) (nc:∀y∈scope.names,y.2≠.cell) (hd:A.handled=none) (e0:Dh P w K mg base A outer s H) (r:RelV v u) (C:kX s.heap H scope cl N τ)
  (Oy:h1.Ns s.heap.objs.size λy=>[(x,u)].reverse.lookup y) (hkp:∀b o,s.heap.get? b=some o->h1.get? b=some o) :
  Inv (V3 CX P w K mg base (x::N) qual scope f cd cl A outer s H E) [] (some v::τ) H {s with heap:=h1,toks:=tk}:=by
 have noA:∀b:ae,b∉(V3 CX P w K mg base (x::N) qual scope f cd cl A outer s H E).ex:=λb z=>absurd (show b∈([]:List ae)from z) (by simp)
 refine⟨⟨e0.mod,hk,rfl,rfl,bc _,C.inj,λy hy=>?_,λy c h _=>(by cases h),λ_=>hd,Around.frames_deeper e0.frames,.inr ⟨rfl,rfl⟩,λb z=>absurd z (noA b),e0.bs,e0.bsz,λb _ _=>noA b,λb z=>absurd z (noA b),e0.funs,e0.frf,e0.tabs⟩,
  rfl,e0.bare,Un.kept hkp,⟨_,Oy,λi y z h1 h2 h3=>?_⟩,λy c h=>?_,e0.hok.fresh (bc _),λy c h=>C.free y c h,λp hp=>absurd (show p∈([]:List (ae×Obj))from hp) (by simp),e0.hok.kept hkp,?_⟩
 ·have hy:scope.names.lookup y=some .cell\/scope.names.lookup y=some .free:=hy;rcases hy with hy | hy
  ·exact absurd rfl (nc _ (ez hy))
  ·exact C.has y hy
 ·cases i with
  | zero =>
   have e1:x=y:=bM (show some x=some y from h1)
   have e2:v=z:=bM (bM (show some (some v)=some (some z)from h2))
   subst e1 e2;exact⟨u,r,.inl ⟨hx,by simp⟩⟩
  | succ i =>
   obtain⟨c,w',k,e,z',r'⟩:=C.val i y z (by simpa using (show(x::N)[i+1]?=some y from h1)) (by simpa using h2)
   exact⟨w',r',.inr ⟨.inr k,c,e,z'.keeps hkp⟩⟩
 ·obtain⟨v,z⟩:=C.cell y c h;exact⟨v,z.keeps hkp⟩
 ·show(some v::τ).length=(x::N).length;rw[bt,bt,C.len]
theorem OB{CX:ET}{P:bK}{w:aW}{K:aj}{mg:dQ}{base:Heap}{k:Nat}{N:List Str}{x name qual:Str}{params:Arguments}{body:au}{scope:Scope}{f:ae}{pm dI Hq:aq}{cl:List (Str×ae)}{A:bY}{outer:List Env}{s:az}{H:Hp}{Q:VK}{E:XK}{u:aq}{v:V}{τ:St}{o:Obj}
  (ho:s.heap.get? f=some o) (hf:o.data=.func (W.kla_fn name qual params body scope cl pm dI Hq)) (vw:s.heap.CodeRec dI qual) (hr:eJ (k+1) A) (e0:Dh P w K mg base A outer s H)
  (hb:bindArgs (W.kla_fn name qual params body scope cl pm dI Hq) ⟨[u],[]⟩=pure [(x,u)]) (r:RelV v u) (hk:scope.kind=.function) (TL:scope.isCoroutine=false) (TM:scope.isGenerator=false) (hx:scope.names.lookup x=some .local) (nc:∀y∈scope.names,y.2≠.cell)
  (C:kX s.heap H scope cl N τ) (hbody:∃t,PE (V3 CX P w K mg base (x::N) qual scope f dI cl A outer s H E) body t/\t (some v::τ) H Q) :
  codeAny (model P w) A (.call (.ref f) ⟨[u],[]⟩) (CR CX outer P w H s Q E) s:=by
 have lim:s.heap.NoLimit:=e0.mod.nolimit.keeps λb o e=>(e0.bs b o e).1
 refine W.kla_callFunE hr.depth ho hf TL TM rfl vw ?_;rw[hb];refine aN (wpAny_newFunctionEnv nc (λy hy=>?_) (λHr Oy hsb=>⟨lim.fresh _ hsb,?_⟩) hk)
 ·obtain rfl:y=(x,u):=by simpa using hy
  exact hx
 ·show codeAny _ _ (.expr body (W.envX qual scope s.heap.objs.size f dI cl)) _ _;obtain⟨t,ht,hq⟩:=hbody;have Xl:∀b o,s.heap.get? b=some o->Hr.get? b=some o:=λb o e=>hsb.extBut b o (cX (bR e)) (cD _ e)
  have I:=OA (CX:=CX) (qual:=qual) (f:=f) (cd:=dI) (E:=E) (tk:=s.toks+1) hk hx nc hr.hd e0 r C Oy Xl;refine W.kla_codeExpr (mN (ht [] _ _ H Q I hq) (λu' s' hs=>?_) λe s' hs=>hs)
  obtain⟨v',H',J,rv,q⟩:=hs;exact⟨v',H',J.os,J.bare,J.base,J.hok,rv,q⟩
theorem uR{pos p:Pos}{c cv:aq}(l:cg)(h:TriplesOk l)(e:codeAmong p (l++[rawInt pos.line,rawInt pos.col,c])=some cv):codeAmong p l=some cv\/cv=c:=by
 fun_induction TriplesOk l with
 | case1 =>
  simp only[gS,codeAmong,rawInt]at e;split at e
  ·cases e;exact .inr rfl
  ·cases e
 | case2 a t b u x rest ih =>
  simp only[List.cons_append,codeAmong]at e ⊢;split at e
  ·rename_i hc;rw[if_pos hc];exact .inl e
  ·rename_i hc;rw[if_neg hc];exact ih h e
 | case3 l h1 h2=>exact h.elim
def xD:HO:=.ext λ_=>True
theorem Ds{P:bK}{w:aW}{H:Hp}{h:Heap}{a:ae}{o:Obj}(e:h.get? a=some o):ee P w H h a (.mj o xD):=⟨e,trivial,⟨o,e⟩,λ_ _ _ _=>trivial⟩
def Aj(mg:dQ)(base:Heap):Prop:=∃bm o,mg "__builtins__"=some (.ref bm)/\bm≠builtinsNs/\bm≠mainGlobals/\base.get? bm=some o/\o.cls=.type "module"/\o.dict=some builtinsNs/\o.data=.plain
def KA(H:Hp)(f:ae)(qual:Str)(params:Arguments)(body:au)(scope:Scope)(cl:List (Str×ae)):Prop :=
 ∃o u pm dI Hq c oc uc vs t,H f=some (.mj o u)/\o.data=.func (W.kla_fn "<lambda>" qual params body scope cl pm dI Hq)/\dI=.ref c/\H c=some (.mj oc uc)/\oc.data=.fields vs/\vs[1]?=some (.str qual t)
def acE(qual:Str)(params:Arguments)(body:au)(scope:Scope)(cl:List (Str×ae)):TE:=λ_ H Q=>∀f H',H f=none->Same H H'->(∀b o,H' b=some o->H b=some o\/H b=none)->KA H' f qual params body scope cl->Q (.ref f) H'
section
variable {X:Cx} {x:Str} {params:Arguments} {body:au} {scope:Scope} {lp:Pos} {cl:List (Str×ae)} {c T:ae}
theorem TN(hx:x∈d9)(ht:W.tabIn X.K x=some (c,T))(hC:W.codeHdIn X.K c T=true)(RI:X.env.code=.ref c)(Xm:X.env.qual++"<lambda>"=uN x)(hB:Aj X.mg X.base)
  (acF:defaultsOf params X.env=([],[])) (hcl:closureFor scope X.env=pure cl):PE X (.Lambda params body scope lp) (acE (uN x) params body scope cl):=by
 intro ag s σ H Q I h;have hT:H T=some (.zx (uN x)):=I.tabs x hx c T ht;obtain⟨ps,hP,tri,RJ⟩:=(show ee X.prog X.w H s.heap T (.zx (uN x))from I.hok T _ hT)
 have C:W.CodeHd s.heap c T:=W.codeHd_of_K I.zj hC;have hg:s.heap.Ns mainGlobals X.mg:=I.mod.glob.keeps I.bk;obtain⟨bm,ob,b1,b2,b3,b4,b5⟩:=hB;have ne:∀{b:ae} {o:Obj},X.base.get? b=some o->b≠T:=λ{b o} e z=>by
  have:=(I.bs b o e).2;rw[z,hT]at this;cases this
 have hgT:mainGlobals≠T:=by
  obtain⟨o,es,ep,e,_⟩:=I.mod.glob;exact ne e
 refine W.kla_eval acF ?_;rw[Xm];cases hc:codeAmong lp ps.toList with
 | some cv =>
  obtain⟨cc,oc,uc,vs,t,rfl,k1,k2,k3⟩:=RJ lp cv hc;refine W.kla_makeFunctionHit (mg:=X.mg) hcl I.ok.glob hg RI C hP tri hc ⟨bm,ob,b1,b2,b3,ne b4,(I.bs _ _ b4).1,b5⟩ λHq h' tk hk hsz=>?_
  have hn:H h'.objs.size=none:=I.hok.fresh hsz;refine⟨.ref h'.objs.size,upd H h'.objs.size (.mj _ xD),I.laid (t':=tk) (λb u e=>cD _ (hk b u e)) hsz (Ds (d0 _ rfl)),rfl,h _ _ hn (λb u e=>by rw[upd_ne (ne_of_none e hn)];exact e) (λb o e=>?_) ?_⟩
  ·by_cases hb:b=h'.objs.size
   ·rw[hb];exact .inr hn
   ·rw[upd_ne hb]at e;exact .inl e
  ·exact⟨_,_,_,_,_,cc,oc,uc,vs,t,aI,rfl,rfl,by rw[upd_ne (ne_of_none k1 hn)];exact k1,k2,k3⟩
 | none =>
  refine W.kla_makeFunction (mg:=X.mg) hcl I.ok.glob hg RI C hP tri hc hgT ⟨bm,ob,b1,b2,b3,ne b4,(I.bs _ _ b4).1,b5⟩ λc' Hq h' tk RK TQ fg acG htb=>?_
  obtain⟨agw,oc,vs,t,e2,Z7,hd,hv⟩:=acG;cases e2;have hnc:H c'=none:=I.hok.fresh TQ;have TR:H h'.objs.size=none:=I.hok.fresh (cG TQ (mM fg));have nfc:h'.objs.size≠c':=sd fg;have cT:c'≠T:=λz=>by rw[z,hT]at hnc;cases hnc
  have fT:h'.objs.size≠T:=λz=>by rw[z,hT]at TR;cases TR
  let o1:HO:=.mj oc xD
  let H1:Hp:=upd H c' o1
  have hn1:H1 h'.objs.size=none:=by show upd H c' o1 _=_;rw[upd_ne nfc];exact TR
  let fo:Obj:=W.kla_obj "<lambda>" (uN x) params body scope cl ((X.mg "__name__").getD .none) c' Hq
  let H2:Hp:=upd H1 h'.objs.size (.mj fo xD)
  have RL:Same H H1:=λb u e=>by show upd H c' o1 b=_;rw[upd_ne (ne_of_none e hnc)];exact e
  have s12:Same H1 H2:=λb u e=>by show upd H1 _ _ b=_;rw[upd_ne (ne_of_none e hn1)];exact e
  have keep:∀b o,b≠T->s.heap.get? b=some o->(h'.push fo).get? b=some o:=λb o hb e=>cD _ (RK b o hb e)
  have nT:∀b,H b=none->b≠T:=λb n z=>by rw[z,hT]at n;cases n
  have lt:∀b o,s.heap.get? b=some o->b<s.heap.objs.size:=λb o e=>bR e
  have hf2:∀b o,s.heap.get? b=some o->H b=none->H2 b=none:=λb o e n=>by
   show upd (upd H c' o1) _ _ b=none;have l1:=lt b o e;rw[upd_ne (cX (cU l1 (cG TQ (mM fg)))),upd_ne (cX (cU l1 TQ))];exact n
  have un:Un X.fs [] H H2 s.heap (h'.push fo):=⟨λb o e n _ _=>keep b o (nT b n) e,λb o e n _ _=>⟨o.slots,keep b o (nT b n) e⟩,λb o e n _=>hf2 b o e n,λb o e _=>by
    by_cases hb:b=T
    ·subst hb;exact⟨_,cD _ htb⟩
    ·exact⟨o,keep b o hb e⟩,λb xs e=>s12 _ _ (RL _ _ e),λb o u e=>s12 _ _ (RL _ _ e),λb q e=>s12 _ _ (RL _ _ e)⟩
  have hok:oN X.prog X.w H2 (h'.push fo):=λb u e=>by
   by_cases RM:b=h'.objs.size
   ·subst RM;have e:upd H1 h'.objs.size (.mj fo xD) h'.objs.size=some u:=e;rw[aI]at e;cases e;exact Ds (d0 _ rfl)
   ·have e:upd H1 h'.objs.size (.mj fo xD) b=some u:=e;rw[upd_ne RM]at e;by_cases Xn:b=c'
    ·subst Xn;have e:upd H b o1 b=some u:=e;rw[aI]at e;cases e;exact Ds (cD _ Z7)
    ·have e:upd H c' o1 b=some u:=e;rw[upd_ne Xn]at e;by_cases hbT:b=T
     ·subst hbT;rw[hT]at e;cases e;refine⟨_,cD _ htb,?_,λpos cv z=>?_⟩
      ·simpa using TriplesOk_snoc lp.line lp.col (.ref c') ps.toList tri
      ·rcases uR (pos:=lp) ps.toList tri (by simpa using z)with z | z
       ·obtain⟨cc,oc',uc,TU,t',q1,q2,q3⟩:=RJ pos cv z;exact⟨cc,oc',uc,TU,t',q1,s12 _ _ (RL _ _ q2),q3⟩
       ·exact⟨c',oc,xD,vs,t,z,s12 _ _ (by show upd H c' o1 c'=_;exact aI),hd,hv⟩
     ·refine(I.hok b u e).zT (λd v zI q=>keep d v ?_ q) (λd q=>s12 _ _ (RL _ _ q)) (λd xs q=>s12 _ _ (RL _ _ q)) λd ob' v q=>s12 _ _ (RL _ _ q)
      rcases zI with rfl | zI
      ·exact hbT
      ·rintro rfl
       rw[hT]at zI;cases zI
  refine⟨.ref h'.objs.size,H2,I.un (t':=tk) un hok,rfl,h _ _ TR (RL.trans s12) (λb o e=>?_) ?_⟩
  ·by_cases RM:b=h'.objs.size
   ·rw[RM];exact .inr TR
   ·have e:upd H1 h'.objs.size (.mj fo xD) b=some o:=e;rw[upd_ne RM]at e;by_cases Xn:b=c'
    ·rw[Xn];exact .inr hnc
    ·have e:upd H c' o1 b=some o:=e;rw[upd_ne Xn]at e;exact .inl e
  ·exact⟨_,_,_,_,_,c',oc,xD,vs,t,(show upd H1 _ _ _=_ from aI),rfl,rfl,s12 _ _ (show upd H c' o1 c'=_ from aI),hd,hv⟩
end
theorem Xo{CX:ET}{P:bK}{w:aW}{K:aj}{mg:dQ}{base:Heap}{k:Nat}{f:ae}{x qual:Str}{st:aE}{fd:dN}{N ps:List Str}(Fn:C0 K x qual st f fd)(S:dY N ps (aP st))
  {A:bY} {outer:List Env} {s:az} {H:Hp} {args:Args} {us:cg} {vs:List V} {Q:VK} {E:XK} (hr:eJ (k+1) A) (e0:Dh P w K mg base A outer s H) (hb:BindsTo s fd args (ps.zip us)) (r:Vals vs us) (hl:vs.length=ps.length)
  (hbody:∀dI:aq,∃t,qU (kq CX P w K mg base N qual (aP st) f dI A outer s H E) (cy st) t/\t {nx:=λ_ H'=>Q .cE H',rt:=Q} (start N vs) H) :
  codeAny (model P w) A (.call (.ref f) args) (CR CX outer P w H s Q E) s:=by
 obtain⟨oc,od,kV,doc,pm,an,dI,ct,uM,rfl,lk,vw⟩:=Fn.ex;have old:∀b o,base.get? b=some o->s.heap.get? b=some o:=λb o e=>(e0.bs b o e).1
 have KX:K.In s.heap:=e0.mod.kin.keeps old;have Xp:∀y∈ps.zip us,(aP st).names.lookup y.1=some .local\/((aP st).names.lookup y.1=some .cell/\((cellsFrom (s.heap.objs.size+1) (aP st).names []).lookup y.1).isSome=true):=λy hy=>by
  rcases S.par y.1 (w9 (a:=y.1) (b:=y.2) hy).1 with q | q
  ·exact .inl q
  ·exact .inr ⟨q,W.cellsFrom_some _ _ _ (.inl q)⟩
 refine codeAny_call_function hr.depth (KX _ _ lk) rfl S.co S.gen rfl (W.codeRec_of KX vw) (hb _ _ _ _ (JD S.kind Xp λenv he s1 ic=>?_))
 subst he;refine⟨(e0.mod.nolimit.keeps old).keeps ic.toInCall.keep,codeAny_func ?_⟩;obtain⟨t,ht,hq⟩:=hbody dI;have I:Inv (kq CX P w K mg base N qual (aP st) f dI A outer s H E) [] (start N vs) H s1:=vM S hr.hd e0 hl r ic;refine mN (ht [] s1 (start N vs) H _ I hq) (λfl s' hs=>?_) λe s' hs=>hs
 have fin:∀{c9:St} {H':Hp} {v:V} {u:aq},Inv (kq CX P w K mg base N qual (aP st) f dI A outer s H E) [] c9 H' s'->RelV v u->Q v H'->CE outer P w H s Q u s':=λ{_ H' v _} J rv q=>⟨v,H',J.os,J.bare,J.base,J.hok,rv,q⟩
 cases fl with
 | ret u=>obtain⟨v,c9,H',J,rv,q⟩:=hs;exact fin J rv q
 | next=>obtain⟨c9,H',J,q⟩:=hs;exact fin (v:=V.cE) (u:=Value.none) J rfl q
 | brk=>obtain⟨_,_,_,q⟩:=hs;exact False.elim q
 | cont=>obtain⟨_,_,_,q⟩:=hs;exact False.elim q
end L2
namespace L2.PL
open PySem PySem.Spec PyProof.Rows
section
variable {K:aj} {F F' H H':Hp}
theorem bg(e:Same H H'){a:ae}{xs:List V}(h:iA K H a xs):iA K H' a xs:=by
 rcases h with(h | ⟨o,h⟩) | h
 ·exact .inl (.inl (e _ _ h))
 ·exact .inl (.inr ⟨o,e _ _ h⟩)
 ·exact .inr h
theorem OC(e:Same H H'){a:ae}{u:HO}(h:Rd H a u):Rd H' a u:=h.imp (e _ _) λ⟨o,q⟩=>⟨o,e _ _ q⟩
theorem b0(e:Same H H'){a:ae}{xs:List V}(h:ql K H a xs):ql K H' a xs:=h.imp (OC e) id
theorem _root_.L2.ql.of{a:ae}{xs:List V}(h:H a=some (.ao xs)):ql K H a xs:=.inl (.inl h)
mutual
theorem dh.mono(e:Same F F'):∀{p:PV} {v:V},dh K F p v->dh K F' p v
 | .cE,_,h=>by simp only[dh]at h ⊢;exact h
 | .bl _,_,h=>by simp only[dh]at h ⊢;exact h
 | .int _,_,h=>by simp only[dh]at h ⊢;exact h
 | .str _,_,h=>by simp only[dh]at h ⊢;exact h
 | .aC ps,_,h=>by
  simp only[dh]at h ⊢;obtain⟨a,vs,rfl,hs,hb⟩:=h;exact⟨a,vs,rfl,bg e hs,bj.mono e hb⟩
 | .ao ps,_,h=>by
  simp only[dh]at h ⊢;obtain⟨a,vs,rfl,hs,hb⟩:=h;exact⟨a,vs,rfl,b0 e hs,bj.mono e hb⟩
theorem bj.mono(e:Same F F'):∀{ps:List PV} {vs:List V},bj K F ps vs->bj K F' ps vs
 | [],_,h=>by simp only[bj]at h ⊢;exact h
 | p::ps,_,h=>by
  simp only[bj]at h ⊢;obtain⟨v,r,rfl,h1,h2⟩:=h;exact⟨v,r,rfl,dh.mono e h1,bj.mono e h2⟩
end
theorem bj.cb{p:PV}{ps:List PV}{vs:List V}(h:bj K F (p::ps) vs):∃v r,vs=v::r/\dh K F p v/\bj K F ps r:=by
 simpa only[bj]using h
theorem bj.b9{vs:List V}(h:bj K F [] vs):vs=[]:=by simpa only[bj]using h
theorem bj.length:∀{ps:List PV} {vs:List V},bj K F ps vs->ps.length=vs.length
 | [],_,h=>by rw[h.b9];rfl
 | _::_,_,h=>by
  obtain⟨v,r,rfl,_,t⟩:=h.cb;rw[bt,bt,bj.length t]
theorem bj.append:∀{ps qs:List PV} {vs ws:List V},bj K F ps vs->bj K F qs ws->bj K F (ps++qs) (vs++ws)
 | [],_,_,_,h,h'=>by rw[h.b9];exact h'
 | _::_,_,_,_,h,h'=>by
  obtain⟨v,r,rfl,hv,t⟩:=h.cb;exact .cons hv (bj.append t h')
theorem bj.get:∀{ps:List PV} {vs:List V} {i:Nat} {p:PV},bj K F ps vs->ps[i]?=some p->∃v,vs[i]?=some v/\dh K F p v
 | [],_,_,_,_,e=>by simp at e
 | _::_,_,0,_,h,e=>by
  obtain⟨v,r,rfl,hv,t⟩:=h.cb;simp at e;subst e;exact⟨v,rfl,hv⟩
 | _::_,_,i+1,p,h,e=>by
  obtain⟨v,r,rfl,hv,t⟩:=h.cb;obtain⟨w,h1,h2⟩:=bj.get (i:=i) (p:=p) t (by simpa using e)
  exact⟨w,by simpa using h1,h2⟩
theorem bj.Xq:∀{ps:List PV} {vs:List V} {i:Nat} {v:V},bj K F ps vs->vs[i]?=some v->∃p,ps[i]?=some p/\dh K F p v
 | [],_,_,_,h,e=>by rw[h.b9]at e;simp at e
 | p::_,_,0,_,h,e=>by
  obtain⟨v,r,rfl,hv,t⟩:=h.cb;simp at e;subst e;exact⟨p,rfl,hv⟩
 | _::_,_,i+1,w,h,e=>by
  obtain⟨v,r,rfl,hv,t⟩:=h.cb;obtain⟨p,h1,h2⟩:=bj.Xq (i:=i) (v:=w) t (by simpa using e)
  exact⟨p,by simpa using h1,h2⟩
theorem bj.take:∀{ps:List PV} {vs:List V} (n:Nat),bj K F ps vs->bj K F (ps.take n) (vs.take n)
 | _,_,0,_=>by simp only[List.take_zero];exact .nil
 | [],_,_+1,h=>by rw[h.b9];exact .nil
 | _::_,_,n+1,h=>by
  obtain⟨v,r,rfl,hv,t⟩:=h.cb;exact .cons hv (bj.take n t)
theorem bj.drop:∀{ps:List PV} {vs:List V} (n:Nat),bj K F ps vs->bj K F (ps.drop n) (vs.drop n)
 | _,_,0,h=>h
 | [],_,_+1,h=>by rw[h.b9];exact .nil
 | _::_,_,n+1,h=>by
  obtain⟨v,r,rfl,hv,t⟩:=h.cb;exact bj.drop n t
theorem bj.reverse:∀{ps:List PV} {vs:List V},bj K F ps vs->bj K F ps.reverse vs.reverse
 | [],_,h=>by rw[h.b9];exact .nil
 | _::_,_,h=>by
  obtain⟨v,r',rfl,hv,t⟩:=h.cb;rw[wY,wY];exact(bj.reverse t).append (.cons hv .nil)
theorem bD{ps:List PV}{v:V}:dh K F (.ao ps) v↔∃a vs,v=.ref a/\ql K F a vs/\bj K F ps vs:=by simp only[dh]
end
inductive Dk where
 | t (kvs:List (List cf×PV)) | k (kvs:List (cf×PV)) | l (eI:List (List PV))
def qD(b:ae)(vs:List V):HO:=.ext λh=>vs.length<=sizeLine/\∃(aX:cg) (n:Nat),Vals vs aX/\h.get? b=some {cls:=.type "list",data:=.seq aX.toArray n}
section
variable (K:aj) (F H:Hp)
def tq:List (List cf×PV)->List (List cf×ae×aq)->Prop:=Paired λp q=>p.1=q.1/\iA K F q.2.1 (p.1.map kV)/\∃v,dh K F p.2 v/\RelV v q.2.2
def Ak:List (cf×PV)->List (cf×V)->Prop:=Paired λp q=>p.1=q.1/\dh K F p.2 q.2
def iX(N:ae->Prop):List (List PV)->List ae->Prop:=Paired λps b=>N b/\∃vs,H b=some (qD b vs)/\bj K F ps vs
def jx(N:ae->Prop)(a:ae):Dk->Prop
 | .t kvs=>∃xs,H a=some (.dT xs)/\tq K F kvs xs
 | .k kvs=>∃vs,H a=some (.dK vs)/\Ak K F kvs vs
 | .l eI=>∃bs,H a=some (qD a (bs.map .ref))/\(a::bs).Nodup/\iX K F H N eI bs
end
def tu:Dk->HO->Bool
 | .t _,.dT _=>true
 | .k _,.dK _=>true
 | .l _,.ext _=>true
 | _,_=>false
def Nw(H₀ F:Hp)(b:ae):Prop:=H₀ b=none/\F b=none
section
variable {K:aj} {F F' H H':Hp} {N N':ae->Prop}
theorem tq.mono(e:Same F F'){kvs:List (List cf×PV)}{xs:List (List cf×ae×aq)}(h:tq K F kvs xs):tq K F' kvs xs:=Paired.J5 h λ_ _ ⟨h1,h2,v,h3,h4⟩=>⟨h1,bg e h2,v,h3.mono e,h4⟩
theorem Ak.mono(e:Same F F'){kvs:List (cf×PV)}{xs:List (cf×V)}(h:Ak K F kvs xs):Ak K F' kvs xs:=Paired.J5 h λ_ _ ⟨h1,h2⟩=>⟨h1,h2.mono e⟩
theorem jx.to{a:ae}{m:Dk}(h:jx K F H N a m)(e:Same F F')(k:∀b o,H b=some o->tu m o=true->b=a\/N b->H' b=some o)(n:∀b o,H b=some o->N b->N' b):jx K F' H' N' a m:=by
 cases m with
 | t kvs=>obtain⟨xs,h1,h2⟩:=h;exact⟨xs,k _ _ h1 rfl (.inl rfl),h2.mono e⟩
 | k kvs=>obtain⟨xs,h1,h2⟩:=h;exact⟨xs,k _ _ h1 rfl (.inl rfl),h2.mono e⟩
 | l eI=>obtain⟨bs,h1,h2,h3⟩:=h;exact⟨bs,k _ _ h1 rfl (.inl rfl),h2,Paired.J5 h3 λps b ⟨g1,vs,g2,g3⟩=>⟨n _ _ g2 g1,vs,k _ _ g2 rfl (.inr g1),g3.mono e⟩⟩
theorem jx.toT{a:ae}{m:Dk}(h:jx K F H N a m)(hm:∀eI,m≠.l eI)(e:Same F F')(k:H' a=H a):jx K F' H' N' a m:=by
 cases m with
 | t kvs=>obtain⟨xs,h1,h2⟩:=h;exact⟨xs,k.trans h1,h2.mono e⟩
 | k kvs=>obtain⟨xs,h1,h2⟩:=h;exact⟨xs,k.trans h1,h2.mono e⟩
 | l eI=>exact absurd rfl (hm eI)
theorem jx.obj{a:ae}{m:Dk}(h:jx K F H N a m):∃o,H a=some o/\(∀xs,o≠.ao xs):=by
 cases m with
 | t kvs=>obtain⟨xs,h1,h2⟩:=h;exact⟨_,h1,λ_ z=>nomatch z⟩
 | k kvs=>obtain⟨xs,h1,h2⟩:=h;exact⟨_,h1,λ_ z=>nomatch z⟩
 | l eI=>obtain⟨bs,h1,h2⟩:=h;exact⟨_,h1,λ_ z=>nomatch z⟩
theorem jx.mono{a:ae}{m:Dk}(h:jx K F H N a m)(e:Same F F')(k:Same H H')(n:∀b o,H b=some o->N b->N' b):jx K F' H' N' a m:=h.to e (λb o q _ _=>k b o q) n
end
inductive Fd where
 | pv (p:PV) | dc (es:List (Str×PV))
inductive Ob where
 | rcd (fs:List (Str×Fd)) | fn (x:Str) | dct (m:Dk)
section
variable (K:aj) (F:Hp)
def Hs:List (Str×PV)->List (cf×V)->Prop
 | [],vs=>vs=[]
 | (k,p)::es,vs=>∃v r,vs=(Sum.inr k,v)::r/\dh K F p v/\Hs es r
def OD:Fd->V->Prop
 | .pv p,v=>dh K F p v
 | .dc es,v=>∃d vs,v=.ref d/\F d=some (.dK vs)/\Hs K F es vs
def Dt:List (Str×Fd)->List (Str×V)->Prop
 | [],vs=>vs=[]
 | (f,d)::es,vs=>∃v r,vs=(f,v)::r/\OD K F d v/\Dt es r
def xE:Ob->ae->Prop
 | .rcd fs,a=>∃C dx vs,VX K C/\(∀f∈fs,pB K C f.1)/\F a=some (.SF C dx vs)/\Dt K F fs vs
 | .fn x,a=>W.nsIn K mainGlobals x=some (some (.ref a))
 | .dct m,a=>jx K F F (λ_=>True) a m
end
section
variable {K:aj} {F F':Hp}
theorem Hs.mono(e:Same F F'):∀{es:List (Str×PV)} {vs:List (cf×V)},Hs K F es vs->Hs K F' es vs
 | [],_,h=>h
 | (_,_)::_,_,⟨v,r,h1,h2,h3⟩=>⟨v,r,h1,h2.mono e,Hs.mono e h3⟩
theorem OD.mono(e:Same F F'):∀{d:Fd} {v:V},OD K F d v->OD K F' d v
 | .pv _,_,h=>dh.mono e h
 | .dc _,_,⟨d,vs,h1,h2,h3⟩=>⟨d,vs,h1,e _ _ h2,h3.mono e⟩
theorem Dt.mono(e:Same F F'):∀{es:List (Str×Fd)} {vs:List (Str×V)},Dt K F es vs->Dt K F' es vs
 | [],_,h=>h
 | (_,_)::_,_,⟨v,r,h1,h2,h3⟩=>⟨v,r,h1,h2.mono e,Dt.mono e h3⟩
theorem xE.mono(e:Same F F'):∀{o:Ob} {a:ae},xE K F o a->xE K F' o a
 | .rcd _,_,⟨C,dx,vs,h1,h2,h3,h4⟩=>⟨C,dx,vs,h1,h2,e _ _ h3,h4.mono e⟩
 | .fn _,_,h=>h
 | .dct _,_,h=>jx.mono h e e λ_ _ _ _=>trivial
end
inductive Ent where
 | un | val (p:PV) | own (ps:List PV) | ex (C:Str) | ob (o:Ob) | cn (m:Dk)
abbrev eF:=Str->List PV->Option Ent
abbrev bP:=List Ent->Option (List PV)
abbrev fz:=PV->List Ent->Option (List Ent)
abbrev eY:=List Ent->Option Bool
abbrev ay:=List PV
abbrev aG:=List Ent
abbrev cH:=Option Ent
abbrev bU:=Option PV
structure cY (K:aj) (H₀ ab F:Hp) (ρ:aG) (σ:St) (H:Hp):Prop where
 sub:Same F H
 keep:Same H₀ H
 base:Same ab F
 fresh:∀a o,F a=some o->ab a=some o\/H₀ a=none
 val:∀(i:Nat) (p:PV),ρ[i]?=some (.val p)->∃v,σ[i]?=some (some v)/\dh K F p v
 own:∀(i:Nat) (ps:ay),ρ[i]?=some (.own ps)->∃a vs,σ[i]?=some (some (.ref a))/\H a=some (.ao vs)/\H₀ a=none/\F a=none/\bj K F ps vs
 apart:∀(i j:Nat) (ps qs:ay) (a:ae),ρ[i]?=some (.own ps)->ρ[j]?=some (.own qs)->σ[i]?=some (some (.ref a))->σ[j]?=some (some (.ref a))->i=j
 obs:∀(i:Nat) (o:Ob),ρ[i]?=some (.ob o)->∃a,σ[i]?=some (some (.ref a))/\xE K F o a
 cn:∀(i:Nat) (m:Dk),ρ[i]?=some (.cn m)->∃a,σ[i]?=some (some (.ref a))/\jx K F H (Nw H₀ F) a m/\H₀ a=none/\F a=none
 len:ρ.length=σ.length
section
variable {K:aj} {H₀ ab F F' H H':Hp} {ρ:aG} {σ:St}
theorem cY.after(R:cY K H₀ ab F ρ σ H)(h:Same H H')(f:Same F F')(s:Same F' H')(n:∀a o,F' a=some o->F a=some o\/H a=none):cY K H₀ ab F' ρ σ H' where
 sub:=s
 keep:=R.keep.trans h
 base:=R.base.trans f
 fresh:=λa o e=>by
  rcases n a o e with q | q
  ·exact R.fresh a o q
  ·exact .inr (R.keep.free q)
 val:=λi p e=>let ⟨v,h1,h2⟩:=R.val i p e;⟨v,h1,h2.mono f⟩
 own:=λi ps e=>by
  obtain⟨a,vs,h1,h2,h3,h4,h5⟩:=R.own i ps e;refine⟨a,vs,h1,h _ _ h2,h3,?_,h5.mono f⟩;cases q:F' a with
  | none=>rfl
  | some o =>
   rcases n a o q with z | z
   ·rw[h4]at z;cases z
   ·rw[h2]at z;cases z
 apart:=R.apart
 obs:=λi o e=>let ⟨a,h1,h2⟩:=R.obs i o e;⟨a,h1,h2.mono f⟩
 cn:=λi m e=>by
  obtain⟨a,h1,h2,h3,h4⟩:=R.cn i m e;have key:∀b o,H b=some o->F b=none->F' b=none:=λb o e1 e2=>by
   cases q:F' b with
   | none=>rfl
   | some u =>
    rcases n b u q with z | z
    ·rw[e2]at z;cases z
    ·rw[e1]at z;cases z
  obtain⟨ob,h5,_⟩:=h2.obj;exact⟨a,h1,h2.mono f h λb o e1 ⟨e2,e3⟩=>⟨e2,key b o e1 e3⟩,h3,key a ob h5 h4⟩
 len:=R.len
theorem eK{p:ae}{o:HO}(h:H p=none):Same H (upd H p o):=λb u q=>by rw[upd_ne (ne_of_none q h)];exact q
theorem cY.laid(R:cY K H₀ ab F ρ σ H){p:ae}(o:HO)(hp:H p=none):cY K H₀ ab (upd F p o) ρ σ (upd H p o)/\Same F (upd F p o):=by
 have fp:F p=none:=R.sub.free hp;refine⟨R.after (eK hp) (eK fp) (λb u q=>?_) (λb u q=>?_),eK fp⟩
 ·by_cases hb:b=p
  ·subst hb;rw[aI]at q ⊢;exact q
  ·rw[upd_ne hb]at q ⊢;exact R.sub _ _ q
 ·by_cases hb:b=p
  ·subst hb;exact .inr hp
  ·rw[upd_ne hb]at q;exact .inl q
theorem cY.Fo(R:cY K H₀ ab F ρ σ H){p:ae}(o:HO)(hp:H p=none):cY K H₀ ab F ρ σ (upd H p o) :=
 R.after (eK hp) (Same.refl F) (R.sub.trans (eK hp)) λ_ _ q=>.inl q
end
abbrev FE:=aG->bU
def tE(K:aj)(H₀ ab:Hp)(f:FE):TE:=λσ H Q=>∃F ρ p,cY K H₀ ab F ρ σ H/\f ρ=some p/\∀v H' F',cY K H₀ ab F' ρ σ H'->Same F F'->dh K F' p v->Q v H'
def tT(K:aj)(H₀ ab:Hp)(f:eY):TT:=λσ H Q=>∃F ρ b,cY K H₀ ab F ρ σ H/\f ρ=some b/\∀H' F',cY K H₀ ab F' ρ σ H'->Same F F'->Q b H'
def tA(K:aj)(H₀ ab:Hp)(f:bP):TA:=λσ H Q=>∃F ρ ps,cY K H₀ ab F ρ σ H/\f ρ=some ps/\∀vs H' F',cY K H₀ ab F' ρ σ H'->Same F F'->bj K F' ps vs->Q vs H'
def tF(K:aj)(H₀ ab:Hp)(f:bP):TE:=λσ H Q=>∃F ρ ps,cY K H₀ ab F ρ σ H/\f ρ=some ps /\
 ∀a vs H1 F',cY K H₀ ab F' ρ σ H1->Same F F'->bj K F' ps vs->H1 a=none->Q (.ref a) (upd H1 a (.ao vs))
theorem _root_.L2.PE.imp{X:Cx}{e:au}{t t':TE}(h:PE X e t)(hi:∀σ H Q,t' σ H Q->t σ H Q):PE X e t':=λag s σ H Q I hw=>h ag s σ H Q I (hi _ _ _ hw)
theorem _root_.L2.PT.imp{X:Cx}{e:au}{t t':TT}(h:PT X e t)(hi:∀σ H Q,t' σ H Q->t σ H Q):PT X e t':=λag s σ H Q I hw=>h ag s σ H Q I (hi _ _ _ hw)
theorem _root_.L2.PA.imp{X:Cx}{e:List au}{t t':TA}(h:PA X e t)(hi:∀σ H Q,t' σ H Q->t σ H Q):PA X e t':=λpos ag s σ H Q I hw=>h pos ag s σ H Q I (hi _ _ _ hw)
theorem _root_.L2.PS.imp{X:Cx}{st:aE}{t t':TS}(h:PS X st t)(hi:∀D σ H,t' D σ H->t D σ H):PS X st t':=λag s σ H D I hw=>h ag s σ H D I (hi _ _ _ hw)
theorem _root_.L2.qU.imp{X:Cx}{st:List aE}{t t':TS}(h:qU X st t)(hi:∀D σ H,t' D σ H->t D σ H):qU X st t':=λag s σ H D I hw=>h ag s σ H D I (hi _ _ _ hw)
section
variable {X:Cx} {H₀ ab:Hp} {a b e:au} {fa fb:FE} {pos:Pos}
def bG(f:bP):FE:=λρ=>(f ρ).map .ao
theorem vQ{f:bP}{ρ:aG}{p:PV}(h:bG f ρ=some p):∃ps,f ρ=some ps/\p=.ao ps:=by
 unfold bG at h;cases z:f ρ with
 | none=>rw[z]at h;cases h
 | some ps=>rw[z]at h;cases h;exact⟨ps,rfl,rfl⟩
theorem Fp{f:bP}(h:PE X e (tF X.K H₀ ab f)):PE X e (tE X.K H₀ ab (bG f)):=h.imp <| by
 rintro σ H Q ⟨F,ρ,p,R,hf,q⟩
 obtain⟨ps,z,rfl⟩:=vQ hf;refine⟨F,ρ,ps,R,z,λa vs H1 F1 R1 s1 b1 hn=>?_⟩
 obtain⟨R2,s2⟩:=R1.laid (.ao vs) hn;exact q _ _ _ R2 (s1.trans s2) (bD.mpr ⟨a,vs,rfl,ql.of aI,b1.mono s2⟩)
def rd(i:Nat):FE:=λρ=>match ρ[i]? with | some (.val p)=>some p | _=>none
theorem vR(i:Nat){x:Str}{pos:Pos}(h:PE X (.Name x pos) (jY i)):PE X (.Name x pos) (tE X.K H₀ ab (rd i)):=h.imp <| by
 rintro σ H Q ⟨F,ρ,p,R,hf,q⟩
 unfold rd at hf;split at hf
 ·rename_i z;cases hf;obtain⟨v,h1,h2⟩:=R.val i p z;exact⟨v,h1,q v H F R (Same.refl F) h2⟩
 ·cases hf
theorem Al{p:PV}{v:V}(h:PE X e (tC v))(hb:∀F,dh X.K F p v):PE X e (tE X.K H₀ ab λ_=>some p):=h.imp <| by
 rintro σ H Q ⟨F,ρ,p',R,hf,q⟩
 cases hf;exact q v H F R (Same.refl F) (hb F)
theorem RN{i:Int}{j pos}:PE X (.Constant (.int i) j pos) (tE X.K H₀ ab λ_=>some (.int i)):=Al xo λ_=>aM.mpr rfl
theorem acH{i:Bool}{j pos}:PE X (.Constant (.bool i) j pos) (tE X.K H₀ ab λ_=>some (.bl i)):=Al Rv λ_=>bZ.mpr rfl
theorem Xr{j pos}:PE X (.Constant .none j pos) (tE X.K H₀ ab λ_=>some .cE):=Al SX λ_=>dC.mpr rfl
theorem Xs{i:Str}{j pos}:PE X (.Constant (.str i) j pos) (tE X.K H₀ ab λ_=>some (.str i)):=Al SY λ_=>cI.mpr rfl
def OF(K:aj)(r:R2)(g:PV->PV->bU):Prop:=∀(H₀ ab F:Hp) (ρ:aG) (σ:St) (H:Hp) (pa pb p:PV) (x y:V) (Q:VK),g pa pb=some p->cY K H₀ ab F ρ σ H->dh K F pa x->dh K F pb y ->
 (∀v H' F',cY K H₀ ab F' ρ σ H'->Same F F'->dh K F' p v->Q v H')->r x y H Q
def af(fa fb:FE)(g:PV->PV->bU):FE:=λρ=>(fa ρ).bind λx=>(fb ρ).bind λy=>g x y
theorem Ht{fa fb:FE}{g:PV->PV->bU}{ρ:aG}{p:PV}(h:af fa fb g ρ=some p):∃x y,fa ρ=some x/\fb ρ=some y/\g x y=some p:=by
 unfold af at h;cases h1:fa ρ with
 | none=>rw[h1]at h;cases h
 | some x =>
  cases h2:fb ρ with
  | none=>rw[h1,h2]at h;cases h
  | some y=>rw[h1,h2]at h;exact⟨x,y,rfl,rfl,h⟩
theorem rj{K:aj}{r:R2}{g:PV->PV->bU}(hg:OF K r g){σ:St}{H:Hp}{Q:VK}(h:tE K H₀ ab (af fa fb g) σ H Q):V2 r (tE K H₀ ab fa) (tE K H₀ ab fb) σ H Q:=by
 obtain⟨F,ρ,p,R,hf,q⟩:=h;obtain⟨x,y,h1,h2,h3⟩:=Ht hf;exact⟨F,ρ,x,R,h1,λv H1 F1 R1 s1 b1=>⟨F1,ρ,y,R1,h2,λw H2 F2 R2 s2 b2 =>
  hg H₀ ab F2 ρ σ H2 x y p v w Q h3 R2 (b1.mono s2) b2 λu H3 F3 R3 s3 b3=>q u H3 F3 R3 (s1.trans (s2.trans s3)) b3⟩⟩
theorem Xu{op:Operator}{r:R2}{g:PV->PV->bU}(ho:OpR X (binaryOp op) r)(hg:OF X.K r g)(ha:PE X a (tE X.K H₀ ab fa))(hb:PE X b (tE X.K H₀ ab fb)) :
  PE X (.BinOp a op b pos) (tE X.K H₀ ab (af fa fb g)):=(Rz ho ha hb).imp λ_ _ _ h=>rj hg h
theorem Xv{op:CmpOp}{r:R2}{g:PV->PV->bU}(ho:OpR X (compareOp op) r)(hg:OF X.K r g)(ha:PE X a (tE X.K H₀ ab fa))(hb:PE X b (tE X.K H₀ ab fb))(hm:behindInMarks op b=false) :
  PE X (.Compare a [op] [b] pos) (tE X.K H₀ ab (af fa fb g)):=(Oh ho ha hb hm).imp λ_ _ _ h=>rj hg h
noncomputable def toB(f:FE):eY:=λρ=>(f ρ).bind λp=>match p with | .bl b=>some b | _=>none
theorem toB_some{f:FE}{ρ:aG}{b:Bool}(h:toB f ρ=some b):f ρ=some (.bl b):=by
 unfold toB at h;cases z:f ρ with
 | none=>rw[z]at h;cases h
 | some p =>
  rw[z]at h;cases p<;>first | (cases h;rfl) | cases h
theorem Xw{op:CmpOp}{r:R2}{g:PV->PV->bU}(ho:OpR X (compareOp op) r)(hg:OF X.K r g)(ha:PE X a (tE X.K H₀ ab fa))(hb:PE X b (tE X.K H₀ ab fb))(hm:behindInMarks op b=false) :
  PT X (.Compare a [op] [b] pos) (tT X.K H₀ ab (toB (af fa fb g))):=(nO ho ha hb hm).imp λσ H Q ⟨F,ρ,p,R,hf,q⟩ =>
 rj hg ⟨F,ρ,.bl p,R,toB_some hf,λv H' F' R' s' b'=>⟨p,bZ.mp b',q H' F' R' s'⟩⟩
theorem Xx{f:FE}(h:PE X e (tE X.K H₀ ab f))(he:∀ja,isTrue e X.env ja=(do let v <-ja;standAt e.pos;holding [v] (truthy v)):=by intro _;rfl):PT X e (tT X.K H₀ ab (toB f)) :=
 (S0 h he).imp λσ H Q ⟨F,ρ,p,R,hf,q⟩=>⟨F,ρ,.bl p,R,toB_some hf,λv H' F' R' s' b'=>⟨p,bZ.mp b',q H' F' R' s'⟩⟩
def chain(fa fb fc:FE)(g g':PV->PV->bU):FE:=λρ=>(fa ρ).bind λx=>(fb ρ).bind λy=>(g x y).bind λz=>match z with
 | .bl true=>(fc ρ).bind λw=>g' y w
 | .bl false=>some (.bl false)
 | _=>none
end
section
variable {X:Cx} {ag:List (ae×Obj)} {σ:St} {H:Hp} {s:az}
theorem _root_.L2.Inv.tw{a:ae}{xs:List V}(I:Inv X ag σ H s)(h:ql X.K H a xs):∃(aX:cg) (n:Nat),Vals xs aX/\s.heap.get? a=some {cls:=.type "list",data:=.seq aX.toArray n}/\xs.length<=sizeLine:=by
 rcases h with h | ⟨aX,n,e,z,r⟩
 ·obtain⟨z,aX,n,r,e⟩:=h.ok I.hok;exact⟨aX,n,r,e,z⟩
 ·exact⟨aX,n,r,I.zj a _ e,by rw[r.length];exact z⟩
end
section
variable {X:Cx} {H₀ ab:Hp} {a b c e:au} {es:List au} {fa fb fc:FE} {ga gb:eY} {ts:bP} {pos:Pos} {rest:List au}
def gU(f g:eY):eY:=λρ=>(f ρ).bind λx=>if x=true then g ρ else some false
def Fq(f g:eY):eY:=λρ=>(f ρ).bind λx=>if x=true then some true else g ρ
def gP(f:eY):eY:=λρ=>(f ρ).map λx=>!x
theorem ax{α β:Type}{o:Option α}{f:α->Option β}{b:β}(h:o.bind f=some b):∃a,o=some a/\f a=some b:=by
 cases o with
 | none=>cases h
 | some a=>exact⟨a,rfl,h⟩
theorem _root_.L2.PW.imp{X:Cx}{e:au}{t t':TT}(h:PW X e t)(hi:∀σ H Q,t' σ H Q->t σ H Q):PW X e t':=λja ag s σ H Q I hw=>h ja ag s σ H Q I (hi _ _ _ hw)
theorem TV(ha:PT X a (tT X.K H₀ ab ga)):PW X (.BoolOp .And [a] pos) (tT X.K H₀ ab ga):=N7 ha
theorem Xy(ha:PT X a (tT X.K H₀ ab ga)):PW X (.BoolOp .Or [a] pos) (tT X.K H₀ ab ga):=S2 ha
theorem Xz(ha:PT X a (tT X.K H₀ ab ga))(hb:PW X (.BoolOp .And (b::rest) pos) (tT X.K H₀ ab gb)):PW X (.BoolOp .And (a::b::rest) pos) (tT X.K H₀ ab (gU ga gb)) :=
 (S3 ha hb).imp <| by
  rintro σ H Q ⟨F,ρ,p,R,hf,q⟩
  obtain⟨x,h1,h2⟩:=ax hf;refine⟨F,ρ,x,R,h1,λH1 F1 R1 s1=>?_⟩
  cases x with
  | true=>exact⟨F1,ρ,p,R1,h2,λH2 F2 R2 s2=>q H2 F2 R2 (s1.trans s2)⟩
  | false =>
   have e:p=false:=(bM h2).symm;subst e;exact q H1 F1 R1 s1
theorem acI(ha:PT X a (tT X.K H₀ ab ga))(hb:PW X (.BoolOp .Or (b::rest) pos) (tT X.K H₀ ab gb)):PW X (.BoolOp .Or (a::b::rest) pos) (tT X.K H₀ ab (Fq ga gb)) :=
 (WK ha hb).imp <| by
  rintro σ H Q ⟨F,ρ,p,R,hf,q⟩
  obtain⟨x,h1,h2⟩:=ax hf;refine⟨F,ρ,x,R,h1,λH1 F1 R1 s1=>?_⟩
  cases x with
  | false=>exact⟨F1,ρ,p,R1,h2,λH2 F2 R2 s2=>q H2 F2 R2 (s1.trans s2)⟩
  | true =>
   have e:p=true:=(bM h2).symm;subst e;exact q H1 F1 R1 s1
theorem XA(ha:PT X a (tT X.K H₀ ab ga)):PT X (.UnaryOp .Not a pos) (tT X.K H₀ ab (gP ga)):=(S4 ha).imp <| by
 rintro σ H Q ⟨F,ρ,p,R,hf,q⟩
 unfold gP at hf;cases z:ga ρ with
 | none=>rw[z]at hf;cases hf
 | some x=>rw[z]at hf;cases hf;exact⟨F,ρ,x,R,z,λH1 F1 R1 s1=>q H1 F1 R1 s1⟩
def uS(fa fb:FE):FE:=λρ=>(toB fa ρ).bind λx=>if x=true then fb ρ else some (.bl false)
theorem XB(ha:PE X a (tE X.K H₀ ab fa))(hb:PE X (.BoolOp .And (b::rest) pos) (tE X.K H₀ ab fb)):PE X (.BoolOp .And (a::b::rest) pos) (tE X.K H₀ ab (uS fa fb)) :=
 (S6 ha hb).imp <| by
  rintro σ H Q ⟨F,ρ,p,R,hf,q⟩
  obtain⟨x,h1,h2⟩:=ax hf;refine⟨F,ρ,_,R,toB_some h1,λv H1 F1 R1 s1 b1=>⟨x,bZ.mp b1,?_⟩⟩
  cases x with
  | true=>exact⟨F1,ρ,p,R1,h2,λv H2 F2 R2 s2 b2=>q v H2 F2 R2 (s1.trans s2) b2⟩
  | false =>
   have e:p=.bl false:=(bM h2).symm;subst e;exact q _ H1 F1 R1 s1 (bZ.mpr rfl)
def Hu(fa:FE):FE:=λρ=>(toB fa ρ).map λx=>.bl (!x)
theorem XC(ha:PE X a (tE X.K H₀ ab fa)):PE X (.UnaryOp .Not a pos) (tE X.K H₀ ab (Hu fa)):=(S7 ha).imp <| by
 rintro σ H Q ⟨F,ρ,p,R,hf,q⟩
 unfold Hu at hf;cases z:toB fa ρ with
 | none=>rw[z]at hf;cases hf
 | some x =>
  rw[z]at hf;cases hf;exact⟨F,ρ,_,R,toB_some z,λv H1 F1 R1 s1 b1=>⟨x,bZ.mp b1,q _ H1 F1 R1 s1 (bZ.mpr rfl)⟩⟩
def uT(gc:eY)(fa fb:FE):FE:=λρ=>(gc ρ).bind λx=>if x=true then fa ρ else fb ρ
theorem acJ(hc:PT X c (tT X.K H₀ ab ga))(ha:PE X a (tE X.K H₀ ab fa))(hb:PE X b (tE X.K H₀ ab fb)):PE X (.IfExp c a b pos) (tE X.K H₀ ab (uT ga fa fb)) :=
 (J6 hc ha hb).imp <| by
  rintro σ H Q ⟨F,ρ,p,R,hf,q⟩
  obtain⟨x,h1,h2⟩:=ax hf;refine⟨F,ρ,x,R,h1,λH1 F1 R1 s1=>?_⟩
  cases x with
  | true=>exact⟨F1,ρ,p,R1,h2,λv H2 F2 R2 s2 b2=>q v H2 F2 R2 (s1.trans s2) b2⟩
  | false=>exact⟨F1,ρ,p,R1,h2,λv H2 F2 R2 s2 b2=>q v H2 F2 R2 (s1.trans s2) b2⟩
theorem OG{op xu:CmpOp}{r r':R2}{g g':PV->PV->bU}(ho:OpR X (compareOp op) r)(hg:OF X.K r g)(xm:OpR X (compareOp xu) r')(hg':OF X.K r' g')(ha:PE X a (tE X.K H₀ ab fa))(hb:PE X b (tE X.K H₀ ab fb))(hc:PE X c (tE X.K H₀ ab fc))
  (hm:lastMarks [op,xu] [b,c]=false:=by with_unfolding_all rfl):PE X (.Compare a [op,xu] [b,c] pos) (tE X.K H₀ ab (chain fa fb fc g g')):=(Kk ho xm ha hb hc hm).imp <| by
 rintro σ H Q ⟨F,ρ,p,R,hf,q⟩
 obtain⟨x,h1,hf⟩:=ax hf;obtain⟨y,h2,hf⟩:=ax hf;obtain⟨z,h3,hf⟩:=ax hf;refine⟨F,ρ,x,R,h1,λv H1 F1 R1 s1 b1=>⟨F1,ρ,y,R1,h2,λw H2 F2 R2 s2 b2=>?_⟩⟩
 refine hg H₀ ab F2 ρ σ H2 x y z v w _ h3 R2 (b1.mono s2) b2 λu H3 F3 R3 s3 b3=>?_
 cases z with
 | bl k =>
  refine⟨k,bZ.mp b3,?_⟩;cases k with
  | true =>
   obtain⟨t,h4,h5⟩:=ax hf;refine⟨F3,ρ,t,R3,h4,λo H4 F4 R4 s4 b4=>?_⟩
   exact hg' H₀ ab F4 ρ σ H4 y t p w o _ h5 R4 (b2.mono (s3.trans s4)) b4 λu5 H5 F5 R5 s5 b5=>q u5 H5 F5 R5 (s1.trans (s2.trans (s3.trans (s4.trans s5)))) b5
  | false =>
   have e:p=.bl false:=(bM hf).symm;subst e;exact q _ H3 F3 R3 (s1.trans (s2.trans s3)) (bZ.mpr rfl)
 | _=>cases hf
theorem OH{op xu:CmpOp}{r r':R2}{g g':PV->PV->bU}(ho:OpR X (compareOp op) r)(hg:OF X.K r g)(xm:OpR X (compareOp xu) r')(hg':OF X.K r' g')(ha:PE X a (tE X.K H₀ ab fa))(hb:PE X b (tE X.K H₀ ab fb))(hc:PE X c (tE X.K H₀ ab fc))
  (hm:lastMarks [op,xu] [b,c]=false:=by with_unfolding_all rfl):PT X (.Compare a [op,xu] [b,c] pos) (tT X.K H₀ ab (toB (chain fa fb fc g g'))):=(Kl ho xm ha hb hc hm).imp <| by
 rintro σ H Q ⟨F,ρ,p,R,hf,q⟩
 have hf:=toB_some hf;obtain⟨x,h1,hf⟩:=ax hf;obtain⟨y,h2,hf⟩:=ax hf;obtain⟨z,h3,hf⟩:=ax hf;refine⟨F,ρ,x,R,h1,λv H1 F1 R1 s1 b1=>⟨F1,ρ,y,R1,h2,λw H2 F2 R2 s2 b2=>?_⟩⟩
 refine hg H₀ ab F2 ρ σ H2 x y z v w _ h3 R2 (b1.mono s2) b2 λu H3 F3 R3 s3 b3=>?_
 cases z with
 | bl k =>
  refine⟨k,bZ.mp b3,?_⟩;cases k with
  | true =>
   obtain⟨t,h4,h5⟩:=ax hf;refine⟨F3,ρ,t,R3,h4,λo H4 F4 R4 s4 b4=>?_⟩
   exact hg' H₀ ab F4 ρ σ H4 y t (.bl p) w o _ h5 R4 (b2.mono (s3.trans s4)) b4 λu5 H5 F5 R5 s5 b5=>⟨p,bZ.mp b5,q H5 F5 R5 (s1.trans (s2.trans (s3.trans (s4.trans s5))))⟩
  | false =>
   have e:PV.bl p=.bl false:=(bM hf).symm;cases e;exact⟨false,rfl,q H3 F3 R3 (s1.trans (s2.trans s3))⟩
 | _=>cases hf
def ai:bP:=λ_=>some []
def aa(f:FE)(g:bP):bP:=λρ=>(f ρ).bind λx=>(g ρ).map λxs=>x::xs
theorem Du{f:FE}{g:bP}{ρ:aG}{ps:ay}(h:aa f g ρ=some ps):∃x xs,f ρ=some x/\g ρ=some xs/\ps=x::xs:=by
 obtain⟨x,h1,h2⟩:=ax h;cases z:g ρ with
 | none=>rw[z]at h2;cases h2
 | some xs=>rw[z]at h2;cases h2;exact⟨x,xs,h1,rfl,rfl⟩
theorem vS:PA X [] (tA X.K H₀ ab ai):=ir.imp <| by
 rintro σ H Q ⟨F,ρ,p,R,hf,q⟩
 cases hf;exact q [] H F R (Same.refl F) .nil
theorem pJ(ha:PE X e (tE X.K H₀ ab fa))(hr:PA X es (tA X.K H₀ ab ts))(hs:starEach (e::es) X.env=(false,eval e X.env)::starEach es X.env:=by rfl):PA X (e::es) (tA X.K H₀ ab (aa fa ts)) :=
 (dm ha hr hs).imp <| by
  rintro σ H Q ⟨F,ρ,p,R,hf,q⟩
  obtain⟨x,xs,h1,h2,rfl⟩:=Du hf;exact⟨F,ρ,x,R,h1,λv H1 F1 R1 s1 b1=>⟨F1,ρ,xs,R1,h2,λvs H2 F2 R2 s2 b2=>q _ H2 F2 R2 (s1.trans s2) (.cons (b1.mono s2) b2)⟩⟩
noncomputable def gH:Nat:=100000
theorem fj{n:Nat}(h:n<=gH):n<=sizeLine:=cG h (by decide)
def aY(ts:bP):FE:=λρ=>(ts ρ).bind λps=>if ps.length<=gH then some (.aC ps)else none
def cB(ts:bP):bP:=λρ=>(ts ρ).bind λps=>if ps.length<=gH then some ps else none
theorem aK{α:Type}{c:Prop} [Decidable c] {x y:α} (h:(if c then some x else none)=some y):c/\x=y:=by
 by_cases hc:c
 ·rw[if_pos hc]at h;exact⟨hc,bM h⟩
 ·rw[if_neg hc]at h;cases h
theorem RO{x1}(h:PA X es (tA X.K H₀ ab ts)):PE X (.Tuple es x1 pos) (tE X.K H₀ ab (aY ts)):=(Tq h).imp <| by
 rintro σ H Q ⟨F,ρ,p,R,hf,q⟩
 obtain⟨ps,h1,h2⟩:=ax hf;obtain⟨hl,rfl⟩:=aK h2;refine⟨F,ρ,ps,R,h1,λvs H1 F1 R1 s1 b1=>⟨fj (by rw[<-b1.length];exact hl),λa hn=>?_⟩⟩
 obtain⟨R2,s2⟩:=R1.laid (.aC vs) hn;exact q _ _ _ R2 (s1.trans s2) (bH.mpr ⟨a,vs,rfl,iA.of aI,b1.mono s2⟩)
theorem Fs(h:PA X es (tA X.K H₀ ab ts)):PE X (.List es pos) (tF X.K H₀ ab (cB ts)):=(Kn h).imp <| by
 rintro σ H Q ⟨F,ρ,p,R,hf,q⟩
 obtain⟨ps,h1,h2⟩:=ax hf;obtain⟨hl,rfl⟩:=aK h2;exact⟨F,ρ,ps,R,h1,λvs H1 F1 R1 s1 b1=>⟨fj (by rw[<-b1.length];exact hl),λa hn=>q a vs H1 F1 R1 s1 b1 hn⟩⟩
end
structure Hv (K:aj) (H₀ ab F H:Hp):Prop where
 sub:Same F H
 keep:Same H₀ H
 base:Same ab F
 fresh:∀a o,F a=some o->ab a=some o\/H₀ a=none
theorem cY.post{K:aj}{H₀ ab F H:Hp}{ρ:aG}{σ:St}(R:cY K H₀ ab F ρ σ H):Hv K H₀ ab F H:=⟨R.sub,R.keep,R.base,R.fresh⟩
def xF(K:aj)(H₀ ab F:Hp)(Q:VK):Ent->Prop
 | .val p=>∀v F' H',Hv K H₀ ab F' H'->Same F F'->dh K F' p v->Q v H'
 | .own ps=>∀a vs F' H',Hv K H₀ ab F' H'->Same F F'->H' a=some (.ao vs)->H₀ a=none->F' a=none->bj K F' ps vs->Q (.ref a) H'
 | .cn m=>∀a F' H',Hv K H₀ ab F' H'->Same F F'->jx K F' H' (Nw H₀ F') a m->H₀ a=none->F' a=none->Q (.ref a) H'
 | .un=>False
 | .ex _=>False
 | .ob _=>False
theorem xF.mono{K:aj}{H₀ ab F F1:Hp}{Q:VK}{e:Ent}(h:xF K H₀ ab F Q e)(s:Same F F1):xF K H₀ ab F1 Q e:=by
 cases e with
 | un=>exact h
 | ex C=>exact h
 | ob _=>exact h
 | cn m=>exact λa F' H' R z=>h a F' H' R (s.trans z)
 | val p=>exact λv F' H' R z=>h v F' H' R (s.trans z)
 | own ps=>exact λa vs F' H' R z=>h a vs F' H' R (s.trans z)
def RP(K:aj)(H F:Hp)(Q:VK)(E:XK):Ent->Prop
 | .ex C=>∀cls F' H',Hv K H F F' H'->Same F F'->ClsAt K C cls->E cls none H'
 | .val p=>xF K H F F Q (.val p)
 | .own ps=>xF K H F F Q (.own ps)
 | .cn m=>xF K H F F Q (.cn m)
 | .ob _=>False
 | .un=>False
def kB(P:bK)(w:aW):ET:=λouter H s E e s'=>∃a cls a0 B H',e=.ref a/\s'.os=s.os/\AllBare s'.gens/\Un (BZ outer) [] H H' s.heap s'.heap/\oN P w H' s'.heap/\Same H H'/\E cls none H' /\
 Heap.FlyingW B outer a cls a0 s'.heap/\(∀b o,H' b=some o->∃ob,B.get? b=some ob)/\∀b ob,s.heap.get? b=some ob->H b=none->b∉BZ outer->B.get? b=some ob
theorem qE{X:Cx}{P:bK}{w:aW}:Di (kB P w) X E0:=λ_ _ _ _ _ _ _ ⟨_,_,_,_,_,_,_,_,_,_,_,h,_⟩=>h.elim
def Dv(K:aj)(n:Nat)(f:ay->cH):Sp:=λvs H Q E=>∃F ps e,Same F H/\bj K F ps vs/\ps.length=n/\f ps=some e/\RP K H F Q E e
section
variable {X:Cx} {H₀ ab:Hp} {e:au} {es:List au} {ts:bP} {pos p:Pos} {k n:Nat} {f:ae} {fd:dN} {ps:List Str} {x:Str} {g:ay->cH}
noncomputable def nU:Ent->bU
 | .val p=>some p
 | .own ps=>some (.ao ps)
 | .un=>none
 | .ex _=>none
 | .ob _=>none
 | .cn _=>none
def OI:Ent->Option ay
 | .own ps=>some ps
 | _=>none
def aD(g:ay->cH)(ts:bP):FE:=λρ=>(ts ρ).bind λas=>(g as).bind nU
def nV(g:ay->cH)(ts:bP):bP:=λρ=>(ts ρ).bind λas=>(g as).bind OI
def aR(n:Nat)(g:ay->cH):ay->cH:=λps=>if ps.length=n then g ps else none
theorem vT{n:Nat}{g:ay->cH}{ps:ay}{p:Ent}(h:aR n g ps=some p):ps.length=n/\g ps=some p:=by
 unfold aR at h;by_cases hc:ps.length=n
 ·rw[if_pos hc]at h;exact⟨hc,h⟩
 ·rw[if_neg hc]at h;cases h
theorem Am{K:aj}{H F F' H':Hp}{a:ae}{vs:List V}(P:Hv K H F F' H')(ha:H' a=some (.ao vs))(hn:H a=none)(fn:F' a=none) :
  Same F (upd F' a (.ao vs))/\Same F' (upd F' a (.ao vs))/\Same (upd F' a (.ao vs)) H'/\∀b o,upd F' a (.ao vs) b=some o->F b=some o\/H b=none:=by
 refine⟨P.base.trans (eK fn),eK fn,λb o e=>?_,λb o e=>?_⟩
 ·by_cases hb:b=a
  ·subst hb;rw[aI]at e;cases e;exact ha
  ·rw[upd_ne hb]at e;exact P.sub _ _ e
 ·by_cases hb:b=a
  ·subst hb;exact .inr hn
  ·rw[upd_ne hb]at e;exact P.fresh _ _ e
theorem tx{σ:St}{H:Hp}{Q:VK}{E:XK}{K:aj}(h:tE K H₀ ab (aD (aR n g) ts) σ H Q):zX (Dv K n g) [] E (tA K H₀ ab ts) σ H Q:=by
 obtain⟨F,ρ,p,R,hf,q⟩:=h;obtain⟨as,h1,h2⟩:=ax hf;obtain⟨en,h2,h4⟩:=ax h2;obtain⟨hl,h3⟩:=vT h2;refine⟨F,ρ,as,R,h1,λvs H1 F1 R1 s1 b1=>?_⟩
 show Dv K n g (vs++[]) H1 Q E;rw[gG];refine⟨F1,as,en,R1.sub,b1,hl,h3,?_⟩;cases en with
 | un=>cases h4
 | ex C=>cases h4
 | ob _=>cases h4
 | cn _=>cases h4
 | val p' =>
  cases h4;exact λv F2 H2 P ff b2=>q v H2 F2 (R1.after P.keep P.base P.sub P.fresh) (s1.trans ff) b2
 | own ps =>
  cases h4;intro a XD F2 H2 P ff ha hn fn b2;obtain⟨z1,z2,z3,z4⟩:=Am P ha hn fn;exact q _ H2 _ (R1.after P.keep z1 z3 z4) (s1.trans z1) (bD.mpr ⟨a,XD,rfl,ql.of aI,b2.mono z2⟩)
def TX(H:Hp)(a:ae):Hp:=λb=>if b=a then none else H b
theorem KC{H:Hp}{a:ae}:TX H a a=none:=by unfold TX;rw[if_pos rfl]
theorem KD{H:Hp}{a b:ae}(h:b≠a):TX H a b=H b:=by unfold TX;rw[if_neg h]
theorem OJ{H:Hp}{a:ae}{o:HO}(h:H a=some o):upd (TX H a) a o=H:=by
 funext b
 by_cases hb:b=a
 ·subst hb;rw[aI,h]
 ·rw[upd_ne hb,KD hb]
theorem An{F H:Hp}{a:ae}(s:Same F H)(hn:F a=none):Same F (TX H a):=λb o e=>by
 have:b≠a:=λz=>by subst z;rw[hn]at e;cases e
 rw[KD this];exact s _ _ e
theorem Hw{σ:St}{H:Hp}{Q:VK}{E:XK}{K:aj}(h:tF K H₀ ab (nV (aR n g) ts) σ H Q):zX (Dv K n g) [] E (tA K H₀ ab ts) σ H Q:=by
 obtain⟨F,ρ,p,R,hf,q⟩:=h;obtain⟨as,h1,h2⟩:=ax hf;obtain⟨en,h2,h4⟩:=ax h2;obtain⟨hl,h3⟩:=vT h2;refine⟨F,ρ,as,R,h1,λvs H1 F1 R1 s1 b1=>?_⟩
 show Dv K n g (vs++[]) H1 Q E;rw[gG];refine⟨F1,as,en,R1.sub,b1,hl,h3,?_⟩;cases en with
 | un=>cases h4
 | ex C=>cases h4
 | ob _=>cases h4
 | cn _=>cases h4
 | val p'=>cases h4
 | own ps =>
  cases h4;intro a XD F2 H2 P ff ha hn fn b2;have:=q a XD (TX H2 a) F2 (R1.after (An P.keep hn) P.base (An P.sub fn) P.fresh) (s1.trans ff) b2 KC;rw[OJ ha]at this;exact this
theorem TY(F:FnOk X.prog X.w X.K X.mg X.base (kB X.prog X.w) k f fd ps (Dv X.K n g))(hr:eJ k X.A)(hg:Gl X x)(hm:X.mg x=some (.ref f))(hk:W.keepIn X.K (.ref f)=true)(hb:fO X.K fd ps [])
  (ha:PA X (e::es) (tA X.K H₀ ab ts)) (Dj:(x==("__debug__":Str))=false:=by decide) (he:starEach (e::es) X.env=(false,eval e X.env)::starEach es X.env:=by rfl) (pH:(backTo pos (starEach es X.env)).any (·.1)=false:=by rfl) :
  PE X (.Call (.Name x p) (e::es) [] pos) (tE X.K H₀ ab (aD (aR n g) ts)):=(nQ F hr hg hm hk hb .nil qE ha Dj he pH).imp λ_ _ _ h=>tx h
end
inductive nv where
 | nx (ρ:aG) | rt (p:Ent) | bk (ρ:aG) | ct (ρ:aG) | ex (made:Bool) (C:Str) (ρ:aG)
abbrev FS:=aG->Option nv
def Hx(X:Cx)(H₀ ab F:Hp)(C:Str)(ρ:aG):Bool->Prop
 | true=>∀F' c9 H' ag s h1 a cls vs,cY X.K H₀ ab F' ρ c9 H'->Same F F'->Inv X ag c9 H' s->ClsAt X.K C cls->Heap.MadeExcOf s.heap h1 a cls vs->X.xe (.ref a) {s with heap:=h1}
 | false=>∀c9 ag H1 s1 e s',Inv X ag c9 H1 s1->kB X.prog X.w X.stack H1 s1 (λcls _ H2=>ClsAt X.K C cls/\∃F',cY X.K H₀ ab F' ρ c9 H2/\Same F F') e s'->X.xe e s'
theorem Hx.mono{X:Cx}{H₀ ab F F1:Hp}{C:Str}{ρ:aG}{m:Bool}(h:Hx X H₀ ab F C ρ m)(s:Same F F1):Hx X H₀ ab F1 C ρ m:=by
 cases m with
 | true=>exact λF' c9 H' ag s1 h1 a cls vs R z=>h F' c9 H' ag s1 h1 a cls vs R (s.trans z)
 | false =>
  rintro c9 ag H1 s1 e s' I ⟨a,cls,a0,B,H',h1,h2,h3,h4,h5,h6,⟨c,F',R,z⟩,h8⟩;exact h c9 ag H1 s1 e s' I ⟨a,cls,a0,B,H',h1,h2,h3,h4,h5,h6,⟨c,F',R,s.trans z⟩,h8⟩
def Ft(X:Cx)(H₀ ab F:Hp)(D:kO):nv->Prop
 | .nx ρ=>∀F' c9 H',cY X.K H₀ ab F' ρ c9 H'->Same F F'->D.nx c9 H'
 | .bk ρ=>∀F' c9 H',cY X.K H₀ ab F' ρ c9 H'->Same F F'->D.bk c9 H'
 | .ct ρ=>∀F' c9 H',cY X.K H₀ ab F' ρ c9 H'->Same F F'->D.ct c9 H'
 | .rt p=>xF X.K H₀ ab F D.rt p
 | .ex m C ρ=>Hx X H₀ ab F C ρ m
def tS(X:Cx)(H₀ ab:Hp)(f:FS):TS:=λD σ H=>∃F ρ o,cY X.K H₀ ab F ρ σ H/\f ρ=some o/\Ft X H₀ ab F D o
theorem Ft.mono{X:Cx}{H₀ ab F F1:Hp}{D:kO}{o:nv}(h:Ft X H₀ ab F D o)(s:Same F F1):Ft X H₀ ab F1 D o:=by
 cases o with
 | nx ρ=>exact λF' c9 H' R z=>h F' c9 H' R (s.trans z)
 | bk ρ=>exact λF' c9 H' R z=>h F' c9 H' R (s.trans z)
 | ct ρ=>exact λF' c9 H' R z=>h F' c9 H' R (s.trans z)
 | rt p=>exact xF.mono h s
 | ex m C ρ=>exact Hx.mono h s
section
variable {X:Cx} {H₀ ab:Hp} {a b c e tg iter:au} {es:List au} {fe:FE} {gc:eY} {pos:Pos} {st:aE} {XE body:List aE} {f g:FS}
def aJ(f g:FS):FS:=λρ=>(f ρ).bind λo=>match o with | .nx fA=>g fA | o=>some o
theorem TZ:qU X [] (tS X H₀ ab λρ=>some (.nx ρ)):=E8.imp <| by
 rintro D σ H ⟨F,ρ,o,R,hf,q⟩
 cases hf;exact q F σ H R (Same.refl F)
theorem OK(h1:PS X st (tS X H₀ ab f))(h2:qU X XE (tS X H₀ ab g)):qU X (st::XE) (tS X H₀ ab (aJ f g)):=(hZ h1 h2).imp <| by
 rintro D σ H ⟨F,ρ,o,R,hf,q⟩
 obtain⟨o1,e1,e2⟩:=ax hf;refine⟨F,ρ,o1,R,e1,?_⟩;cases o1 with
 | nx eM=>exact λF1 jI H1 R1 s1=>⟨F1,eM,o,R1,e2,q.mono s1⟩
 | bk eM=>cases e2;exact q
 | ct eM=>cases e2;exact q
 | rt p=>cases e2;exact q
 | ex m C eM=>cases e2;exact q
theorem T1(h1:PS X st (tS X H₀ ab f)):qU X [st] (tS X H₀ ab f):=lK h1
def bC(fe:FE):FS:=λρ=>(fe ρ).map λp=>.rt (.val p)
theorem RQ(he:PE X e (tE X.K H₀ ab fe)):PS X (.Return (some e) pos) (tS X H₀ ab (bC fe)):=(C8 he).imp <| by
 rintro D σ H ⟨F,ρ,o,R,hf,q⟩
 unfold bC at hf;cases z:fe ρ with
 | none=>rw[z]at hf;cases hf
 | some p =>
  rw[z]at hf;cases hf;exact⟨F,ρ,p,R,z,λv H1 F1 R1 s1 b1=>q v F1 H1 R1.post s1 b1⟩
def nW(i:Nat):FS:=λρ=>match ρ[i]? with
 | some (.own ps)=>some (.rt (.own ps))
 | some (.val p)=>some (.rt (.val p))
 | _=>none
theorem Hy(i:Nat){x:Str}{p:Pos}(h:PE X (.Name x p) (jY i)):PS X (.Return (some (.Name x p)) pos) (tS X H₀ ab (nW i)):=(C8 h).imp <| by
 rintro D σ H ⟨F,ρ,o,R,hf,q⟩
 unfold nW at hf;split at hf
 ·rename_i ps z;cases hf;obtain⟨a,vs,h1,h2,h3,h4,h5⟩:=R.own i ps z;exact⟨_,h1,q a vs F H R.post (Same.refl F) h2 h3 h4 h5⟩
 ·rename_i p z;cases hf;obtain⟨v,h1,h2⟩:=R.val i p z;exact⟨_,h1,q v F H R.post (Same.refl F) h2⟩
 ·cases hf
theorem T2:PS X (.Return none pos) (tS X H₀ ab λ_=>some (.rt (.val .cE))):=N8.imp <| by
 rintro D σ H ⟨F,ρ,o,R,hf,q⟩
 cases hf;exact q _ F H R.post (Same.refl F) (dC.mpr rfl)
def fJ(gc:eY)(f g:FS):FS:=λρ=>(gc ρ).bind λx=>if x=true then f ρ else g ρ
theorem acL{p:List aE}{r:List aE}(hc:PT X c (tT X.K H₀ ab gc))(ha:qU X p (tS X H₀ ab f))(hb:qU X r (tS X H₀ ab g)):PS X (.If c p r pos) (tS X H₀ ab (fJ gc f g)) :=
 (Rx hc ha hb).imp <| by
  rintro D σ H ⟨F,ρ,o,R,hf,q⟩
  obtain⟨x,h1,h2⟩:=ax hf;refine⟨F,ρ,x,R,h1,λH1 F1 R1 s1=>?_⟩
  cases x with
  | true=>exact⟨F1,ρ,o,R1,h2,q.mono s1⟩
  | false=>exact⟨F1,ρ,o,R1,h2,q.mono s1⟩
def qF(fe:FE):FS:=λρ=>(fe ρ).map λ_=>.nx ρ
theorem T3(he:PE X e (tE X.K H₀ ab fe))(hs:swapsWith e none pos.line X.env=pure false:=by rfl):PS X (.Expr e pos) (tS X H₀ ab (qF fe)):=(g9 he hs).imp <| by
 rintro D σ H ⟨F,ρ,o,R,hf,q⟩
 unfold qF at hf;cases z:fe ρ with
 | none=>rw[z]at hf;cases hf
 | some p =>
  rw[z]at hf;cases hf;exact⟨F,ρ,p,R,z,λv H1 F1 R1 s1 b1=>q F1 σ H1 R1 s1⟩
def tG(K:aj)(H₀ ab:Hp)(g:fz):TG:=λv σ H Q=>∃F ρ p fA,cY K H₀ ab F ρ σ H/\dh K F p v/\g p ρ=some fA/\∀c9 H' F',cY K H₀ ab F' fA c9 H'->Same F F'->Q c9 H'
def ak(i:Nat)(p:PV)(ρ:aG):Option aG:=if i<ρ.length then some (ρ.set i (.val p))else none
theorem cY.set{K:aj}{F H:Hp}{ρ:aG}{σ:St}(R:cY K H₀ ab F ρ σ H){i:Nat}(hi:i<ρ.length){p:PV}{v:V}(hb:dh K F p v):cY K H₀ ab F (ρ.set i (.val p)) (σ.set i (some v)) H where
 sub:=R.sub
 keep:=R.keep
 base:=R.base
 fresh:=R.fresh
 val:=λj q e=>by
  by_cases h:i=j
  ·subst h;rw[b7 hi]at e;cases e;exact⟨v,b7 (by rw[<-R.len];exact hi),hb⟩
  ·rw[bE h]at e;rw[bE h];exact R.val j q e
 own:=λj ps e=>by
  by_cases h:i=j
  ·subst h;rw[b7 hi]at e;cases e
  ·rw[bE h]at e;rw[bE h];exact R.own j ps e
 apart:=λj k ps qs a h1 h2 h3 h4=>by
  by_cases hj:i=j
  ·subst hj;rw[b7 hi]at h1;cases h1
  ·by_cases hk:i=k
   ·subst hk;rw[b7 hi]at h2;cases h2
   ·rw[bE hj]at h1 h3;rw[bE hk]at h2 h4;exact R.apart j k ps qs a h1 h2 h3 h4
 obs:=λj ps e=>by
  by_cases h:i=j
  ·subst h;rw[b7 hi]at e;cases e
  ·rw[bE h]at e;rw[bE h];exact R.obs j ps e
 cn:=λj ps e=>by
  by_cases h:i=j
  ·subst h;rw[b7 hi]at e;cases e
  ·rw[bE h]at e;rw[bE h];exact R.cn j ps e
 len:=by rw[iq,iq];exact R.len
theorem _root_.L2.PG.imp{X:Cx}{e:au}{t t':TG}(h:PG X e t)(hi:∀v σ H Q,t' v σ H Q->t v σ H Q):PG X e t':=λag s σ H v u Q I r hw=>h ag s σ H v u Q I r (hi _ _ _ _ hw)
theorem _root_.L2.Jo.imp{X:Cx}{e:List au}{t t':N9}(h:Jo X e t)(hi:∀v σ H Q,t' v σ H Q->t v σ H Q):Jo X e t':=λag s σ H v u Q I r hw=>h ag s σ H v u Q I r (hi _ _ _ _ hw)
theorem T4(i:Nat){x:Str}(h:PG X (.Name x pos) (gName i)):PG X (.Name x pos) (tG X.K H₀ ab (ak i)):=h.imp <| by
 rintro v σ H Q ⟨F,ρ,p,fA,R,hb,hf,q⟩
 obtain⟨hi,rfl⟩:=aK hf;exact q _ _ _ (R.set hi hb) (Same.refl F)
def XF(K:aj)(H₀ ab:Hp)(g:ay->aG->Option aG):N9:=λvs σ H Q=>∃F ρ ps fA,cY K H₀ ab F ρ σ H/\bj K F ps vs/\g ps ρ=some fA/\∀c9 H' F',cY K H₀ ab F' fA c9 H'->Same F F'->Q c9 H'
def cx:ay->aG->Option aG:=λps ρ=>match ps with | []=>some ρ | _=>none
def aw(g:fz)(r:ay->aG->Option aG):ay->aG->Option aG:=λps ρ=>match ps with | p::ps=>(g p ρ).bind λfA=>r ps fA | []=>none
theorem T5:Jo X [] (XF X.K H₀ ab cx):=Oa.imp <| by
 rintro vs σ H Q ⟨F,ρ,ps,fA,R,hb,hf,q⟩
 cases ps with
 | nil=>cases hf;exact⟨hb.b9,q _ _ _ R (Same.refl F)⟩
 | cons _ _=>cases hf
theorem OL{t:fz}{u:ay->aG->Option aG}(h1:PG X e (tG X.K H₀ ab t))(h2:Jo X es (XF X.K H₀ ab u))
  (hs:(assignEach (e::es) X.env).map (·.2)=assign e X.env::(assignEach es X.env).map (·.2):=by rfl):Jo X (e::es) (XF X.K H₀ ab (aw t u)):=(J8 h1 h2 hs).imp <| by
 rintro vs σ H Q ⟨F,ρ,ps,fA,R,hb,hf,q⟩
 cases ps with
 | nil=>cases hf
 | cons p ps =>
  obtain⟨v,r,rfl,b1,b2⟩:=hb.cb;obtain⟨eM,e1,e2⟩:=ax hf;exact⟨v,r,rfl,F,ρ,p,eM,R,b1,e1,λjI H1 F1 R1 s1=>⟨F1,eM,ps,fA,R1,b2.mono s1,e2,λB6 H2 F2 R2 s2=>q B6 H2 F2 R2 (s1.trans s2)⟩⟩
def cC(n:Nat)(t:ay->aG->Option aG):fz:=λp ρ=>match p with | .aC ps=>if ps.length=n then t ps ρ else none | _=>none
theorem XG{k:Nat}{t:ay->aG->Option aG}{n:Nat}(hc:X.calm=true)(h:Jo X es (XF X.K H₀ ab t))
  (hn:(assignEach es X.env).length=n:=by rfl) (Hg:(assignEach es X.env).findIdx? (·.1)=none:=by rfl):PG X (.Tuple es k pos) (tG X.K H₀ ab (cC n t)):=(S9 hc h hn Hg).imp <| by
 rintro v σ H Q ⟨F,ρ,p,fA,R,hb,hf,q⟩
 cases p with
 | aC ps =>
  have hf:(if ps.length=n then t ps ρ else none)=some fA:=hf
  by_cases hl:ps.length=n
  ·rw[if_pos hl]at hf;obtain⟨a,vs,rfl,hs,Dw⟩:=bH.mp hb;exact⟨a,vs,rfl,bg R.sub hs,by rw[<-Dw.length];exact hl,F,ρ,ps,fA,R,Dw,hf,q⟩
  ·rw[if_neg hl]at hf;cases hf
 | _=>cases hf
def bx(fe:FE)(g:fz):FS:=λρ=>(fe ρ).bind λp=>(g p ρ).map .nx
theorem Fu{fe:FE}{g:fz}{D:kO}{σ:St}{H:Hp}(h:tS X H₀ ab (bx fe g) D σ H):nN (tE X.K H₀ ab fe) (tG X.K H₀ ab g) D σ H:=by
 obtain⟨F,ρ,o,R,hf,q⟩:=h;obtain⟨p,h1,h2⟩:=ax hf;cases z:g p ρ with
 | none=>rw[z]at h2;cases h2
 | some fA =>
  rw[z]at h2;cases h2;exact⟨F,ρ,p,R,h1,λv H1 F1 R1 s1 b1=>⟨F1,ρ,p,fA,R1,b1,z,λB6 H2 F2 R2 s2=>q F2 B6 H2 R2 (s1.trans s2)⟩⟩
theorem XH{g:fz}(he:PE X e (tE X.K H₀ ab fe))(hg:PG X tg (tG X.K H₀ ab g))(hs:swapsWithSole [tg] e pos.line X.env=pure false:=by rfl)(hw:swappedStores [tg] e X.env=pure none:=by rfl)
  (h1:(assignEach [tg] X.env).map (·.2)=[assign tg X.env]:=by rfl):PS X (.Assign [tg] e pos) (tS X H₀ ab (bx fe g)):=(Ta he hg hs hw h1).imp λ_ _ _ h=>Fu h
theorem RR(i:Nat){x:Str}{ib:Pos}(h:PS X (.Assign [.Name x ib] e pos) (nN (tE X.K H₀ ab fe) (gName i))):PS X (.Assign [.Name x ib] e pos) (tS X H₀ ab (bx fe (ak i))):=h.imp λD σ H h=>by
 obtain⟨F,ρ,p,R,h1,q⟩:=Fu h;exact⟨F,ρ,p,R,h1,λv H1 F1 R1 s1 b1=>by
  obtain⟨F',fA,p',agz,R',b',hf,q'⟩:=q v H1 F1 R1 s1 b1;obtain⟨hi,rfl⟩:=aK hf;exact q' _ _ _ (R'.set hi b') (Same.refl F')⟩
def KH(K:aj)(J:It)(F:Hp)(ps:ay):Prop:=∀(H₀ ab F':Hp) (ρ:aG) (σ:St) (H:Hp),cY K H₀ ab F' ρ σ H->Same F F'->∀i:Nat,
 (∀p,ps[i]?=some p->J.go i H/\∀x H',J.yld i H x H'->∃F'',cY K H₀ ab F'' ρ σ H'/\Same F' F''/\dh K F'' p x)/\(ps[i]?=none->J.stop i H)
def tI(K:aj)(H₀ ab:Hp)(fi:bP):TI:=λσ H R=>∃F ρ ps,cY K H₀ ab F ρ σ H/\fi ρ=some ps/\∀J H' F',cY K H₀ ab F' ρ σ H'->Same F F'->KH K J F' ps->R J H'
theorem _root_.L2.PI.imp{X:Cx}{tg e:au}{t t':TI}(h:PI X tg e t)(hi:∀σ H Q,t' σ H Q->t σ H Q):PI X tg e t':=λag s σ H R I hw=>h ag s σ H R I (hi _ _ _ hw)
def eG(set:fz)(body:FS):ay->aG->Option nv
 | [],ρ=>some (.nx ρ)
 | p::ps,ρ=>(set p ρ).bind λeM=>(body eM).bind λo=>match o with
  | .nx rl=>eG set body ps rl
  | .ct rl=>eG set body ps rl
  | .bk rl=>some (.nx rl)
  | .rt p=>some (.rt p)
  | .ex m C rl=>some (.ex m C rl)
def eZ(fi:bP)(set:fz)(body:FS):FS:=λρ=>(fi ρ).bind λps=>eG set body ps ρ
theorem XI{fi:bP}{g:fz}{fb:FS}(hp:PassesOwn (model X.prog X.w) X.A X.env X.xe)(hc:X.calm=true)(hi:PI X tg iter (tI X.K H₀ ab fi))(hg:PG X tg (tG X.K H₀ ab g))(hb:qU X body (tS X H₀ ab fb))
  (hs:∀x,foldedSetIterable iter X.env x=pure x:=by intro _;rfl):PS X (.For tg iter body [] pos) (tS X H₀ ab (eZ fi g fb)):=(Ke hp hc hi hg hb hs).imp <| by
 rintro D σ H ⟨F,ρ,o,R,hf,q⟩
 obtain⟨ps,h1,h2⟩:=ax hf;refine⟨F,ρ,ps,R,h1,λJ H1 F1 R1 s1 wk=>?_⟩
 refine⟨λi m c9 H'=>m=ps.length-i/\i<=ps.length/\∃F' fA,cY X.K H₀ ab F' fA c9 H'/\Same F1 F'/\eG g fb (ps.drop i) fA=some o,⟨ps.length,by simp,gr _,F1,ρ,R1,Same.refl _,h2⟩,?_⟩
 rintro i m c9 H' ⟨rfl,hi,F',fA,R',s',hr⟩
 obtain⟨wg,XJ⟩:=wk H₀ ab F' fA c9 H' R' s' i;by_cases fg:i<ps.length
 ·have hd:ps.drop i=ps[i]::ps.drop (i+1):=List.drop_eq_getElem_cons fg;obtain⟨go,wy⟩:=wg ps[i] (dG fg);rw[hd]at hr;obtain⟨eM,e1,hr⟩:=ax hr;obtain⟨o1,e2,hr⟩:=ax hr;refine .inr ⟨go,λB6 H2=>∃F2 rl,cY X.K H₀ ab F2 rl B6 H2/\Same F1 F2/\eG g fb (ps.drop (i+1)) rl=some o,λB6 H2 n2=>⟨ps.length-(i+1),by lia,rfl,fg,n2⟩,λx H2 y=>?_⟩
  obtain⟨F2,R2,s2,b2⟩:=wy x H2 y;refine⟨F2,fA,ps[i],eM,R2,b2,e1,λrh H3 F3 R3 s3=>⟨F3,eM,o1,R3,e2,?_⟩⟩
  have up:Same F1 F3:=s'.trans (s2.trans s3);cases o1 with
  | nx rl=>exact λF4 OM H4 R4 s4=>⟨F4,rl,R4,up.trans s4,hr⟩
  | ct rl=>exact λF4 OM H4 R4 s4=>⟨F4,rl,R4,up.trans s4,hr⟩
  | bk rl =>
   cases hr;exact λF4 OM H4 R4 s4=>q F4 OM H4 R4 (s1.trans (up.trans s4))
  | rt p =>
   cases hr;exact xF.mono q (s1.trans up)
  | ex m C rl =>
   cases hr;exact Hx.mono q (s1.trans up)
 ·have e:i=ps.length:=by lia
  subst e;rw[CW]at hr;cases hr;exact .inl ⟨XJ (mG (bc _)),q F' c9 H' R' (s1.trans s')⟩
theorem Hz{K:aj}{F:Hp}{a:ae}{vs:List V}{ps:ay}(hs:l8 K F a vs)(hb:bj K F ps vs):KH K (V0 K a) F ps:=by
 intro H₀ ab F' ρ σ H R s i;have hq:l8 K H a vs:=(s.trans R.sub).seq hs;refine⟨λp e=>?_,λe=>?_⟩
 ·obtain⟨v,e1,b1⟩:=hb.get e;refine⟨⟨vs,v,hq,e1⟩,λx H' ⟨hH,y⟩=>?_⟩
  subst hH;have:=y vs hq;rw[e1]at this;cases this;exact⟨F',R,Same.refl _,b1.mono s⟩
 ·refine⟨vs,hq,?_⟩;rw[<-hb.length];exact rM.mp e
theorem KI{K:aj}{F:Hp}{a:ae}{vs:List V}{ps:ay}(hs:iA K F a vs)(hb:bj K F ps vs):KH K (Itt K a) F ps:=by
 intro H₀ ab F' ρ σ H R s i;have hq:iA K H a vs:=bg (s.trans R.sub) hs;refine⟨λp e=>?_,λe=>?_⟩
 ·obtain⟨v,e1,b1⟩:=hb.get e;refine⟨⟨vs,v,hq,e1⟩,λx H' ⟨hH,y⟩=>?_⟩
  subst hH;have:=y vs hq;rw[e1]at this;cases this;exact⟨F',R,Same.refl _,b1.mono s⟩
 ·refine⟨vs,hq,?_⟩;rw[<-hb.length];exact rM.mp e
theorem tD{K:aj}{F:Hp}(lo:Int)(n:Nat):KH K (WR lo n) F ((List.range n).map fun(i:Nat)=>.int (lo+i)):=by
 intro H₀ ab F' ρ σ H R s i;refine⟨λp e=>?_,λe=>?_⟩
 ·rw[cm]at e;by_cases hi:i<n
  ·rw[rP hi]at e;cases e;exact⟨hi,λx H' ⟨hH,y⟩=>by subst hH y;exact⟨F',R,Same.refl _,aM.mpr rfl⟩⟩
  ·rw[mG (by simpa using hi)]at e;cases e
 ·rw[cm]at e;by_cases hi:i<n
  ·rw[rP hi]at e;cases e
  ·exact CN hi
def cF(fe:FE):bP:=λρ=>(fe ρ).bind λp=>match p with | .aC ps=>some ps | .ao ps=>some ps | _=>none
theorem Fv(he:PE X e (tE X.K H₀ ab fe)):PI X tg e (tI X.K H₀ ab (cF fe)):=by
 intro ag s σ H R I h;obtain⟨F,ρ,ps,Rp,hf,q⟩:=h;obtain⟨p,h1,h2⟩:=ax hf;cases p with
 | aC qs =>
  cases h2;refine Tc he ag s σ H R I ⟨F,ρ,_,Rp,h1,λv H1 F1 R1 s1 b1=>?_⟩
  obtain⟨a,vs,rfl,hs,hb⟩:=bH.mp b1;exact⟨a,rfl,⟨vs,bg R1.sub hs⟩,q _ H1 F1 R1 s1 (KI hs hb)⟩
 | ao qs =>
  cases h2;refine Fb he ag s σ H R I ⟨F,ρ,_,Rp,h1,λv H1 F1 R1 s1 b1=>?_⟩
  obtain⟨a,vs,rfl,hs,hb⟩:=bD.mp b1;exact⟨a,rfl,⟨vs,(b0 R1.sub hs).sq⟩,q _ H1 F1 R1 s1 (Hz hs.sq hb)⟩
 | _=>cases h2
noncomputable def gF(ts:bP):bP:=λρ=>(ts ρ).bind λps=>match ps with | [.int j]=>if -(2^62)<=j/\j<2^62 then some ((List.range j.toNat).map fun(i:Nat)=>.int (0+i))else none | _=>none
theorem ON{p:Pos}{ts:bP}(hg:Gl X "range")(hm:X.mg "range"=none)(ha:PA X [a] (tA X.K H₀ ab ts))(hs:starEach [a] X.env=[(false,eval a X.env)]:=by rfl):PI X tg (.Call (.Name "range" p) [a] [] pos) (tI X.K H₀ ab (gF ts)) :=
 (Hj hg hm ha hs).imp <| by
  rintro σ H Rr ⟨F,ρ,ps,R,hf,q⟩
  obtain⟨as,h1,h2⟩:=ax hf;refine⟨F,ρ,as,R,h1,λvs H1 F1 R1 s1 b1=>?_⟩
  match as,h2 with
  | [.int j],h2 =>
   obtain⟨hj,rfl⟩:=aK h2;obtain⟨v,r,rfl,bv,br⟩:=b1.cb;rw[br.b9,aM.mp bv];exact⟨j,rfl,hj.1,hj.2,q _ H1 F1 R1 s1 (tD 0 j.toNat)⟩
end
section
variable {prog:bK} {w:aW} {A:bY} {R:Result->az->Prop} {s:az}
abbrev nb(prog:bK)(w:aW)(A:bY)(env:Env)(R:Result->az->Prop):cQ:=notedBy (model prog w) A env λe s'=>R (.error e) s'
abbrev Fw(ifs:List au)(env:Env):Sem Bool:=forIn ifs true λc r=>if r=true then do let ok <-isTrue c env (eval c env);pure (ForInStep.yield ok)else pure (ForInStep.yield r)
theorem HA{elt tg iter:au}{ifs:List au}{scope:Scope}{pos:Pos}{it acc:aq}{env:Env}(I:Nat->az->Prop)
  (uO:∀n s,I n s->wpAny (model prog w) A (pyNext it) (λr s1=>match r with
   | none=>R (.ok .next) s1
   | some v=>wpAny (model prog w) A (letOwnedTupleGo tg it v) (λ_ V4=>wpAny (model prog w) A (assign tg env v) (λ_ s2=>wpAny (model prog w) A (Fw ifs env) (λok s3 =>
      if ok=true then wpAny (model prog w) A (eval elt env) (λx s4=>wpAny (model prog w) A (call (.builtin "list.append") [acc,x]) (λ_ s5=>∃m,m<n/\I m s5) (nb prog w A env R) s4) (nb prog w A env R) s3
      else ∃m,m<n/\I m s3) (nb prog w A env R) s2) (nb prog w A env R) V4) (nb prog w A env R) s1) (nb prog w A env R) s)
  (n:Nat) (h:I n s):codeAny (model prog w) A (.compLoop (.ListComp elt [⟨tg,iter,ifs,0⟩] scope pos) 0 it acc env) R s:=by
 refine codeAny_loop rfl I (λn s hI=>?_) n h
 show wpAny _ A ((compTurn (.ListComp elt [⟨tg,iter,ifs,0⟩] scope pos) 0 it acc env).onRaise (λx=>do noteFrame x env;theTreesLotGoes x)) _ _ s
 refine wpAny_noted ?_;rw[compTurn_list];refine av (wpAny_standAt (av (thn (uO n s hI) λr s1 h1=>?_)))
 cases r with
 | none=>exact aN h1
 | some v =>
  refine av (thn h1 λ_ V4 XM=>av (thn XM λ_ s2 h2=>av (thn h2 λok s3 h3=>?_)))
  cases ok with
  | false=>exact aN ⟨rfl,h3⟩
  | true=>exact av (av (thn h3 λx s4 h4=>av (thn h4 λ_ s5 h5=>aN (aN ⟨rfl,h5⟩))))
end
noncomputable def kr(env:Env):List (Str×NameKind)->List (Str×ae)->List (Str×ae)
 | [],cs=>cs
 | (n,k)::r,cs=>kr env r (if k==.free then(match env.cells.lookup n with | some c=>(n,c)::cs | none=>cs)else cs)
theorem tH{env:Env}{scope:Scope}(h:∀y∈scope.names,y.2=.free->∃c,env.cells.lookup y.1=some c):closureFor scope env=pure (kr env scope.names []):=by
 have all:∀(l:List (Str×NameKind)) (cs:List (Str×ae)),(∀y∈l,y.2=.free->∃c,env.cells.lookup y.1=some c) ->
   (forIn l cs λx r=>(match x with | (name,kind)=>if(kind==NameKind.free)=true then do let a <-cellOf env name;pure (ForInStep.yield ((name,a)::r))else pure (ForInStep.yield r):Sem (ForInStep (List (Str×ae)))))=pure (kr env l cs):=by
  intro l;induction l with
  | nil=>intro cs _;rfl
  | cons y l ih =>
   intro cs hl;obtain⟨n,k⟩:=y;rw[List.forIn_cons];by_cases hk:k=.free
   ·subst hk;obtain⟨c,hc⟩:=hl (n,.free) bo rfl;have E6:env.cells.lookup n=some c:=hc;have e1:cellOf env n=pure c:=by unfold cellOf;rw[E6]
    simp only[CQ,mO,e1,pure_bind,kr,E6];exact ih _ λy hy=>hl y (bz _ hy)
   ·have hb:(k==NameKind.free)=false:=by simpa using hk
    simp only[hb,Bool.false_eq_true,pA,pure_bind,kr];exact ih _ λy hy=>hl y (bz _ hy)
 unfold closureFor;have:=all scope.names [] h;simp only[bind_pure]at this ⊢;exact this
theorem Ao{env:Env}:∀(l:List (Str×NameKind)) (cs:List (Str×ae)) (p:Str×ae),p∈kr env l cs->p∈cs\/env.cells.lookup p.1=some p.2
 | [],_,_,h=>.inl h
 | (n,k)::r,cs,p,h=>by
  unfold kr at h;rcases Ao r _ p h with q | q
  ·split at q
   ·split at q
    ·rename_i c hc;rcases aZ.mp q with z | z
     ·subst z;exact .inr hc
     ·exact .inl z
    ·exact .inl q
   ·exact .inl q
  ·exact .inr q
theorem cZ{env:Env}{l:List (Str×NameKind)}{x:Str}{c:ae}(h:(kr env l []).lookup x=some c):env.cells.lookup x=some c:=by
 rcases Ao l [] (x,c) (ez h)with q | q
 ·cases q
 ·exact q
theorem vU{env:Env}{x:Str}:∀(l:List (Str×NameKind)) (cs:List (Str×ae)),(∃c,(x,c)∈cs)->∃c,(x,c)∈kr env l cs
 | [],_,h=>h
 | (n,k)::r,cs,⟨c,h⟩=>by
  unfold kr;refine vU r _ ⟨c,?_⟩;split
  ·split
   ·exact bz _ h
   ·exact h
  ·exact h
theorem kY{env:Env}{x:Str}:∀(l:List (Str×NameKind)) (cs:List (Str×ae)),(x,NameKind.free)∈l->(∃c,env.cells.lookup x=some c)->∃c,(x,c)∈kr env l cs
 | [],_,h,_=>by cases h
 | (n,k)::r,cs,h,hc=>by
  unfold kr;rcases aZ.mp h with z | z
  ·cases z;obtain⟨c,e⟩:=hc;refine vU r _ ⟨c,?_⟩;simp[e]
  ·exact kY r _ z hc
theorem jy{x:Str}{c:ae}:∀{l:List (Str×ae)},(x,c)∈l->∃c',l.lookup x=some c'
 | [],h=>by cases h
 | (n,d)::r,h=>by
  rw[js];cases hx:x==n with
  | true=>exact⟨d,rfl⟩
  | false =>
   rcases aZ.mp h with z | z
   ·cases z;simp at hx
   ·exact jy z
def de(X:Cx)(N:List Str)(scope:Scope)(C:ae)(s:az)(H:Hp)(fp:List ae):Cx where
 prog:=X.prog
 w:=X.w
 K:=X.K
 mg:=X.mg
 base:=X.base
 A:=X.A
 N:=N
 s₀:=s
 H₀:=H
 env:=compEnvC scope (kr X.env scope.names []) C X.env
 outer:=X.stack
 stack:=X.stack
 ex:=fp
 fn:=λ_=>false
 calm:=X.calm
 pn:=[]
 xe:=λ_ _=>False
theorem iH{env:Env}:∀(names:List (Str×NameKind)) (x:Str),(names.map fun(n,k)=>if(k==NameKind.free&&env.scope.kind==.function&&env.kindOf n==some .cell)then(n,NameKind.cell)else(n,k)).lookup x =
  (names.lookup x).map λk=>if(k==NameKind.free&&env.scope.kind==.function&&env.kindOf x==some .cell)then NameKind.cell else k
 | [],_=>rfl
 | (n,j)::r,x=>by
  have e:(if(j==NameKind.free&&env.scope.kind==.function&&env.kindOf n==some .cell)=true then(n,NameKind.cell)else(n,j))=(n,if(j==NameKind.free&&env.scope.kind==.function&&env.kindOf n==some .cell)=true then NameKind.cell else j):=by split<;>rfl
  show List.lookup x ((if(j==NameKind.free&&env.scope.kind==.function&&env.kindOf n==some .cell)=true then(n,NameKind.cell)else(n,j))::_)=_
  rw[e,js,js];cases hx:x==n with
  | true =>
   have RK:x=n:=bO hx;subst RK;rfl
  | false=>exact iH r x
theorem nX{env:Env}{names:List (Str×NameKind)}{x:Str}{k:NameKind}(h:(names.map fun(n,k)=>if(k==NameKind.free&&env.scope.kind==.function&&env.kindOf n==some .cell)then(n,NameKind.cell)else(n,k)).lookup x=some k) :
  names.lookup x=some k\/(k=.cell/\names.lookup x=some .free):=by
 rw[iH]at h;cases z:names.lookup x with
 | none=>rw[z]at h;cases h
 | some j =>
  rw[z]at h;have h:(if(j==NameKind.free&&env.scope.kind==.function&&env.kindOf x==some .cell)=true then NameKind.cell else j)=k:=bM h
  split at h
  ·rename_i hc;simp only[aO]at hc;have hj:j=.free:=bO hc.1.1;exact .inr ⟨h.symm,by rw[hj]⟩
  ·exact .inl (by rw[h])
theorem xG{env:Env}{names:List (Str×NameKind)}{x:Str}(h:names.lookup x=some .free) :
  (names.map fun(n,k)=>if(k==NameKind.free&&env.scope.kind==.function&&env.kindOf n==some .cell)then(n,NameKind.cell)else(n,k)).lookup x=some .cell \/
  (names.map fun(n,k)=>if(k==NameKind.free&&env.scope.kind==.function&&env.kindOf n==some .cell)then(n,NameKind.cell)else(n,k)).lookup x=some .free:=by
 rw[iH,h];show some (if _ then _ else _)=_\/some (if _ then _ else _)=_
 split
 ·exact .inl rfl
 ·exact .inr rfl
structure gV (X:Cx) (N:List Str) (link:List (Option Nat)) (scope:Scope):Prop where
 kind:scope.kind=.function
 cell:∀y∈scope.names,y.2≠.cell
 names:∀y∈scope.names,y.2=.local->scope.names.lookup y.1=some .local
 free:∀y∈scope.names,y.2=.free->(X.env.kindOf y.1=some .cell\/X.env.kindOf y.1=some .free)
 len:link.length=N.length
 link:∀(i j:Nat) (x:Str),link[i]?=some (some j)->N[i]?=some x->X.N[j]?=some x/\scope.names.lookup x=some .free
def inner(link:List (Option Nat))(σ:St):St:=link.map λo=>o.bind λj=>(σ[j]?).join
section
variable {X:Cx} {ag:List (ae×Obj)} {σ:St} {H:Hp} {s:az}
theorem Inv.adopt{D:ae}{o:HO}(I:Inv X ag σ H s)(hn:H D=none)(h1:X.s₀.heap.objs.size<=D)(h2:D≠X.env.locals)(h3:∀x c,X.env.cells.lookup x=some c->c≠D)(h4:∀p∈X.pn++ag,p.1≠D)
  (ho:ee X.prog X.w (upd H D o) s.heap D o):Inv X ag σ (upd H D o) s:=by
 have ne:∀b u,H b=some u->b≠D:=λb u e z=>by rw[z,hn]at e;cases e
 refine I.step (h':=s.heap) (g':=s.gens) (t':=s.toks) (d':=s.drawn) (ch:=[D]) (λb hb=>?_) (λb u _ _ _ e _=>e) (λb u _ _ _ e _=>⟨u.slots,e⟩) (λb u hc _ n=>?_) (λb u _ e=>⟨u,e⟩)
  (λb xs e=>by rw[upd_ne (ne b _ e)];exact e) (λb u xs e=>by rw[upd_ne (ne b _ e)];exact e) (λb ps e=>by rw[upd_ne (ne b _ e)];exact e) (λm hm=>hm) (λb u e=>?_) I.bare
 ·have e:b=D:=by simpa using hb
  subst e;exact⟨.inr h1,h2,h3,h4⟩
 ·rw[upd_ne (λz=>hc (by simp[z]))];exact n
 ·by_cases hb:b=D
  ·subst hb;rw[aI]at e;cases e;exact ho
  ·rw[upd_ne hb]at e;exact(I.hok b u e).zT (λ_ _ _ q=>q) (λc q=>by rw[upd_ne (ne c _ q)];exact q) (λc xs q=>by rw[upd_ne (ne c _ q)];exact q) λc ob v q=>by rw[upd_ne (ne c _ q)];exact q
theorem Dx{N:List Str}{link:List (Option Nat)}{scope:Scope}{fp:List ae}{C:ae}{h:Heap}{tk:Nat}(S:gV X N link scope)(I:Inv X ag σ H s)(hfp:∀b∈fp,xt X ag H b)
  (hC:s.heap.objs.size<=C) (ns:h.Ns C λ_=>none) (hk:∀b o,s.heap.get? b=some o->h.get? b=some o) (hex:∀b∈fp,∃o,s.heap.get? b=some o) :
  Inv (de X N scope C s H fp) [] (inner link σ) H {s with heap:=h,toks:=tk}:=by
 have sS:∀y∈scope.names,y.2=.free->∃c,X.env.cells.lookup y.1=some c:=λy hy hf=>I.ok.has y.1 (S.free y hy hf)
 have acO:∀x c,X.env.cells.lookup x=some c->c<s.heap.objs.size:=λx c e=>let ⟨v,o,ho,_⟩:=I.cell x c e;bR ho
 refine⟨⟨I.ok.mod,S.kind,I.ok.glob,I.ok.blt,hC,λx y c h1 h2=>I.ok.inj x y c (cZ h1) (cZ h2),λx hx=>?_,λx c hx=>(by cases hx),I.ok.hd,I.ok.frames,.inl rfl,λb hb=>⟨?_,λx c e=>(hfp b hb).2.2.2.2.1 x c (cZ e)⟩,I.bs,cG I.ok.bsz I.sz,
  λb o e hb=>?_,λb hb z=>?_,I.stack,I.E4,I.tabs⟩,rfl,I.bare,Un.kept hk,⟨_,ns,λi x v e1 e2 e3=>?_⟩,λx c e=>?_,I.hok.fresh hC,λx c e=>I.freeC x c (cZ e),λp hp=>(by cases hp),I.hok.kept hk,by unfold inner;rw[aB];exact S.len⟩
 ·-- Rn cells are there
  have RK:(scope.names.map fun(n,k)=>if(k==NameKind.free&&X.env.scope.kind==.function&&X.env.kindOf n==some .cell)then(n,NameKind.cell)else(n,k)).lookup x=some .cell\/(scope.names.map fun(n,k)=>if(k==NameKind.free&&X.env.scope.kind==.function&&X.env.kindOf n==some .cell)then(n,NameKind.cell)else(n,k)).lookup x=some .free:=hx
  have hf:scope.names.lookup x=some .free:=by
   rcases RK with h1 | h1
   ·rcases nX h1 with q | ⟨_,q⟩
    ·exact absurd rfl (S.cell _ (ez q))
    ·exact q
   ·rcases nX h1 with q | ⟨z,_⟩
    ·exact q
    ·cases z
  have hm:=ez hf;obtain⟨c,hc⟩:=kY scope.names [] hm (sS _ hm rfl);exact jy hc
 ·intro z;obtain⟨o,ho⟩:=hex b hb;exact absurd (cU (bR ho) (cG hC (pj z.symm))) (jv _)
 ·rcases(hfp b hb).2.2.2.1 with z | z
  ·exact I.ok.noex b o e z
  ·exact absurd (cU (bR e) (cG I.ok.bsz z)) (jv _)
 ·rcases aZ.mp (I.C7 b z)with q | q
  ·exact(hfp b hb).2.1 q
  ·exact(hfp b hb).2.2.1 q
 ·-- a slot: aeU agA from Rn acP
  have hi:i<link.length:=by
   have:=(dF.mp e2).1;unfold inner at this
   rwa [aB]at this
  unfold inner at e2;rw[cm,dG hi]at e2;have e2:(link[i].bind λj=>(σ[j]?).join)=some v:=bM e2
  cases z:link[i]with
  | none=>rw[z]at e2;cases e2
  | some j =>
   rw[z]at e2;have e2:(σ[j]?).join=some v:=e2;have e4:σ[j]?=some (some v):=by
    cases q:σ[j]? with
    | none=>rw[q]at e2;cases e2
    | some q'=>rw[q]at e2;cases q' with
     | none=>cases e2
     | some v'=>cases e2;rfl
   obtain⟨hX,hf⟩:=S.link i j x (by rw[dG hi,z]) e1
   have hm:=ez hf;have hk2:=S.free _ hm rfl;obtain⟨m,hn,hl⟩:=I.loc;obtain⟨u,r,l⟩:=hl j x v hX e4 (by rcases hk2 with q | q;exact .inr (.inl q);exact .inr (.inr q))
   refine⟨u,r,.inr ⟨xG hf,?_⟩⟩;obtain⟨c,hc⟩:=kY (env:=X.env) scope.names [] hm (sS _ hm rfl);obtain⟨c',E6⟩:=jy hc;refine⟨c',E6,?_⟩;rcases l with⟨lk,_⟩ | ⟨_,d,hd,kP⟩
   ·rcases hk2 with q | q<;>(rw[show X.env.kindOf x=some .local from lk]at q;cases q)
   ·have:=cZ E6;rw[hd]at this;cases this;exact kP.keeps hk
 ·obtain⟨v,o,ho,hd⟩:=I.cell x c (cZ e);exact⟨v,o,hk _ _ ho,hd⟩
end
abbrev TB:=V->St->Hp->(Option V->St->Hp->Prop)->Prop
def PB(X:Cx)(tg:au)(ifs:List au)(elt:au)(tb:TB):Prop :=
 ∀(ag:List (ae×Obj)) (s:az) (σ:St) (H:Hp) (v:V) (u:aq) (Q:Option V->St->Hp->Prop),Inv X ag σ H s->RelV v u->tb v σ H Q ->
  wpAny (model X.prog X.w) X.A (assign tg X.env u) (λ_ s2=>wpAny (model X.prog X.w) X.A (Fw ifs X.env) (λok s3 =>
   if ok=true then wpAny (model X.prog X.w) X.A (eval elt X.env) (λy s4=>∃v' c9 H',Inv X ag c9 H' s4/\RelV v' y/\Q (some v') c9 H') X.xe s3
   else ∃c9 H',Inv X ag c9 H' s3/\Q none c9 H') X.xe s2) X.xe s
theorem tJ{X:Cx}{tg elt:au}{g:TG}{te:TE}(hg:PG X tg g)(he:PE X elt te):PB X tg [] elt (λv σ H Q=>g v σ H λjI H1=>te jI H1 λy H2=>Q (some y) jI H2):=by
 intro ag s σ H v u Q I r h;refine thn (hg ag s σ H v u _ I r h) λ_ s2 ⟨jI,H1,I1,q1⟩=>aN ?_
 rw[if_pos rfl];exact thn (he ag s2 jI H1 _ I1 q1) λy s4 ⟨v',H2,I2,r2,q2⟩=>⟨v',jI,H2,I2,r2,q2⟩
theorem Fx{X:Cx}{tg elt c:au}{g:TG}{te:TE}{tc:TT}(hg:PG X tg g)(hc:PT X c tc)(he:PE X elt te) :
  PB X tg [c] elt (λv σ H Q=>g v σ H λjI H1=>tc jI H1 λb H2=>if b=true then te jI H2 λy H3=>Q (some y) jI H3 else Q none jI H2):=by
 intro ag s σ H v u Q I r h;refine thn (hg ag s σ H v u _ I r h) λ_ s2 ⟨jI,H1,I1,q1⟩=>?_
 refine wpAny_tests_one (thn (hc ag s2 jI H1 _ I1 q1) λb s3 ⟨H2,I2,q2⟩=>?_)
 cases b with
 | true =>
  rw[if_pos rfl]at q2 ⊢;exact thn (he ag s3 jI H2 _ I2 q2) λy s4 ⟨v',H3,I3,r3,q3⟩=>⟨v',jI,H3,I3,r3,q3⟩
 | false =>
  rw[if_neg iE]at q2 ⊢;exact⟨jI,H2,I2,q2⟩
def qG(link:List (Option Nat))(wi:TI)(tb:TB):TE:=λσ H Q=>wi σ H λJ H1=>∃W:Nat->Nat->List V->St->Hp->Prop,(∃m,W 0 m [] (inner link σ) H1)/\∀i m acc c9 H',W i m acc c9 H' ->
 (J.stop i H'/\acc.length<=sizeLine/\∀D,H' D=none->Q (.ref D) (upd H' D (.ao acc))) \/
 (J.go i H'/\acc.length<sizeLine/\∀x H2,J.yld i H' x H2->tb x c9 H2 λo rh H3=>∃m',m'<m/\W (i+1) m' (acc++o.toList) rh H3)
structure acQ (X:Cx) (ag:List (ae×Obj)) (H:Hp) (C:ae):Prop where
 free:H C=none
 above:X.s₀.heap.objs.size<=C
 loc:C≠X.env.locals
 cell:∀x c,X.env.cells.lookup x=some c->c≠C
 pin:∀p∈X.pn++ag,p.1≠C
theorem vV{X:Cx}{N:List Str}{link:List (Option Nat)}{scope:Scope}{tg iter elt:au}{ifs:List au}{pos ib:Pos}{wi:TI}{tb:TB}{use:Option (aq->Sem Unit)}{Q':cQ}{ag:List (ae×Obj)}{s:az}{σ:St}{H:Hp}{Q:VK}(hc:X.calm=true)(S:gV X N link scope)(hi:PI X tg iter wi)
  (hb:∀(C:ae) (s:az) (H:Hp) (fp:List ae),PB (de X N scope C s H fp) tg ifs elt tb) (hs:∀x,foldedSetIterable iter X.env x=pure x) (I:Inv X ag σ H s) (h:qG link wi tb σ H Q)
  (acR:∀(s5:az) (D C:ae) (H5:Hp) (m:dQ),Inv X ag σ H5 s5->Q (.ref D) H5->s5.heap.Ns C m->acQ X ag H5 C->compPost (model X.prog X.w) X.A X.xe use Q' (.ref D) C (.ok .next) s5) :
  wpAny (model X.prog X.w) X.A (comprehension (.ListComp elt [⟨tg,iter,ifs,0⟩] scope pos) scope X.env ib (newList []) false (eval iter X.env) use) Q' X.xe s:=by
 have sS:∀y∈scope.names,y.2=.free->∃c,X.env.cells.lookup y.1=some c:=λy hy hf=>I.ok.has y.1 (S.free y hy hf)
 refine wpAny_comprehension_free (use:=use) rfl hs (tH sS) S.kind S.names (thn (hi ag s σ H _ I h) λv s1 h1=>thn h1 λitv s2 h2=>?_)
 obtain⟨it,fp,tn,J,H2,rfl,I2,T,V1,f2,W,⟨m0,w0⟩,uO⟩:=h2;refine jq (wpAny_newFunctionEnv S.cell (by intro y hy;simp at hy) (λHr ns sb=>?_) S.kind)
 dsimp only at ns sb ⊢
 generalize hD:s2.heap.push {cls:=.type "list",dict:=none,data:=.seq ([]:cg).toArray}=HD at ns sb ⊢
 have hC:HD.objs.size=s2.heap.objs.size+1:=by rw[<-hD,rY]
 have hDC:s2.heap.objs.size≠HD.objs.size:=by rw[hC];exact cX (CS _)
 have KJ:s2.heap.objs.size<=HD.objs.size:=by rw[hC];exact Nat.le_succ _
 have old:∀b o,s2.heap.get? b=some o->Hr.get? b=some o:=λb o e=>by
  have fg:=bR e;exact sb.extBut b o (cX (cU fg KJ)) (cD _ (by rw[<-hD];exact cD _ e))
 have acS:Hr.get? s2.heap.objs.size=some {cls:=.type "list",data:=.seq ([]:cg).toArray} :=
  sb.extBut _ _ hDC (cD _ (by rw[<-hD];exact d0 _ rfl))
 generalize eD:s2.heap.objs.size=D at *
 generalize eC:HD.objs.size=C at *
 have exO:∀b∈fp,∃o,s2.heap.get? b=some o:=λb j2=>let ⟨o,e,_⟩:=T.obj _ _ V1 b j2;⟨o,e⟩
 have I3:∀tk,Inv (de X N scope C s2 H2 fp) [] (inner link σ) H2 {s2 with heap:=Hr,toks:=tk}:=λtk =>
  Dx S I2 f2 (by rw[eD];exact KJ) ns old exO
 have fpD:∀b∈fp,b≠D:=λb j2 z=>by
  obtain⟨o,e⟩:=exO b j2;have:=bR e;rw[z,<-eD]at this;exact jv _ this
 have Dd:∀{H':Hp} {pl:List (ae×Obj)},(∀b∈fp,H' b=none)->(∀p∈pl,p.1=D)->∀b∈fp,xt (de X N scope C s2 H2 fp) pl H' b:=λ{H' pl} hn hp b j2=>by
  have K0:=(I3 0).ok.exf b j2;exact⟨hn b j2,K0.1,(I3 0).ok.exfs b j2,.inl j2,K0.2,λp HB z=>fpD b j2 (z▸hp p (by simpa[de]using HB))⟩
 have XN:∀x c,(de X N scope C s2 H2 fp).env.cells.lookup x=some c->c≠D:=λx c e z=>by
  obtain⟨v,o,ho,_⟩:=I2.cell x c (cZ e);have:=bR ho;rw[z,<-eD]at this;exact jv _ this
 have fsD:D∉(de X N scope C s2 H2 fp).fs:=λz=>by
  obtain⟨_,o,ho,_⟩:=I2.stack.mem z;have:=bR ho;rw[<-eD]at this;exact jv _ this
 have loop:∀s3:az,s3={s2 with heap:=Hr,toks:=s2.toks+([]:List (Str×aq)).length} ->
   codeAny (model X.prog X.w) X.A (.compLoop (.ListComp elt [⟨tg,iter,ifs,0⟩] scope pos) 0 (.ref it) (.ref D) (de X N scope C s2 H2 fp).env) (compPost (model X.prog X.w) X.A X.xe use Q' (.ref D) C) s3:=by
  rintro s3 rfl
  refine HA (λn s'=>∃i acc c9 H' aX nn,Inv (de X N scope C s2 H2 fp) [] c9 H' s'/\tn i s'.heap/\(∀b∈fp,H' b=none)/\H' D=none/\s'.heap.get? D=some {cls:=.type "list",data:=.seq (aX:cg).toArray nn}/\Vals acc aX/\W i n acc c9 H') ?_ m0
   ⟨0,[],_,H2,[],0,I3 _,T.keep _ _ _ V1 λb j2 o e=>old b o e,λb j2=>(f2 b j2).1,I2.hok.fresh (pj eD),acS,.nil,w0⟩
  rintro n s4 ⟨i,acc,OM,H4,aX,nn,I4,st4,fr4,hD4,Kt,hv,w4⟩
  have XO:Inv (de X N scope C s2 H2 fp) [(D,{cls:=.type "list",data:=.seq aX.toArray nn})] OM H4 s4:=I4.nM λp hp=>by
   have e:p=(D,{cls:=.type "list",data:=.seq aX.toArray nn}):=by simpa using hp
   subst e;exact⟨Kt,hD4,hDC,fsD,λv=>by simp⟩
  have KN:∀p∈[(D,({cls:=.type "list",data:=.seq aX.toArray nn}:Obj))],p.1=D:=λp hp=>by
   have e:p=(D,{cls:=.type "list",data:=.seq aX.toArray nn}):=by simpa using hp
   rw[e]
  rcases uO i n acc OM H4 w4 with⟨stop,hz,q⟩ | ⟨go,hz,step⟩
  ·refine thn (T.done (de X N scope C s2 H2 fp) rfl rfl rfl hc i _ s4 OM H4 _ XO (Dd fr4 KN) st4 stop) λr s5 ⟨hr,I5⟩=>?_
   subst hr;obtain⟨m,hn,_⟩:=I5.loc;have pD:=I5.pin (D,{cls:=.type "list",data:=.seq aX.toArray nn}) (dH _ (cu.mpr rfl))
   have lt2:∀b o,s2.heap.get? b=some o->b≠D/\b≠C:=λb o e=>by
    have:=bR e;rw[eD]at this;exact⟨cX this,cX (cU this KJ)⟩
   have RS:X.env.locals≠D/\X.env.locals≠C:=by
    have:=I2.lt;rw[eD]at this;exact⟨cX this,cX (cU this KJ)⟩
   have I6:Inv X ag σ H4 s5:=I2.WJ I5.os I5.base I5.hok I5.bare λb j2=>⟨(f2 b j2).2.2.2.1,(f2 b j2).2.1,(f2 b j2).2.2.2.2.1,(f2 b j2).2.2.2.2.2⟩
   have I7:=Inv.adopt (D:=D) (o:=.ao acc) I6 pD.2.1 (cG I2.sz (pj eD)) (eE RS.1) (λx c e=>let ⟨v,o,ho,_⟩:=I2.cell x c e;(lt2 c o ho).1)
    (λp hp=>(lt2 p.1 p.2 (I2.pin p hp).1).1) ⟨hz,aX,nn,hv,pD.1⟩
   exact acR s5 D C _ m I7 (q D pD.2.1) hn ⟨by rw[upd_ne (eE hDC)];exact I5.free,cG (cG I2.sz (pj eD)) KJ,eE RS.2,λx c e=>let ⟨v,o,ho,_⟩:=I2.cell x c e;(lt2 c o ho).2,λp hp=>(lt2 p.1 p.2 (I2.pin p hp).1).2⟩
  ·refine thn (T.item (de X N scope C s2 H2 fp) rfl rfl rfl hc i _ s4 OM H4 _ XO (Dd fr4 KN) st4 go) λr s5 ⟨u,hr,h5⟩=>?_
   subst hr;refine thn h5 λ_ s5' ⟨x,H5,I5,r5,y5,Td,fr5⟩=>?_
   have I5':=I5.pinned (Dd fr5 KN) (T.obj _ _ Td);have fin:∀{o:Option V} {Z9:St} {H6:Hp} {s6:az},Inv (de X N scope C s2 H2 fp) ([(D,{cls:=.type "list",data:=.seq aX.toArray nn})]++sW fp s5'.heap) Z9 H6 s6 ->
     tn (i+1) s6.heap/\(∀b∈fp,H6 b=none)/\H6 D=none/\s6.heap.get? D=some {cls:=.type "list",data:=.seq aX.toArray nn}:=λ{o Z9 H6 s6} I6=>by
    have pD:=I6.pin (D,_) (dH _ (iD _ (cu.mpr rfl)));refine⟨T.keep _ _ _ Td λb j2 o e=>(I6.pin (b,o) (dH _ (dH _ (jZ j2 e)))).1,λb j2=>?_,pD.2.1,pD.1⟩
    obtain⟨o,e,d⟩:=T.obj _ _ Td b j2;exact(I6.pin (b,o) (dH _ (dH _ (jZ j2 e)))).2.1
   refine mN (hb C s2 H2 fp _ s5' OM H5 x u _ I5' r5 (step x H5 y5)) (λ_ s6 h6=>mN h6 (λok s7 h7=>?_) λ_ _ z=>False.elim z) λ_ _ z=>False.elim z
   cases ok with
   | false =>
    rw[if_neg iE]at h7 ⊢;obtain⟨σ8,H8,I8,m',hm',w8⟩:=h7;obtain⟨a1,a2,a3,a4⟩:=fin (o:=none) I8;exact⟨m',hm',i+1,_,σ8,H8,aX,nn,I8.nM (λp hp=>by cases hp),a1,a2,a3,a4,by simpa using hv,w8⟩
   | true =>
    rw[if_pos rfl]at h7 ⊢;refine mN h7 (λy s8 ⟨v8,σ8,H8,I8,r8,m',hm',w8⟩=>?_) λ_ _ z=>False.elim z
    obtain⟨a1,a2,a3,a4⟩:=fin (o:=some v8) I8;have hl:=hv.length;refine pz F.slot_list_append ⟨_,a4,rfl⟩ F.entry_list_append (F.args_list_append_2 _ _) (PySem.list_append D aX.toArray nn y (by rw[bI];lia)) ⟨a4,?_⟩
    have I9:Inv (de X N scope C s2 H2 fp) [] σ8 H8 s8:=I8.nM (λp hp=>by cases hp)
    have qq:=PySem.IsL.update a4 λz=>z.push y
    have hp:aX.toArray.push y=(aX++[y]).toArray:=by simp
    rw[hp]at qq;refine⟨m',hm',i+1,_,σ8,H8,aX++[y],_,I9.turned (it:=D) (λb o hne e=>(Cq _ _ (eE hne)).trans e) a3 hDC (.inr (pj eD)) XN (λp hp=>by simp[de]at hp),T.keep _ _ _ a1 λb j2 o e=>(Cq _ _ (eE (fpD b j2))).trans e,a2,a3,qq,hv.append (.cons r8 .nil),w8⟩
 exact codeAny_compStart_list (loop _ rfl) (T.self _ 0 _ _ _ (T.keep _ _ _ V1 λb j2 o e=>old b o e) (loop _ rfl))
theorem xH{X:Cx}{N:List Str}{link:List (Option Nat)}{scope:Scope}{tg iter elt:au}{ifs:List au}{pos:Pos}{wi:TI}{tb:TB}(hc:X.calm=true)(S:gV X N link scope)(hi:PI X tg iter wi)
  (hb:∀(C:ae) (s:az) (H:Hp) (fp:List ae),PB (de X N scope C s H fp) tg ifs elt tb) (hs:∀x,foldedSetIterable iter X.env x=pure x:=by intro _;rfl) :
  PE X (.ListComp elt [⟨tg,iter,ifs,0⟩] scope pos) (qG link wi tb):=by
 intro ag s σ H Q I h;rw[eval_ListComp];refine vV hc S hi hb hs I h λs5 D C H5 m I5 q hn L=>⟨m,hn,λh' sb=>?_⟩
 exact⟨.ref D,H5,I5.turned (t':=s5.toks) (it:=C) (λb o hne e=>(sb.2 b hne).trans e) L.free L.loc (.inr L.above) L.cell L.pin,rfl,q⟩
theorem xJ{X:Cx}{N:List Str}{link:List (Option Nat)}{scope:Scope}{tg iter elt:au}{ifs:List au}{pos ib uU:Pos}{wi:TI}{tb:TB}{i:Nat}{x:Str}(hc:X.calm=true)(hN:X.N.Nodup)(hx:X.N[i]?=some x)(hl:X.env.scope.names.lookup x=some .local)(S:gV X N link scope)(hi:PI X tg iter wi)
  (hb:∀(C:ae) (s:az) (H:Hp) (fp:List ae),PB (de X N scope C s H fp) tg ifs elt tb) (hw:swapsWith (.ListComp elt [⟨tg,iter,ifs,0⟩] scope pos) (some (.Name x ib)) uU.line X.env=pure true) (hs:∀x,foldedSetIterable iter X.env x=pure x:=by intro _;rfl) :
  PS X (.Assign [.Name x ib] (.ListComp elt [⟨tg,iter,ifs,0⟩] scope pos) uU) (nN (qG link wi tb) (gName i)):=by
 intro ag s σ H D I h;rw[exec_Assign_Name_used _ _ _ _ hw];refine av (wpAny_standAt (av ?_));show wpAny _ X.A (do let _ <-comprehension (.ListComp elt [⟨tg,iter,ifs,0⟩] scope pos) scope X.env _ (newList []) false (eval iter X.env) (some (assign (.Name x ib) X.env))) _ _ s
 refine av (thn (vV (use:=some (assign (.Name x ib) X.env)) (Q':=λ_ s'=>SP X ag D .next s') hc S hi hb hs I h λs5 a C H5 m I5 q hn L=>?_) λ_ s' q=>aN (aN q))
 show wpAny _ X.A (assign (.Name x ib) X.env (.ref a)) _ _ s5;refine wpAny_assign_Name (store_ok2 (v:=.ref a) I5 hN hx (.inl hl) rfl (λs6 I6 k=>?_) (.inr hl))
 refine⟨m,?_,λh' sb=>?_⟩
 ·obtain⟨o,es,ep,ho,r⟩:=hn;obtain⟨b,sb1,hor⟩:=k;have ne:C≠b:=λz=>by
   rcases hor with w | w
   ·exact L.loc (z.trans w)
   ·exact L.cell x b w z.symm
  exact⟨o,es,ep,(sb1.2 C ne).trans ho,r⟩
 ·exact⟨_,H5,I6.turned (t':=s6.toks) (it:=C) (λb o hne e=>(sb.2 b hne).trans e) L.free L.loc (.inr L.above) L.cell L.pin,q⟩
def kZ(bd:PV->Option bU):ay->Option ay
 | []=>some []
 | p::ps=>(bd p).bind λo=>(kZ bd ps).map λr=>o.toList++r
def iI{α β:Type}(f:α->Option β):List α->Option (List β)
 | []=>some []
 | p::ps=>(f p).bind λo=>(iI f ps).map λr=>o::r
def bA(link:List (Option Nat))(ρ:aG):aG:=link.map λo=>match o with
 | none=>.un
 | some j=>match ρ[j]? with | some (.val p)=>.val p | some (.ob o)=>.ob o | _=>.un
def KG(L:List Nat)(g:fz):Prop:=∀p ρ eM,g p ρ=some eM->eM.length=ρ.length/\∀j:Nat,j∉L->eM[j]?=ρ[j]?
def XQ(L:List Nat)(g:ay->aG->Option aG):Prop:=∀p ρ eM,g p ρ=some eM->eM.length=ρ.length/\∀j:Nat,j∉L->eM[j]?=ρ[j]?
theorem OP(i:Nat):KG [i] (ak i):=λp ρ eM h=>by
 obtain⟨_,rfl⟩:=aK h;exact⟨iq,λj hj=>bE (λz=>hj (by simp[z]))⟩
theorem OQ:XQ [] cx:=λp ρ eM h=>by
 cases p with
 | nil=>cases h;exact⟨rfl,λ_ _=>rfl⟩
 | cons _ _=>cases h
theorem KO{L M:List Nat}{g:fz}{r:ay->aG->Option aG}(h1:KG L g)(h2:XQ M r):XQ (L++M) (aw g r):=λp ρ eM h=>by
 cases p with
 | nil=>cases h
 | cons p ps =>
  obtain⟨rl,e1,e2⟩:=ax h;obtain⟨l1,k1⟩:=h1 p ρ rl e1;obtain⟨l2,k2⟩:=h2 ps rl eM e2;exact⟨l2.trans l1,λj hj=>(k2 j λz=>hj (dH _ z)).trans (k1 j λz=>hj (iD _ z))⟩
theorem T6{L:List Nat}{n:Nat}{r:ay->aG->Option aG}(h:XQ L r):KG L (cC n r):=λp ρ eM e=>by
 cases p with
 | aC ps =>
  have e:(if ps.length=n then r ps ρ else none)=some eM:=e
  by_cases hl:ps.length=n
  ·rw[if_pos hl]at e;exact h ps ρ eM e
  ·rw[if_neg hl]at e;cases e
 | _=>cases e
section
variable {K:aj} {H₀ ab F H:Hp} {ρ:aG} {σ:St}
theorem dz{link:List (Option Nat)}{i:Nat}{e:Ent}(h:(bA link ρ)[i]?=some e):e=.un\/(∃j p,link[i]?=some (some j)/\ρ[j]?=some (.val p)/\e=.val p)\/∃j o,link[i]?=some (some j)/\ρ[j]?=some (.ob o)/\e=.ob o:=by
 unfold bA at h;rw[cm]at h;cases z:link[i]? with
 | none=>rw[z]at h;cases h
 | some o =>
  rw[z]at h;cases o with
  | none=>cases h;exact .inl rfl
  | some j =>
   have h:(match ρ[j]? with | some (.val p)=>Ent.val p | some (.ob o)=>.ob o | _=>.un)=e:=bM h
   cases q:ρ[j]? with
   | none=>rw[q]at h;exact .inl h.symm
   | some w =>
    rw[q]at h;cases w with
    | val p=>exact .inr (.inl ⟨j,p,rfl,q,h.symm⟩)
    | ob p=>exact .inr (.inr ⟨j,p,rfl,q,h.symm⟩)
    | un=>exact .inl h.symm
    | own _=>exact .inl h.symm
    | ex _=>exact .inl h.symm
    | cn _=>exact .inl h.symm
theorem cY.inner(R:cY K H₀ ab F ρ σ H)(link:List (Option Nat)):cY K H F F (bA link ρ) (inner link σ) H where
 sub:=R.sub
 keep:=Same.refl _
 base:=Same.refl _
 fresh:=λa o e=>.inl e
 val:=λi p e=>by
  rcases dz e with z | ⟨j,q,h1,h2,h3⟩ | ⟨j,q,h1,h2,h3⟩
  ·cases z
  ·cases h3;obtain⟨v,e1,b1⟩:=R.val j _ h2;refine⟨v,?_,b1⟩;unfold L2.PL.inner;rw[cm,h1];show some ((σ[j]?).join)=_;rw[e1];rfl
  ·cases h3
 own:=λi ps e=>by
  rcases dz e with z | ⟨j,q,h1,h2,h3⟩ | ⟨j,q,h1,h2,h3⟩
  ·cases z
  ·cases h3
  ·cases h3
 apart:=λi j ps qs a e=>by
  rcases dz e with z | ⟨j,q,h1,h2,h3⟩ | ⟨j,q,h1,h2,h3⟩
  ·cases z
  ·cases h3
  ·cases h3
 obs:=λi p e=>by
  rcases dz e with z | ⟨j,q,h1,h2,h3⟩ | ⟨j,q,h1,h2,h3⟩
  ·cases z
  ·cases h3
  ·cases h3;obtain⟨v,e1,b1⟩:=R.obs j _ h2;refine⟨v,?_,b1⟩;unfold L2.PL.inner;rw[cm,h1];show some ((σ[j]?).join)=_;rw[e1];rfl
 cn:=λi ps e=>by
  rcases dz e with z | ⟨j,q,h1,h2,h3⟩ | ⟨j,q,h1,h2,h3⟩
  ·cases z
  ·cases h3
  ·cases h3
 len:=by unfold bA L2.PL.inner;rw[aB,aB]
theorem cY.cL{link:List (Option Nat)}{eM:aG}{L:List Nat}(R:cY K H₀ ab F eM σ H)(hl:eM.length=(bA link ρ).length)(hk:∀j:Nat,j∉L->eM[j]?=(bA link ρ)[j]?)(hL:∀i∈L,link[i]?=some none):cY K H₀ ab F (bA link ρ) σ H where
 sub:=R.sub
 keep:=R.keep
 base:=R.base
 fresh:=R.fresh
 val:=λi p e=>by
  have hi:i∉L:=λz=>by
   rcases dz e with q | ⟨j,q,h1,h2,h3⟩ | ⟨j,q,h1,h2,h3⟩
   ·cases q
   ·rw[hL i z]at h1;cases h1
   ·rw[hL i z]at h1;cases h1
  exact R.val i p ((hk i hi).trans e)
 own:=λi ps e=>by
  rcases dz e with z | ⟨j,q,h1,h2,h3⟩ | ⟨j,q,h1,h2,h3⟩
  ·cases z
  ·cases h3
  ·cases h3
 apart:=λi j ps qs a e=>by
  rcases dz e with z | ⟨j,q,h1,h2,h3⟩ | ⟨j,q,h1,h2,h3⟩
  ·cases z
  ·cases h3
  ·cases h3
 obs:=λi p e=>by
  have hi:i∉L:=λz=>by
   rcases dz e with q | ⟨j,q,h1,h2,h3⟩ | ⟨j,q,h1,h2,h3⟩
   ·cases q
   ·rw[hL i z]at h1;cases h1
   ·rw[hL i z]at h1;cases h1
  exact R.obs i p ((hk i hi).trans e)
 cn:=λi ps e=>by
  rcases dz e with z | ⟨j,q,h1,h2,h3⟩ | ⟨j,q,h1,h2,h3⟩
  ·cases z
  ·cases h3
  ·cases h3
 len:=hl.symm.trans R.len
end
def dB(link:List (Option Nat))(fi:bP)(g:fz)(fe:FE):bP:=λρ=>(fi ρ).bind λps=>if ps.length<=gH then iI (λp=>(g p (bA link ρ)).bind fe) ps else none
def er(link:List (Option Nat))(fi:bP)(g:fz)(ft:eY)(fe:FE):bP:=λρ=>(fi ρ).bind λps=>if ps.length<=gH then
 kZ (λp=>(g p (bA link ρ)).bind λeM=>(ft eM).bind λb=>if b=true then(fe eM).map some else some none) ps else none
theorem vW(f:PV->bU):∀ps,kZ (λp=>(f p).map some) ps=iI f ps
 | []=>rfl
 | p::ps=>by
  unfold kZ iI;rw[vW f ps];cases f p<;>rfl
theorem aF{α:Type}{c:Prop} [Decidable c] {x:Option α} {y:α} (h:(if c then x else none)=some y):c/\x=some y:=by
 by_cases hc:c
 ·rw[if_pos hc]at h;exact⟨hc,h⟩
 ·rw[if_neg hc]at h;cases h
section
variable {X:Cx} {H₀ ab:Hp} {N:List Str} {link:List (Option Nat)} {scope:Scope} {tg iter elt c:au} {pos:Pos} {fi:bP} {g:fz} {fe:FE} {ft:eY} {L:List Nat}
theorem Ap{tb:TB}{bd:aG->PV->Option bU}{σ:St}{H:Hp}{Q:VK}
  (hb:∀(H1 F1 F2:Hp) (ρ:aG) (p:PV) (o:bU) (x:V) (c9:St) (H2:Hp) (Q':Option V->St->Hp->Prop),bd ρ p=some o->cY X.K H1 F1 F2 (bA link ρ) c9 H2->dh X.K F2 p x ->
   (∀o' rh H3 F3,cY X.K H1 F1 F3 (bA link ρ) rh H3->Same F2 F3->bj X.K F3 o.toList (Option.toList o')->Q' o' rh H3)->tb x c9 H2 Q')
  (h:tF X.K H₀ ab (λρ=>(fi ρ).bind λps=>if ps.length<=gH then kZ (bd ρ) ps else none) σ H Q):qG link (tI X.K H₀ ab fi) tb σ H Q:=by
 obtain⟨F,ρ,rs,R,hf,q⟩:=h;obtain⟨ps,h1,h2⟩:=ax hf;obtain⟨dD,h3⟩:=aF h2;refine⟨F,ρ,ps,R,h1,λJ H1 F1 R1 s1 wk=>?_⟩
 refine⟨λi m acc c9 H'=>m=ps.length-i/\i<=ps.length/\acc.length<=i/\∃F' done rest,cY X.K H1 F1 F' (bA link ρ) c9 H'/\kZ (bd ρ) (ps.drop i)=some rest/\done++rest=rs/\bj X.K F' done acc,
  ⟨ps.length,rfl,gr _,bc _,F1,[],rs,R1.inner link,h3,rfl,.nil⟩,?_⟩
 rintro i m acc c9 H' ⟨rfl,hi,ha,F',done,rest,R',hr,hd,Dw⟩
 obtain⟨wg,XJ⟩:=wk H1 F1 F' (bA link ρ) c9 H' R' R'.base i;by_cases fg:i<ps.length
 ·have hdr:ps.drop i=ps[i]::ps.drop (i+1):=List.drop_eq_getElem_cons fg;rw[hdr]at hr;obtain⟨o,e1,e2⟩:=ax hr;cases z:kZ (bd ρ) (ps.drop (i+1))with
  | none=>rw[z]at e2;cases e2
  | some r2 =>
   rw[z]at e2;cases e2;obtain⟨go,wy⟩:=wg ps[i] (dG fg);refine .inr ⟨go,jT (cG ha hi) (jT dD (by decide)),λx H2 y=>?_⟩
   obtain⟨F2,R2,s2,b2⟩:=wy x H2 y;refine hb H1 F1 F2 ρ ps[i] o x c9 H2 _ e1 R2 b2 λo' rh H3 F3 R3 s3 b3=>⟨ps.length-(i+1),by lia,rfl,fg,?_,F3,done++o.toList,r2,R3,z,by rw[<-hd,gk],(Dw.mono (s2.trans s3)).append b3⟩
   rw[bF];cases o'<;>simp <;> lia
 ·have e:i=ps.length:=by lia
  subst e;rw[CW]at hr;cases hr;rw[gG]at hd;subst hd;refine .inl ⟨XJ (mG (bc _)),cG ha (fj dD),λD hn=>?_⟩
  exact q D acc H' F' (R1.after R'.keep R'.base R'.sub R'.fresh) (s1.trans R'.base) Dw hn
theorem tK{α:Type}{tb:α->TB}{ifs:List au}(h:∀b,PB X tg ifs elt (tb b)):PB X tg ifs elt (λv σ H Q=>∃b,tb b v σ H Q):=λag s σ H v u Q I r ⟨b,hw⟩=>h b ag s σ H v u Q I r hw
theorem k0{σ:St}{H:Hp}{Q:VK}(hg:KG L g)(hL:∀i∈L,link[i]?=some none)(h:tF X.K H₀ ab (dB link fi g fe) σ H Q) :
  qG link (tI X.K H₀ ab fi) (λv σ H Q=>∃b:Hp×Hp,tG X.K b.1 b.2 g v σ H λjI H1=>tE X.K b.1 b.2 fe jI H1 λy H2=>Q (some y) jI H2) σ H Q:=by
 refine Ap (bd:=λρ p=>((g p (bA link ρ)).bind fe).map some) (λH1 F1 F2 ρ p o x c9 H2 Q' e R2 b2 k=>⟨(H1,F1),?_⟩) ?_
 ·cases z:(g p (bA link ρ)).bind fe with
  | none=>rw[z]at e;cases e
  | some r =>
   rw[z]at e;cases e;obtain⟨eM,e1,e2⟩:=ax z;obtain⟨l1,k1⟩:=hg _ _ _ e1;exact⟨F2,bA link ρ,p,eM,R2,b2,e1,λrh H3 F3 R3 s3=>⟨F3,eM,r,R3,e2,λv H4 F4 R4 s4 b4=>k (some v) rh H4 F4 (R4.cL l1 k1 hL) (s3.trans s4) (.cons b4 .nil)⟩⟩
 ·obtain⟨F,ρ,rs,R,hf,q⟩:=h;refine⟨F,ρ,rs,R,?_,q⟩;rw[<-hf];show((fi ρ).bind λps=>if ps.length<=gH then kZ (λp=>((g p (bA link ρ)).bind fe).map some) ps else none)=(fi ρ).bind λps=>if ps.length<=gH then iI (λp=>(g p (bA link ρ)).bind fe) ps else none
  simp only[vW]
theorem T7(hc:X.calm=true)(S:gV X N link scope)(hi:PI X tg iter (tI X.K H₀ ab fi))(hg:KG L g)(hL:∀i∈L,link[i]?=some none)
  (ht:∀(C:ae) (s:az) (H:Hp) (fp:List ae) (H₀ ab:Hp),PG (de X N scope C s H fp) tg (tG X.K H₀ ab g)) (he:∀(C:ae) (s:az) (H:Hp) (fp:List ae) (H₀ ab:Hp),PE (de X N scope C s H fp) elt (tE X.K H₀ ab fe))
  (hs:∀x,foldedSetIterable iter X.env x=pure x:=by intro _;rfl):PE X (.ListComp elt [⟨tg,iter,[],0⟩] scope pos) (tF X.K H₀ ab (dB link fi g fe)) :=
 (xH hc S hi (λC s H fp=>tK λb:Hp×Hp=>tJ (ht C s H fp b.1 b.2) (he C s H fp b.1 b.2)) hs).imp λσ H Q h=>k0 hg hL h
theorem mr{σ:St}{H:Hp}{Q:VK}(hg:KG L g)(hL:∀i∈L,link[i]?=some none)(h:tF X.K H₀ ab (er link fi g ft fe) σ H Q) :
  qG link (tI X.K H₀ ab fi) (λv σ H Q=>∃b:Hp×Hp,tG X.K b.1 b.2 g v σ H λjI H1=>tT X.K b.1 b.2 ft jI H1 λt H2=>if t=true then tE X.K b.1 b.2 fe jI H2 λy H3=>Q (some y) jI H3 else Q none jI H2) σ H Q:=by
 refine Ap (bd:=λρ p=>(g p (bA link ρ)).bind λeM=>(ft eM).bind λb=>if b=true then(fe eM).map some else some none) (λH1 F1 F2 ρ p o x c9 H2 Q' e R2 b2 k=>⟨(H1,F1),?_⟩) h
 obtain⟨eM,e1,e2⟩:=ax e;obtain⟨b,e3,e4⟩:=ax e2;obtain⟨l1,k1⟩:=hg _ _ _ e1;refine⟨F2,bA link ρ,p,eM,R2,b2,e1,λrh H3 F3 R3 s3=>⟨F3,eM,b,R3,e3,λH4 F4 R4 s4=>?_⟩⟩
 cases b with
 | true =>
  rw[if_pos rfl]at e4 ⊢;cases z:fe eM with
  | none=>rw[z]at e4;cases e4
  | some r =>
   rw[z]at e4;cases e4;exact⟨F4,eM,r,R4,z,λv H5 F5 R5 s5 b5=>k (some v) rh H5 F5 (R5.cL l1 k1 hL) (s3.trans (s4.trans s5)) (.cons b5 .nil)⟩
 | false =>
  rw[if_neg iE]at e4 ⊢;cases e4;exact k none rh H4 F4 (R4.cL l1 k1 hL) (s3.trans s4) .nil
theorem OR(hc:X.calm=true)(S:gV X N link scope)(hi:PI X tg iter (tI X.K H₀ ab fi))(hg:KG L g)(hL:∀i∈L,link[i]?=some none)
  (ht:∀(C:ae) (s:az) (H:Hp) (fp:List ae) (H₀ ab:Hp),PG (de X N scope C s H fp) tg (tG X.K H₀ ab g)) (hw:∀(C:ae) (s:az) (H:Hp) (fp:List ae) (H₀ ab:Hp),PT (de X N scope C s H fp) c (tT X.K H₀ ab ft))
  (he:∀(C:ae) (s:az) (H:Hp) (fp:List ae) (H₀ ab:Hp),PE (de X N scope C s H fp) elt (tE X.K H₀ ab fe))
  (hs:∀x,foldedSetIterable iter X.env x=pure x:=by intro _;rfl):PE X (.ListComp elt [⟨tg,iter,[c],0⟩] scope pos) (tF X.K H₀ ab (er link fi g ft fe)) :=
 (xH hc S hi (λC s H fp=>tK λb:Hp×Hp=>Fx (ht C s H fp b.1 b.2) (hw C s H fp b.1 b.2) (he C s H fp b.1 b.2)) hs).imp λσ H Q h=>mr hg hL h
theorem tL{t:TE}{f:bP}{i:Nat}{st:aE}(ht:∀σ H Q,tF X.K H₀ ab f σ H Q->t σ H Q)(h:PS X st (nN t (gName i))):PS X st (tS X H₀ ab (bx (bG f) (ak i))):=h.imp λD σ H h=>by
 obtain⟨F,ρ,o,R,hf,q⟩:=h;obtain⟨p,h1,h2⟩:=ax hf;obtain⟨ps,z,rfl⟩:=vQ h1;cases w:ak i (.ao ps) ρ with
 | none=>rw[w]at h2;cases h2
 | some fA =>
  rw[w]at h2;cases h2;obtain⟨hi,rfl⟩:=aK w;refine ht _ _ _ ⟨F,ρ,ps,R,z,λa vs H1 F1 R1 s1 b1 hn=>?_⟩
  obtain⟨R2,s2⟩:=R1.laid (.ao vs) hn;exact q _ _ _ (R2.set hi (bD.mpr ⟨a,vs,rfl,ql.of aI,b1.mono s2⟩)) (s1.trans s2)
end
section
variable {K:aj} {H₀ ab F H:Hp} {ρ:aG} {σ:St}
theorem cY.KP(R:cY K H₀ ab F ρ σ H){i:Nat}(hi:i<ρ.length){a:ae}{ps:ay}{vs:List V}(hn:H a=none)(hb:bj K F ps vs):cY K H₀ ab F (ρ.set i (.own ps)) (σ.set i (some (.ref a))) (upd H a (.ao vs)) where
 sub:=R.sub.trans (eK hn)
 keep:=R.keep.trans (eK hn)
 base:=R.base
 fresh:=R.fresh
 val:=λj q e=>by
  by_cases h:i=j
  ·subst h;rw[b7 hi]at e;cases e
  ·rw[bE h]at e;rw[bE h];exact R.val j q e
 own:=λj qs e=>by
  by_cases h:i=j
  ·subst h;rw[b7 hi]at e;cases e;exact⟨a,vs,b7 (by rw[<-R.len];exact hi),aI,R.keep.free hn,R.sub.free hn,hb⟩
  ·rw[bE h]at e;rw[bE h];obtain⟨b,ws,h1,h2,h3⟩:=R.own j qs e;exact⟨b,ws,h1,by rw[upd_ne (ne_of_none h2 hn)];exact h2,h3⟩
 apart:=λj k qs rs b h1 h2 h3 h4=>by
  have old:∀(m:Nat) (l:ay),i≠m->(ρ.set i (.own ps))[m]?=some (.own l)->(σ.set i (some (.ref a)))[m]?=some (some (.ref b))->b≠a:=λm l hm e1 e2=>by
   rw[bE hm]at e1 e2;obtain⟨c,ws,q1,q2,_⟩:=R.own m l e1;rw[e2]at q1;cases q1;exact ne_of_none q2 hn
  have new:∀m:Nat,i=m->(σ.set i (some (.ref a)))[m]?=some (some (.ref b))->b=a:=λm hm e2=>by
   subst hm;rw[b7 (by rw[<-R.len];exact hi)]at e2
   cases e2;rfl
  by_cases hj:i=j
  ·by_cases hk:i=k
   ·exact hj.symm.trans hk
   ·exact absurd (new j hj h3) (old k rs hk h2 h4)
  ·by_cases hk:i=k
   ·exact absurd (new k hk h4) (old j qs hj h1 h3)
   ·rw[bE hj]at h1 h3;rw[bE hk]at h2 h4;exact R.apart j k qs rs b h1 h2 h3 h4
 obs:=λj q e=>by
  by_cases h:i=j
  ·subst h;rw[b7 hi]at e;cases e
  ·rw[bE h]at e;rw[bE h];exact R.obs j q e
 cn:=λj m e=>by
  by_cases h:i=j
  ·subst h;rw[b7 hi]at e;cases e
  ·rw[bE h]at e;rw[bE h];obtain⟨b,h1,h2,h3,h4⟩:=R.cn j m e;exact⟨b,h1,h2.mono (Same.refl F) (eK hn) λ_ _ _ z=>z,h3,h4⟩
 len:=by rw[iq,iq];exact R.len
theorem cY.mut(R:cY K H₀ ab F ρ σ H){i:Nat}{a:ae}{ps qs:ay}{ws:List V}(hi:ρ[i]?=some (.own ps))(ha:σ[i]?=some (some (.ref a)))(hb:bj K F qs ws):cY K H₀ ab F (ρ.set i (.own qs)) σ (upd H a (.ao ws)):=by
 obtain⟨a',vs,h1,h2,h3,h4,h5⟩:=R.own i ps hi;rw[ha]at h1;cases h1;have fg:i<ρ.length:=(dF.mp hi).1;have sub:∀{G:Hp},G a=none->Same G H->Same G (upd H a (.ao ws)):=λ{G} hg s b o e=>by
  rw[upd_ne (ne_of_none e hg)];exact s _ _ e
 have oth:∀(m:Nat) (l:ay),i≠m->ρ[m]?=some (.own l)->∀b,σ[m]?=some (some (.ref b))->b≠a:=λm l hm e1 b e2 z=>by
  subst z;exact hm (R.apart i m ps l b hi e1 ha e2)
 exact {
  sub:=sub h4 R.sub
  keep:=sub h3 R.keep
  base:=R.base
  fresh:=R.fresh
  val:=λj q e=>by
   by_cases h:i=j
   ·subst h;rw[b7 fg]at e;cases e
   ·rw[bE h]at e;exact R.val j q e
  own:=λj ls e=>by
   by_cases h:i=j
   ·subst h;rw[b7 fg]at e;cases e;exact⟨a,ws,ha,aI,h3,h4,hb⟩
   ·rw[bE h]at e;obtain⟨b,us,q1,q2,q3⟩:=R.own j ls e;exact⟨b,us,q1,by rw[upd_ne (oth j ls h e b q1)];exact q2,q3⟩
  apart:=λj k l1 l2 b e1 e2 e3 e4=>by
   have f:∀(m:Nat) (l:ay),(ρ.set i (.own qs))[m]?=some (.own l)->∃l',ρ[m]?=some (.own l'):=λm l e=>by
    by_cases h:i=m
    ·subst h;exact⟨_,hi⟩
    ·rw[bE h]at e;exact⟨_,e⟩
   obtain⟨m1,z1⟩:=f j l1 e1;obtain⟨m2,z2⟩:=f k l2 e2;exact R.apart j k m1 m2 b z1 z2 e3 e4
  obs:=λj q e=>by
   by_cases h:i=j
   ·subst h;rw[b7 fg]at e;cases e
   ·rw[bE h]at e;exact R.obs j q e
  cn:=λj m e=>by
   by_cases h:i=j
   ·subst h;rw[b7 fg]at e;cases e
   ·rw[bE h]at e;obtain⟨b,q1,q2,q3,q4⟩:=R.cn j m e;exact⟨b,q1,q2.to (Same.refl F) (λc o e d _=>by rw[upd_ne (J4 e h2 (λz=>by subst z;cases m<;>cases d))];exact e) (λ_ _ _ z=>z),q3,q4⟩
  len:=by rw[iq];exact R.len}
noncomputable def ei(L:Option (List Nat))(i:Nat)(e:Ent):Ent:=match e with
 | .own ps=>(match L with | none=>.val (.ao ps) | some l=>if i∈l then .val (.ao ps)else .own ps)
 | .cn (.l _)=>.un
 | .cn m=>.ob (.dct m)
 | e=>e
def gh(L:Option (List Nat)):Nat->aG->aG
 | _,[]=>[]
 | i,e::r=>ei L i e::gh L (i+1) r
def dX(L:Option (List Nat))(ρ:aG):aG:=gh L 0 ρ
theorem qH{L:Option (List Nat)}:∀(ρ:aG) (k i:Nat),(gh L k ρ)[i]?=(ρ[i]?).map (ei L (k+i))
 | [],_,_=>by simp[gh]
 | e::r,k,0=>by simp[gh]
 | e::r,k,i+1=>by
  simp only[gh,Cn];rw[qH r (k+1) i]
  congr 2
  lia
theorem KQ{L:Option (List Nat)}{ρ:aG}{i:Nat}:(dX L ρ)[i]?=(ρ[i]?).map (ei L i):=by
 unfold dX;rw[qH,jX]
theorem qI{L:Option (List Nat)}:∀(ρ:aG) (k:Nat),(gh L k ρ).length=ρ.length
 | [],_=>rfl
 | e::r,k=>by simp only[gh,bt,qI r]
theorem gW{L:Option (List Nat)}{i:Nat}{e:Ent}(h:ei L i e≠e):(∃ps,e=.own ps/\ei L i e=.val (.ao ps))\/(∃m,e=.cn m/\(∀eI,m≠.l eI)/\ei L i e=.ob (.dct m))\/∃eI,e=.cn (.l eI)/\ei L i e=.un:=by
 cases e with
 | own ps =>
  left
  refine⟨ps,rfl,?_⟩;unfold ei at h ⊢;cases L with
  | none=>rfl
  | some l =>
   simp only at h ⊢;split
   ·rfl
   ·rename_i z;rw[if_neg z]at h;exact absurd rfl h
 | cn m =>
  cases m with
  | l eI=>exact .inr (.inr ⟨eI,rfl,rfl⟩)
  | t _=>exact .inr (.inl ⟨_,rfl,(λ_ z=>nomatch z),rfl⟩)
  | k _=>exact .inr (.inl ⟨_,rfl,(λ_ z=>nomatch z),rfl⟩)
 | _=>exact absurd rfl h
def pK(K:aj)(H₀ F H:Hp)(L:Option (List Nat))(ρ:aG)(σ:St)(b:ae):Prop:=(∃(i:Nat) (e:Ent),ρ[i]?=some e/\ei L i e≠e/\σ[i]?=some (some (.ref b))) \/
 ∃(i:Nat) (eI:List ay) (bs:List ae),ρ[i]?=some (.cn (.l eI))/\iX K F H (Nw H₀ F) eI bs/\b∈bs
open Classical in
noncomputable def vX (K:aj) (H₀:Hp) (L:Option (List Nat)) (ρ:aG) (σ:St) (F H:Hp):Hp:=λb=>if pK K H₀ F H L ρ σ b then H b else F b
theorem nY{L:Option (List Nat)}{ρ:aG}{i:Nat}{e:Ent}(h:(dX L ρ)[i]?=some e):∃en,ρ[i]?=some en/\ei L i en=e:=by
 rw[KQ]at h;cases z:ρ[i]? with
 | none=>rw[z]at h;cases h
 | some en=>rw[z]at h;exact⟨en,rfl,bM h⟩
theorem iX.mem{N:ae->Prop}{eI:List ay}{bs:List ae}(h:iX K F H N eI bs){b:ae}(hb:b∈bs):N b/\∃vs,H b=some (qD b vs):=by
 unfold iX at h;induction h with
 | nil=>cases hb
 | @cons ps c eI bs r t ih =>
  rcases aZ.mp hb with rfl | hb
  ·obtain⟨g1,vs,g2,_⟩:=r;exact⟨g1,vs,g2⟩
  ·exact ih hb
theorem iX.up{N:ae->Prop}{H':Hp}{eI:List ay}{bs:List ae}(h:iX K F H N eI bs)(k:∀b∈bs,∀o,H b=some o->H' b=some o):iX K F H' N eI bs:=by
 unfold iX at h ⊢;induction h with
 | nil=>exact .nil
 | @cons ps c eI bs r t ih =>
  obtain⟨q1,vs,q2,q3⟩:=r;exact .cons ⟨q1,vs,k c bo _ q2,q3⟩ (ih λb hb=>k b (bz _ hb))
theorem cY.acU(R:cY K H₀ ab F ρ σ H){L:Option (List Nat)}{b:ae}(h:pK K H₀ F H L ρ σ b):H₀ b=none/\F b=none/\∃o,H b=some o:=by
 rcases h with⟨i,e,h1,h2,h3⟩ | ⟨i,eI,bs,h1,h2,h3⟩
 ·have cn:∀m,e=.cn m->H₀ b=none/\F b=none/\∃o,H b=some o:=λm z=>by
   subst z;obtain⟨a,q1,q2,q3,q4⟩:=R.cn i m h1;rw[h3]at q1;cases q1;obtain⟨o,q5,_⟩:=q2.obj;exact⟨q3,q4,o,q5⟩
  rcases gW h2 with⟨ps,rfl,_⟩ | ⟨m,rfl,_⟩ | ⟨eI,rfl,_⟩
  ·obtain⟨a,vs,q1,q2,q3,q4,_⟩:=R.own i ps h1;rw[h3]at q1;cases q1;exact⟨q3,q4,_,q2⟩
  ·exact cn _ rfl
  ·exact cn _ rfl
 ·obtain⟨⟨g1,g2⟩,vs,g3⟩:=h2.mem h3;exact⟨g1,g2,_,g3⟩
theorem cY.mj(R:cY K H₀ ab F ρ σ H)(L:Option (List Nat)):∃F',cY K H₀ ab F' (dX L ρ) σ H/\Same F F'/\∀(b:ae) (o:HO),pK K H₀ F H L ρ σ b->H b=some o->F' b=some o:=by
 have pos:∀{b:ae},pK K H₀ F H L ρ σ b->vX K H₀ L ρ σ F H b=H b:=λ{b} h=>by unfold vX;rw[if_pos h]
 have neg:∀{b:ae},¬pK K H₀ F H L ρ σ b->vX K H₀ L ρ σ F H b=F b:=λ{b} h=>by unfold vX;rw[if_neg h]
 have sm:Same F (vX K H₀ L ρ σ F H):=λb o e=>by
  by_cases h:pK K H₀ F H L ρ σ b
  ·rw[pos h];exact R.sub _ _ e
  ·rw[neg h];exact e
 refine⟨vX K H₀ L ρ σ F H,?_,sm,λb o e1 e2=>by rw[pos e1];exact e2⟩
 exact {
  sub:=λb o e=>by
   by_cases h:pK K H₀ F H L ρ σ b
   ·rw[pos h]at e;exact e
   ·rw[neg h]at e;exact R.sub _ _ e
  keep:=R.keep
  base:=R.base.trans sm
  fresh:=λb o e=>by
   by_cases h:pK K H₀ F H L ρ σ b
   ·exact .inr (R.acU h).1
   ·rw[neg h]at e;exact R.fresh _ _ e
  val:=λi p e=>by
   obtain⟨en,z,e⟩:=nY e;by_cases hne:ei L i en≠en
   ·rcases gW hne with⟨ps,rfl,e2⟩ | ⟨m,rfl,_,e2⟩ | ⟨eI,rfl,e2⟩
    ·rw[e2]at e;cases e;obtain⟨a,vs,q1,q2,q3,q4,q5⟩:=R.own i ps z;refine⟨_,q1,bD.mpr ⟨a,vs,rfl,ql.of ?_,q5.mono sm⟩⟩;rw[pos (.inl ⟨i,_,z,hne,q1⟩)];exact q2
    ·rw[e2]at e;cases e
    ·rw[e2]at e;cases e
   ·have hne:=rV.mp hne;rw[hne]at e;subst e;obtain⟨v,h1,h2⟩:=R.val i _ z;exact⟨v,h1,h2.mono sm⟩
  own:=λi ps e=>by
   obtain⟨en,z,e⟩:=nY e;by_cases hne:ei L i en≠en
   ·rcases gW hne with⟨qs,rfl,e2⟩ | ⟨m,rfl,_,e2⟩ | ⟨eI,rfl,e2⟩<;>(rw[e2]at e;cases e)
   ·have hne:=rV.mp hne;rw[hne]at e;subst e;obtain⟨a,vs,q1,q2,q3,q4,q5⟩:=R.own i ps z;refine⟨a,vs,q1,q2,q3,?_,q5.mono sm⟩;rw[neg]
    ·exact q4
    ·have no:∀(j:Nat) (m:Dk),ρ[j]?=some (Ent.cn m)->σ[j]?=some (some (V.ref a))->False:=λj m h1 h3=>by
      obtain⟨b,r1,r2,_⟩:=R.cn j m h1;rw[h3]at r1;cases r1;obtain⟨o,r5,r6⟩:=r2.obj;rw[q2]at r5;exact r6 _ (bM r5).symm
     rintro(⟨j,e',h1,h2,h3⟩ | ⟨j,eI,bs,h1,h2,h3⟩)
     ·rcases gW h2 with⟨rs,rfl,e2⟩ | ⟨m,rfl,_,e2⟩ | ⟨eI,rfl,e2⟩
      ·have:=R.apart i j ps rs a z h1 q1 h3;subst this;rw[z]at h1;cases h1;exact h2 hne
      ·exact no j _ h1 h3
      ·exact no j _ h1 h3
     ·obtain⟨_,ws,g3⟩:=h2.mem h3;rw[q2]at g3;cases g3
  apart:=λj k ps qs a e1 e2=>by
   have old:∀(m:Nat) (l:ay),(dX L ρ)[m]?=some (.own l)->∃l',ρ[m]?=some (.own l'):=λm l e=>by
    obtain⟨en,z,e⟩:=nY e;by_cases hne:ei L m en≠en
    ·rcases gW hne with⟨qs,rfl,e2⟩ | ⟨d,rfl,_,e2⟩ | ⟨eI,rfl,e2⟩
     ·exact⟨qs,z⟩
     ·rw[e2]at e;cases e
     ·rw[e2]at e;cases e
    ·rw[rV.mp hne]at e;subst e;exact⟨l,z⟩
   obtain⟨l1,z1⟩:=old j ps e1;obtain⟨l2,z2⟩:=old k qs e2;exact R.apart j k l1 l2 a z1 z2
  obs:=λi o e=>by
   obtain⟨en,z,e⟩:=nY e;by_cases hne:ei L i en≠en
   ·rcases gW hne with⟨qs,rfl,e2⟩ | ⟨m,rfl,hm,e2⟩ | ⟨eI,rfl,e2⟩
    ·rw[e2]at e;cases e
    ·rw[e2]at e;cases e;obtain⟨a,q1,q2,_⟩:=R.cn i m z;exact⟨a,q1,q2.toT hm sm (pos (.inl ⟨i,_,z,hne,q1⟩))⟩
    ·rw[e2]at e;cases e
   ·rw[rV.mp hne]at e;subst e;obtain⟨a,h1,h2⟩:=R.obs i _ z;exact⟨a,h1,h2.mono sm⟩
  cn:=λi m e=>by
   obtain⟨en,z,e⟩:=nY e;by_cases hne:ei L i en≠en
   ·rcases gW hne with⟨qs,rfl,e2⟩ | ⟨m,rfl,_,e2⟩ | ⟨eI,rfl,e2⟩<;>(rw[e2]at e;cases e)
   ·rw[rV.mp hne]at e;subst e;refine absurd (λq=>?_) hne
    cases m<;>cases q
  len:=by unfold dX;rw[qI];exact R.len}
theorem cY.OS{F' H':Hp}(R:cY K H₀ ab F ρ σ H){F1:Hp}(R1:cY K H₀ ab F1 (dX none ρ) σ H)(s1:Same F F1)
  (hf:∀(b:ae) (o:HO),pK K H₀ F H none ρ σ b->H b=some o->F1 b=some o)
  (R2:cY K H₀ ab F' (dX none ρ) σ H') (s2:Same F1 F'):cY K H₀ ab F ρ σ H' where
 sub:=s1.trans (s2.trans R2.sub)
 keep:=R2.keep
 base:=R.base
 fresh:=R.fresh
 val:=R.val
 own:=λi ps e=>by
  obtain⟨a,vs,h1,h2,h3,h4,h5⟩:=R.own i ps e;exact⟨a,vs,h1,R2.sub _ _ (s2 _ _ (hf a _ (.inl ⟨i,_,e,(λz=>by cases z),h1⟩) h2)),h3,h4,h5⟩
 apart:=R.apart
 obs:=R.obs
 cn:=λi m e=>by
  obtain⟨a,h1,h2,h3,h4⟩:=R.cn i m e;have up:∀b o,pK K H₀ F H none ρ σ b->H b=some o->H' b=some o:=λb o q1 q2=>R2.sub _ _ (s2 _ _ (hf b o q1 q2))
  have ha:pK K H₀ F H none ρ σ a:=.inl ⟨i,_,e,(λz=>by cases m<;>cases z),h1⟩
  refine⟨a,h1,?_,h3,h4⟩;cases m with
  | l eI =>
   obtain⟨bs,g1,g2,g3⟩:=h2;have key:∀b∈bs,∀o,H b=some o->H' b=some o:=λb hb o q=>up b o (.inr ⟨i,eI,bs,e,g3,hb⟩) q
   exact⟨bs,up a _ ha g1,g2,g3.up key⟩
  | t _=>exact h2.toT (λ_ z=>nomatch z) (Same.refl F) (by obtain⟨o,h5,_⟩:=h2.obj;rw[up a o ha h5,h5])
  | k _=>exact h2.toT (λ_ z=>nomatch z) (Same.refl F) (by obtain⟨o,h5,_⟩:=h2.obj;rw[up a o ha h5,h5])
 len:=R.len
end
section
variable {X:Cx} {H₀ ab:Hp} {e:au} {fe:FE} {gc:eY} {pos:Pos} {st:aE} {f:FS}
def fP(gc:eY):eY:=λρ=>gc (dX none ρ)
theorem XR(h:PT X e (tT X.K H₀ ab gc)):PT X e (tT X.K H₀ ab (fP gc)):=h.imp <| by
 rintro σ H Q ⟨F,ρ,b,R,hf,q⟩
 obtain⟨F1,R1,s1,k1⟩:=R.mj none;exact⟨F1,dX none ρ,b,R1,hf,λH' F' R2 s2=>q H' F (R.OS R1 s1 k1 R2 s2) (Same.refl F)⟩
def k8:PV->Bool
 | .aC _=>false
 | .ao _=>false
 | _=>true
theorem iJ{K:aj}{F F':Hp}{p:PV}{v:V}(h:k8 p=true)(b:dh K F p v):dh K F' p v:=by
 cases p with
 | cE=>exact dC.mpr (dC.mp b)
 | bl _=>exact bZ.mpr (bZ.mp b)
 | int _=>exact aM.mpr (aM.mp b)
 | str _=>exact cI.mpr (cI.mp b)
 | aC _=>cases h
 | ao _=>cases h
def eV(fe:FE):FE:=λρ=>(fe (dX none ρ)).bind λp=>if k8 p=true then some p else none
theorem KR(h:PE X e (tE X.K H₀ ab fe)):PE X e (tE X.K H₀ ab (eV fe)):=h.imp <| by
 rintro σ H Q ⟨F,ρ,p,R,hf,q⟩
 obtain⟨p',h1,h2⟩:=ax hf;obtain⟨hp,rfl⟩:=aK h2;obtain⟨F1,R1,s1,k1⟩:=R.mj none;exact⟨F1,dX none ρ,p',R1,h1,λv H' F' R2 s2 b2=>q v H' F (R.OS R1 s1 k1 R2 s2) (Same.refl F) (iJ hp b2)⟩
def me(L:List Nat)(f:FS):FS:=λρ=>f (dX (some L) ρ)
theorem XS(L:List Nat)(h:PS X st (tS X H₀ ab f)):PS X st (tS X H₀ ab (me L f)):=h.imp <| by
 rintro D σ H ⟨F,ρ,o,R,hf,q⟩
 obtain⟨F1,R1,s1,k1⟩:=R.mj (some L);exact⟨F1,_,o,R1,hf,q.mono s1⟩
def iY(i:Nat)(fo:bP):FS:=λρ=>(fo ρ).bind λps=>if i<ρ.length then some (.nx (ρ.set i (.own ps)))else none
theorem tM{i:Nat}{fo:bP}{t:TE}{D:kO}{σ:St}{H:Hp}(ht:∀σ H Q,tF X.K H₀ ab fo σ H Q->t σ H Q)(h:tS X H₀ ab (iY i fo) D σ H):nN t (gName i) D σ H:=by
 obtain⟨F,ρ,o,R,hf,q⟩:=h;obtain⟨ps,h1,h2⟩:=ax hf;obtain⟨hi,rfl⟩:=aK h2;refine ht _ _ _ ⟨F,ρ,ps,R,h1,λa vs H1 F1 R1 s1 b1 hn=>?_⟩
 exact q F1 _ _ (R1.KP hi hn b1) s1
noncomputable def gI(i:Nat)(ts:bP)(g:ay->ay->Option ay):FS:=λρ=>match ρ[i]? with
 | some (.own ps)=>(ts ρ).bind λas=>(g ps as).map λqs=>.nx (ρ.set i (.own qs))
 | _=>none
def OU(K:aj)(r:V->List V->Hp->VK->Prop)(g:ay->ay->Option ay):Prop:=∀(H₀ ab F:Hp) (ρ:aG) (σ:St) (H:Hp) (a:ae) (ps as qs:ay) (vs ws:List V) (Q:VK),g ps as=some qs->cY K H₀ ab F ρ σ H->H a=some (.ao vs)->bj K F ps vs->bj K F as ws ->
 (∀us,bj K F qs us->Q .cE (upd H a (.ao us)))->r (.ref a) ws H Q
theorem xK{i:Nat}{ts:bP}{g:ay->ay->Option ay}{r:V->List V->Hp->VK->Prop}{D:kO}{σ:St}{H:Hp}(hg:OU X.K r g)(h:tS X H₀ ab (gI i ts g) D σ H) :
  tDrop (tBM X.K "list" r (jY i) (tA X.K H₀ ab ts)) D σ H:=by
 obtain⟨F,ρ,o,R,hf,q⟩:=h;unfold gI at hf;split at hf
 ·rename_i ps z;obtain⟨as,h1,h2⟩:=ax hf;cases w:g ps as with
  | none=>rw[w]at h2;cases h2
  | some qs =>
   rw[w]at h2;cases h2;obtain⟨a,vs,e1,e2,_⟩:=R.own i ps z;refine⟨.ref a,e1,.inl ⟨rfl,vs,l8.of e2⟩,F,ρ,as,R,h1,λws H1 F1 R1 s1 b1=>?_⟩
   obtain⟨a',TU,e1',e2',_,_,e5⟩:=R1.own i ps z;rw[e1]at e1';cases e1';refine hg H₀ ab F1 ρ σ H1 a ps as qs TU ws _ w R1 e2' e5 b1 λus bu=>?_
   exact q F1 σ _ (R1.mut z e1 bu) s1
 ·cases hf
def mR:ay->ay->Option ay:=λps as=>match as with | [p]=>if ps.length<gH then some (ps++[p])else none | _=>none
def qW:ay->ay->Option ay:=λps as=>match as with
 | [.ao qs]=>if ps.length+qs.length<=gH then some (ps++qs)else none
 | [.aC qs]=>if ps.length+qs.length<=gH then some (ps++qs)else none
 | _=>none
theorem OX{K:aj}:OU K Fj mR:=by
 intro H₀ ab F ρ σ H a ps as qs vs ws Q hg R ha b1 b2 k;unfold mR at hg;split at hg
 ·rename_i p;obtain⟨hl,rfl⟩:=aK hg;obtain⟨w,r,rfl,bw,br⟩:=b2.cb;rw[br.b9];exact⟨a,vs,w,rfl,rfl,ha,by rw[<-b1.length];exact cU hl (by decide),k _ (b1.append (.cons bw .nil))⟩
 ·cases hg
def RT(K:aj)(r:V->List V->Hp->VK->Prop)(g:ay->Option ay):Prop:=∀(H₀ ab F:Hp) (ρ:aG) (σ:St) (H:Hp) (a:ae) (ps qs:ay) (vs:List V) (Q:VK),g ps=some qs->cY K H₀ ab F ρ σ H->H a=some (.ao vs)->bj K F ps vs ->
 (∀us,bj K F qs us->Q .cE (upd H a (.ao us)))->r (.ref a) [] H Q
def Aq(i:Nat)(g:ay->Option ay):FS:=λρ=>match ρ[i]? with
 | some (.own ps)=>(g ps).map λqs=>.nx (ρ.set i (.own qs))
 | _=>none
theorem KS{i:Nat}{g:ay->Option ay}{r:V->List V->Hp->VK->Prop}{D:kO}{σ:St}{H:Hp}(hg:RT X.K r g)(h:tS X H₀ ab (Aq i g) D σ H) :
  tDrop (Xa X.K "list" r (jY i)) D σ H:=by
 obtain⟨F,ρ,o,R,hf,q⟩:=h;unfold Aq at hf;split at hf
 ·rename_i ps z;cases w:g ps with
  | none=>rw[w]at hf;cases hf
  | some qs =>
   rw[w]at hf;cases hf;obtain⟨a,vs,e1,e2,_,_,e5⟩:=R.own i ps z;refine⟨.ref a,e1,.inl ⟨rfl,vs,l8.of e2⟩,?_⟩;exact hg H₀ ab F ρ σ H a ps qs vs _ w R e2 e5 λus bu=>q F σ _ (R.mut z e1 bu) (Same.refl F)
 ·cases hf
def XT(K:aj):V->List V->Hp->VK->Prop:=λx vs H Q=>∃l b xs zs,x=.ref l/\vs=[.ref b]/\H l=some (.ao xs)/\(ql K H b zs\/iA K H b zs)/\xs.length+zs.length<=sizeLine/\Q .cE (upd H l (.ao (xs++zs)))
theorem xM(l:ae)(aX:Array aq)(n:Nat)(b:ae)(more:Array aq)(n2:Nat)(dd:Option ae)(sl:Array mP)(h0:¬(!aX.isEmpty&&Builtin.List.listTooLong (aX.size+more.size))=true)(h1:aX.size<=sizeLine)(h2:aX.size+more.size<=sizeLine+1) :
  Meets (Builtin.«list.extend» ⟨[.ref l,.ref b],[]⟩) (λ_ R s=>s.heap.get? l=some {cls:=.type "list",dict:=none,data:=.seq aX n,slots:=#[]}/\s.heap.get? b=some {cls:=.type "tuple",dict:=dd,data:=.seq more n2,slots:=sl} /\
   R (.ok (.ret Value.none)) {s with heap:=s.heap.update l (Obj.mapSeq λx=>x++more),toks:=s.toks}) :=
 .of_wp λprog w A R s h=>by
  obtain⟨hp,g,d,tk,os⟩:=s;obtain⟨hl,hb,h⟩:=h;have f1:=AutoSeq1.idx_int;have f2:=AutoSeq1.sub_tuple_tuple;have f3:=AutoSeq1.sub_list_list;have f4:=AutoSeq1.sub_tuple_list;have f5:=AutoSeq1.sub_list_tuple;have hz':(aX++more).size<=sizeLine+1:=by rw[Array.size_append];exact h2
  wp_walk using (wpAny_updateSeq hl rfl (hz:=h1) (_hz':=hz')),kC hl,kC hb
  exact⟨_,rfl,h⟩
theorem T8{X:Cx}:Xb X "list.extend" (XT X.K):=by
 intro ag s σ H x vs v us Q I rx rv h;obtain⟨l,b,xs,zs,rfl,rfl,hH,hB,hz,q⟩:=h;cases rx;obtain⟨u,rfl,ru⟩:=rv.one;cases ru;obtain⟨z,aX,n,r,hl,e⟩:=I.Ow hH;have go:∀(iW:cg),Vals zs iW->(¬(!aX.toArray.isEmpty&&Builtin.List.listTooLong (aX.toArray.size+iW.toArray.size))=true/\aX.toArray.size<=sizeLine/\aX.toArray.size+iW.toArray.size<=sizeLine+1) /\
   EP X ag σ Q Value.none {s with heap:=s.heap.update l (Obj.mapSeq λx=>x++iW.toArray),toks:=s.toks}:=λiW r2=>by
  have OY:=r2.length;have hsz:aX.toArray.size+iW.toArray.size<=sizeLine:=by rw[bI,bI];lia
  refine⟨⟨?_,by rw[bI];lia,by lia⟩,.cE,_,I.Ov (its':=aX++iW) hH e (by simp) (r.append r2) (by rw[bF];lia),rfl,q⟩
  rw[Ks hsz,Bool.and_false];exact iE
 rcases hB with hB | hB
 ·obtain⟨iW,n2,r2,e2,_⟩:=I.tw hB;obtain⟨⟨g1,g2,g3⟩,g4⟩:=go iW r2;exact pz F.slot_list_extend ⟨_,e,rfl⟩ F.entry_list_extend (F.args_list_extend_2 _ _) (AutoSeq1.list_extend_list_list_0 l aX.toArray n b iW.toArray n2 g1 g2 g3) ⟨e,e2,g4⟩
 ·obtain⟨iW,r2,⟨⟨cls,dd,dat,sl⟩,e2,hc,n2,hd⟩,_⟩:=I.tuple hB;simp only at hc hd;subst hc hd;obtain⟨⟨g1,g2,g3⟩,g4⟩:=go iW r2;exact pz F.slot_list_extend ⟨_,e,rfl⟩ F.entry_list_extend (F.args_list_extend_2 _ _) (xM l aX.toArray n b iW.toArray n2 dd sl g1 g2 g3) ⟨e,e2,g4⟩
theorem OZ{K:aj}:OU K (XT K) qW:=by
 intro H₀ ab F ρ σ H a ps as qs vs ws Q hg R ha b1 b2 k;unfold qW at hg;split at hg
 ·rename_i rs;obtain⟨hl,rfl⟩:=aK hg;obtain⟨w,r,rfl,bw,br⟩:=b2.cb;rw[br.b9];obtain⟨b,zs,rfl,hs,hb⟩:=bD.mp bw;exact⟨a,b,vs,zs,rfl,rfl,ha,.inl (b0 R.sub hs),by rw[<-b1.length,<-hb.length];exact fj hl,k _ (b1.append hb)⟩
 ·rename_i rs;obtain⟨hl,rfl⟩:=aK hg;obtain⟨w,r,rfl,bw,br⟩:=b2.cb;rw[br.b9];obtain⟨b,zs,rfl,hs,hb⟩:=bH.mp bw;exact⟨a,b,vs,zs,rfl,rfl,ha,.inr (bg R.sub hs),by rw[<-b1.length,<-hb.length];exact fj hl,k _ (b1.append hb)⟩
 ·cases hg
end
def rT(K:aj)(g:PV->PV->bU):R2:=λx y H Q=>∃H₀ ab F ρ τ pa pb p,g pa pb=some p/\cY K H₀ ab F ρ τ H/\dh K F pa x/\dh K F pb y/\∀v H' F',cY K H₀ ab F' ρ τ H'->Same F F'->dh K F' p v->Q v H'
abbrev xN(X:Cx)(f:aq->aq->Sem aq)(g:PV->PV->bU):Prop:=OpR X f (rT X.K g)
theorem nZ{K:aj}{g:PV->PV->bU}:OF K (rT K g) g:=λH₀ ab F ρ σ H pa pb p x y Q e R ba bb k=>⟨H₀,ab,F,ρ,σ,pa,pb,p,e,R,ba,bb,k⟩
def sizeOk(n:Nat)(p:PV):bU:=if n<=gH then some p else none
theorem k9{n:Nat}{p q:PV}(h:sizeOk n p=some q):n<=sizeLine/\p=q:=by
 obtain⟨h1,h2⟩:=aK h;exact⟨fj h1,h2⟩
def bQ:PV->PV->bU
 | .int i,.int j=>some (.int (i+j))
 | .str x,.str y=>sizeOk (x.length+y.length) (.str (x++y))
 | .aC xs,.aC ys=>sizeOk (xs.length+ys.length) (.aC (xs++ys))
 | .ao xs,.ao ys=>sizeOk (xs.length+ys.length) (.ao (xs++ys))
 | _,_=>none
def O0:PV->PV->bU
 | .int i,.int j=>some (.int (i-j))
 | _,_=>none
noncomputable def O1:Int:=18446744073709551616
def jL:PV->PV->bU
 | .int i,.int j=>if(-O1<i/\i<O1)\/(-O1<j/\j<O1)then some (.int (i*j))else none
 | _,_=>none
def dq:PV->PV->bU
 | .int i,.int j=>if 0<j/\j<1073741824 then some (.int (i/j))else none
 | _,_=>none
def cj:PV->PV->bU
 | .int i,.int j=>if 0<j then some (.int (i%j))else none
 | _,_=>none
def Ar:PV->PV->bU
 | .int i,.int j=>if 0<=j/\j<=1000/\i.natAbs<1000 then some (.int (i^j.toNat))else none
 | _,_=>none
section
variable {X:Cx}
theorem KU{prog:bK}{w:aW}{A:bY}{E:cQ}{s:az}{t b:ae}{ws:cg}{Q:cQ}(ht:IsTup s.heap t ([]:cg).toArray)(hb:IsTup s.heap b ws.toArray)(h1:Q (.ref b) s):wpAny (model prog w) A (binaryOp .Add (.ref t) (.ref b)) Q E s:=by
 obtain⟨⟨cls,dd,data,sl⟩,ho,hc,n,hd⟩:=id ht;obtain⟨⟨acs,dd2,W4,sl2⟩,ho2,W5,n2,W6⟩:=id hb;simp only at hc hd W5 W6;subst hc hd W5 W6;exact concat_meets ⟨_,ho,rfl⟩ ⟨_,ho2,rfl⟩ CM seq_tuple_add Cp Cm (Ci _ _) (tuple_addW0 t b _ ws.toArray n n2 dd dd2 sl sl2 (by simp)) ⟨ho,ho2,h1⟩
theorem xO:xN X (binaryOp .Add) bQ:=by
 rintro ag s σ H x y v u Q I rx ry ⟨H₀,ab,F,ρ,τ,pa,pb,p,e,R,ba,bb,k⟩;unfold bQ at e;split at e
 ·cases e;rw[aM.mp ba]at rx;rw[aM.mp bb]at ry;exact Tg ag s σ H _ _ v u Q I rx ry ⟨_,_,rfl,rfl,k _ H F R (Same.refl F) (aM.mpr rfl)⟩
 ·obtain⟨hz,rfl⟩:=k9 e;rw[cI.mp ba]at rx;rw[cI.mp bb]at ry;exact Dg ag s σ H _ _ v u Q I rx ry ⟨_,_,rfl,rfl,hz,k _ H F R (Same.refl F) (cI.mpr rfl)⟩
 ·rename_i xs ys;obtain⟨hz,rfl⟩:=k9 e;obtain⟨a,vs,rfl,ha,gX⟩:=bH.mp ba;obtain⟨b,ws,rfl,hb,NP⟩:=bH.mp bb;have ha':=bg R.sub ha;have j2:=bg R.sub hb;cases xs with
  | nil =>
   rw[gX.b9]at ha';cases rx;cases ry;obtain⟨aX,r1,p1,_⟩:=I.tuple ha';obtain⟨iW,r2,p2,_⟩:=I.tuple j2;cases r1;exact KU p1 p2 ⟨.ref b,H,I,rfl,k _ H F R (Same.refl F) (bH.mpr ⟨b,ws,rfl,hb,NP⟩)⟩
  | cons x0 xr =>
   refine Oq ag s σ H _ _ v u Q I rx ry ⟨a,b,vs,ws,rfl,rfl,ha',j2,?_,by rw[<-gX.length,<-NP.length];exact hz,λz=>?_,λz q hq=>?_⟩
   ·intro z;have:=gX.length;rw[z]at this;cases this
   ·subst z;have hy:ys=[]:=by
     have:=NP.length;exact Jy this
    subst hy;rw[gG]at k;exact k _ H F R (Same.refl F) (bH.mpr ⟨a,vs,rfl,ha,gX⟩)
   ·obtain⟨R2,s2⟩:=R.laid (.aC (vs++ws)) hq;exact k _ _ _ R2 s2 (bH.mpr ⟨q,_,rfl,iA.of aI,(gX.append NP).mono s2⟩)
 ·rename_i xs ys;obtain⟨hz,rfl⟩:=k9 e;obtain⟨a,vs,rfl,ha,gX⟩:=bD.mp ba;obtain⟨b,ws,rfl,hb,NP⟩:=bD.mp bb;cases rx;cases ry;obtain⟨aX,n,r,e1,z1⟩:=I.tw (b0 R.sub ha);obtain⟨iW,n2,r2,e2,z2⟩:=I.tw (b0 R.sub hb);have hl:=r.length;have OY:=r2.length;have hz':vs.length+ws.length<=sizeLine:=by rw[<-gX.length,<-NP.length];exact hz
  refine PySem.P.add_list e1 e2 ?_ (by rw[bI,bI];lia)
  have ea:aX.toArray++iW.toArray=(aX++iW).toArray:=by simp
  rw[ea];obtain⟨R2,s2⟩:=R.laid (.ao (vs++ws)) I.fresh;exact⟨.ref _,_,I.Xc (t':=s.toks) (r.append r2) (by rw[bF];lia),rfl,k _ _ _ R2 s2 (bD.mpr ⟨_,_,rfl,ql.of aI,(gX.append NP).mono s2⟩)⟩
 ·cases e
theorem jc{f:aq->aq->Sem aq}{C:Int->Int->Prop}{h:Int->Int->V}{g:PV->PV->bU}(ho:OpR X f (rI C h))
  (hg:∀pa pb p,g pa pb=some p->∃i j,pa=.int i/\pb=.int j/\C i j/\∀F,dh X.K F p (h i j)):xN X f g:=by
 rintro ag s σ H x y v u Q I rx ry ⟨H₀,ab,F,ρ,τ,pa,pb,p,e,R,ba,bb,k⟩;obtain⟨i,j,rfl,rfl,hc,hp⟩:=hg pa pb p e;rw[aM.mp ba]at rx;rw[aM.mp bb]at ry;exact ho ag s σ H _ _ v u Q I rx ry ⟨i,j,rfl,rfl,hc,k _ H F R (Same.refl F) (hp F)⟩
theorem As{f:aq->aq->Sem aq}{h:Int->Int->V}(ho:OpR X f (De h)):OpR X f (rI (λ_ _=>True) h):=by
 rintro ag s σ H x y v u Q I rx ry ⟨i,j,h1,h2,_,q⟩;exact ho ag s σ H x y v u Q I rx ry ⟨i,j,h1,h2,q⟩
theorem O2:xN X (binaryOp .Sub) O0:=jc (As Th) λpa pb p e=>by
 unfold O0 at e;split at e
 ·cases e;exact⟨_,_,rfl,rfl,trivial,λF=>aM.mpr rfl⟩
 ·cases e
theorem O3:xN X (binaryOp .Mult) jL:=by
 rintro ag s σ H x y v u Q I rx ry ⟨H₀,ab,F,ρ,τ,pa,pb,p,e,R,ba,bb,k⟩;unfold jL at e;split at e
 ·obtain⟨hc,rfl⟩:=aK e;rw[aM.mp ba]at rx;rw[aM.mp bb]at ry;exact Ti ag s σ H _ _ v u Q I rx ry ⟨_,_,rfl,rfl,hc,k _ H F R (Same.refl F) (aM.mpr rfl)⟩
 ·cases e
theorem KW:xN X (binaryOp .FloorDiv) dq:=jc Oe λpa pb p e=>by
 unfold dq at e;split at e
 ·obtain⟨hc,rfl⟩:=aK e;exact⟨_,_,rfl,rfl,hc,λF=>aM.mpr rfl⟩
 ·cases e
theorem O4:xN X (binaryOp .Mod) cj:=jc Tj λpa pb p e=>by
 unfold cj at e;split at e
 ·obtain⟨hc,rfl⟩:=aK e;exact⟨_,_,rfl,rfl,hc,λF=>aM.mpr rfl⟩
 ·cases e
theorem O5:xN X (binaryOp .Pow) Ar:=jc Tn λpa pb p e=>by
 unfold Ar at e;split at e
 ·obtain⟨⟨h1,h2,h3⟩,rfl⟩:=aK e;exact⟨_,_,rfl,rfl,⟨h1,by lia,Nat.lt_trans h3 (by decide)⟩,λF=>aM.mpr rfl⟩
 ·cases e
end
def T9:Operator->Option (PV->PV->bU)
 | .Add=>some bQ
 | .Sub=>some O0
 | .Mult=>some jL
 | .FloorDiv=>some dq
 | .Mod=>some cj
 | .Pow=>some Ar
 | _=>none
theorem O6{X:Cx}{op:Operator}{g:PV->PV->bU}(h:T9 op=some g):xN X (binaryOp op) g:=by
 unfold T9 at h;split at h
 ·cases h;exact xO
 ·cases h;exact O2
 ·cases h;exact O3
 ·cases h;exact KW
 ·cases h;exact O4
 ·cases h;exact O5
 ·cases h
mutual
def eqT:PV->PV->Bool
 | .cE,.cE=>true
 | .bl a,.bl b=>a==b
 | .bl a,.int b=>(if a then 1 else 0)==b
 | .int a,.bl b=>a==(if b then 1 else 0)
 | .int a,.int b=>a==b
 | .str a,.str b=>a==b
 | .aC xs,.aC ys=>ku xs ys
 | .ao xs,.ao ys=>ku xs ys
 | _,_=>false
def ku:ay->ay->Bool
 | [],[]=>true
 | x::xs,y::ys=>eqT x y&&ku xs ys
 | _,_=>false
end
mutual
def jd:PV->Nat
 | .aC xs=>fm xs+1
 | .ao xs=>fm xs+1
 | _=>0
def fm:ay->Nat
 | []=>0
 | x::xs=>max (jd x) (fm xs)
end
mutual
theorem lb:∀p:PV,eqT p p=true
 | .cE=>by simp[eqT]
 | .bl _=>by simp[eqT]
 | .int _=>by simp[eqT]
 | .str _=>by simp[eqT]
 | .aC xs=>by simp only[eqT];exact pM xs
 | .ao xs=>by simp only[eqT];exact pM xs
theorem pM:∀ps:ay,ku ps ps=true
 | []=>by simp[ku]
 | x::xs=>by simp only[ku,lb x,pM xs,Bool.and_self]
end
theorem n6:∀{xs ys:ay},xs.length≠ys.length->ku xs ys=false
 | [],[],h=>absurd rfl h
 | [],_::_,_=>by simp[ku]
 | _::_,[],_=>by simp[ku]
 | x::xs,y::ys,h=>by
  simp only[ku,n6 (xs:=xs) (ys:=ys) (by simpa using h),Bool.and_false]
def lg(xs ys:ay)(j:Nat):Bool:=match xs[j]?,ys[j]? with
 | some x,some y=>eqT x y
 | _,_=>true
theorem oe:∀{xs ys:ay},xs.length=ys.length->(List.range xs.length).all (lg xs ys)=ku xs ys
 | [],[],_=>by simp[ku]
 | [],_::_,h=>by cases h
 | _::_,[],h=>by cases h
 | x::xs,y::ys,h=>by
  have ih:=oe (xs:=xs) (ys:=ys) (by simpa using h)
  rw[bt,List.range_succ_eq_map,fI,List.all_map];have e0:lg (x::xs) (y::ys) 0=eqT x y:=rfl;have e1:(lg (x::xs) (y::ys) ∘ Nat.succ)=lg xs ys:=by
   funext j
   simp[lg,Function.comp]
  rw[e0,e1,ih];simp[ku]
section
variable {X:Cx} {ag:List (ae×Obj)} {σ:St} {H F:Hp} {s:az}
theorem tN(I:Inv X ag σ H s)(hs:Same F H){a:ae}{vs ws:List V}(h1:ql X.K F a vs)(h2:iA X.K F a ws):False:=by
 obtain⟨aX,n,r,e,_⟩:=I.tw (b0 hs h1);obtain⟨iW,r2,p2,_⟩:=I.tuple (bg hs h2);obtain⟨o,e2,hc,_⟩:=p2;rw[e]at e2;cases e2;simp at hc
mutual
theorem dh.inj(I:Inv X ag σ H s)(hs:Same F H):∀{p q:PV} {v:V},dh X.K F p v->dh X.K F q v->p=q
 | .cE,q,v,h,h'=>by
  have e:=dC.mp h;subst e;cases q with
  | cE=>rfl
  | bl _=>have:=bZ.mp h';cases this
  | int _=>have:=aM.mp h';cases this
  | str _=>have:=cI.mp h';cases this
  | aC _=>obtain⟨_,_,e,_⟩:=bH.mp h';cases e
  | ao _=>obtain⟨_,_,e,_⟩:=bD.mp h';cases e
 | .bl b,q,v,h,h'=>by
  have e:=bZ.mp h;subst e;cases q with
  | cE=>have:=dC.mp h';cases this
  | bl _=>have:=bZ.mp h';cases this;rfl
  | int _=>have:=aM.mp h';cases this
  | str _=>have:=cI.mp h';cases this
  | aC _=>obtain⟨_,_,e,_⟩:=bH.mp h';cases e
  | ao _=>obtain⟨_,_,e,_⟩:=bD.mp h';cases e
 | .int b,q,v,h,h'=>by
  have e:=aM.mp h;subst e;cases q with
  | cE=>have:=dC.mp h';cases this
  | bl _=>have:=bZ.mp h';cases this
  | int _=>have:=aM.mp h';cases this;rfl
  | str _=>have:=cI.mp h';cases this
  | aC _=>obtain⟨_,_,e,_⟩:=bH.mp h';cases e
  | ao _=>obtain⟨_,_,e,_⟩:=bD.mp h';cases e
 | .str b,q,v,h,h'=>by
  have e:=cI.mp h;subst e;cases q with
  | cE=>have:=dC.mp h';cases this
  | bl _=>have:=bZ.mp h';cases this
  | int _=>have:=aM.mp h';cases this
  | str _=>have:=cI.mp h';cases this;rfl
  | aC _=>obtain⟨_,_,e,_⟩:=bH.mp h';cases e
  | ao _=>obtain⟨_,_,e,_⟩:=bD.mp h';cases e
 | .aC xs,q,v,h,h'=>by
  obtain⟨a,vs,rfl,h1,h2⟩:=bH.mp h;cases q with
  | cE=>have:=dC.mp h';cases this
  | bl _=>have:=bZ.mp h';cases this
  | int _=>have:=aM.mp h';cases this
  | str _=>have:=cI.mp h';cases this
  | aC ys =>
   obtain⟨b,ws,e,g1,g2⟩:=bH.mp h';cases e;have:=I.pE (bg hs h1) (bg hs g1);subst this;rw[bj.inj I hs h2 g2]
  | ao _ =>
   obtain⟨b,ws,e,g1,g2⟩:=bD.mp h';cases e;exact(tN I hs g1 h1).elim
 | .ao xs,q,v,h,h'=>by
  obtain⟨a,vs,rfl,h1,h2⟩:=bD.mp h;cases q with
  | cE=>have:=dC.mp h';cases this
  | bl _=>have:=bZ.mp h';cases this
  | int _=>have:=aM.mp h';cases this
  | str _=>have:=cI.mp h';cases this
  | ao ys =>
   obtain⟨b,ws,e,g1,g2⟩:=bD.mp h';cases e;have:=I.sU (b0 hs h1).sq (b0 hs g1).sq;subst this;rw[bj.inj I hs h2 g2]
  | aC _ =>
   obtain⟨b,ws,e,g1,g2⟩:=bH.mp h';cases e;exact(tN I hs h1 g1).elim
theorem bj.inj(I:Inv X ag σ H s)(hs:Same F H):∀{ps qs:ay} {vs:List V},bj X.K F ps vs->bj X.K F qs vs->ps=qs
 | [],[],_,_,_=>rfl
 | [],_::_,vs,h,h'=>by
  rw[h.b9]at h';obtain⟨_,_,e,_⟩:=h'.cb;cases e
 | _::_,[],vs,h,h'=>by
  rw[h'.b9]at h;obtain⟨_,_,e,_⟩:=h.cb;cases e
 | p::ps,q::qs,vs,h,h'=>by
  obtain⟨v,r,rfl,h1,h2⟩:=h.cb;obtain⟨v',r',e,g1,g2⟩:=h'.cb;cases e;rw[dh.inj I hs h1 g1,bj.inj I hs h2 g2]
end
end
section
variable {A:bY} {s:az}
theorem bB{u w:aq}{b c:Bool}(h:b=c)(r:SeqAt.RcAt A s u w b):SeqAt.RcAt A s u w c:=h▸r
theorem aU{u w:aq}{b c:Bool}(h:b = !c)(r:SeqAt.RcNeAt A s u w b):SeqAt.RcNeAt A s u w (!c):=h▸r
theorem Fy{u w:aq}{b:Bool}(hf:∀x t,u≠.float x t)(h:SeqAt.RcAt A s u w b)(hb:u=w->b=true):SeqAt.EqAt A s u w b:=λprog v E Q hq=>by
 unfold eqBool;refine jV ?_;refine CY (λz=>?_) (λ_=>?_)
 ·rw[hb (bO z)]at hq;exact av (se (aN hq))
 ·cases u with
  | float x t=>exact absurd rfl (hf x t)
  | _=>exact av (h prog v E _ (jU hq))
theorem vY{K:aj}{F:Hp}{p:PV}{x:V}{u:aq}(b:dh K F p x)(r:RelV x u):∀y t,u≠.float y t:=λy t z=>by
 subst z;cases p with
 | cE=>rw[dC.mp b]at r;cases r
 | bl _=>rw[bZ.mp b]at r;cases r
 | int _=>rw[aM.mp b]at r;obtain⟨_,r⟩:=r;cases r
 | str _=>rw[cI.mp b]at r;obtain⟨_,r⟩:=r;cases r
 | aC _=>obtain⟨_,_,rfl,_⟩:=bH.mp b;cases r
 | ao _=>obtain⟨_,_,rfl,_⟩:=bD.mp b;cases r
end
theorem Fz{xs ys:ay}{m n:Nat}(h1:xs.length=m)(h2:ys.length=n):((List.range (min m n)).all (lg xs ys)&&(m==n))=ku xs ys:=by
 subst h1 h2;by_cases h:xs.length=ys.length
 ·rw[<-h,Nat.min_self,oe h];simp
 ·rw[n6 h];simp[h]
section
variable {X:Cx} {ag:List (ae×Obj)} {σ:St} {H F:Hp} {s:az}
inductive KV (K:aj) (F:Hp) (s:az):PV->aq->Prop
 | cE:KV K F s .cE .none
 | bl {b:Bool}:KV K F s (.bl b) (.bool b)
 | int {i:Int} {t:Tok}:KV K F s (.int i) (.int i t)
 | str {x:Str} {t:Tok}:KV K F s (.str x) (.str x t)
 | aC {ps:ay} {a:ae} (vs:List V) (aX:cg) (h:bj K F ps vs) (r:Vals vs aX) (p:s.heap.IsTuple a aX.toArray):KV K F s (.aC ps) (.ref a)
 | ao {ps:ay} {a:ae} (vs:List V) (aX:cg) (h:bj K F ps vs) (r:Vals vs aX) (p:s.heap.IsList a aX.toArray):KV K F s (.ao ps) (.ref a)
theorem qJ(I:Inv X ag σ H s)(hs:Same F H){p:PV}{x:V}{u:aq}(b:dh X.K F p x)(r:RelV x u):KV X.K F s p u:=by
 cases p with
 | cE=>rw[dC.mp b]at r;cases r;exact .cE
 | bl _=>rw[bZ.mp b]at r;cases r;exact .bl
 | int _=>rw[aM.mp b]at r;obtain⟨t,rfl⟩:=r;exact .int
 | str _=>rw[cI.mp b]at r;obtain⟨t,rfl⟩:=r;exact .str
 | aC _ =>
  obtain⟨a,vs,rfl,h,l⟩:=bH.mp b;cases r;obtain⟨aX,rr,p,_⟩:=I.tuple (bg hs h);exact .aC vs aX l rr p
 | ao _ =>
  obtain⟨a,vs,rfl,h,l⟩:=bD.mp b;cases r;obtain⟨aX,rr,p,_⟩:=I.list (b0 hs h).sq;exact .ao vs aX l rr p.isList
mutual
theorem Dy(I:Inv X ag σ H s)(hs:Same F H):∀(p q:PV) (A:bY) (u w:aq),KV X.K F s p u->KV X.K F s q w->A.units+jd p<cLine->SeqAt.RcAt A s u w (eqT p q)
 | .cE,q,A,u,w,ha,hb,hu=>by
  have ie:A.units<cLine:=by lia
  cases ha;cases hb with
  | cE=>exact bB (by simp[eqT]) (SeqAt.RcAt.none_none)
  | bl=>exact bB (by simp[eqT]) (SeqAt.RcAt.none_bool _)
  | int=>exact bB (by simp[eqT]) (SeqAt.RcAt.none_int _ _)
  | str=>exact bB (by simp[eqT]) (SeqAt.RcAt.none_str _ _)
  | aC pN mf lR rR pR=>exact bB (by simp[eqT]) (SeqAt.RcAt.none_tuple pR ie)
  | ao pN mf lR rR pR=>exact bB (by simp[eqT]) (SeqAt.RcAt.none_list pR ie)
 | .bl k,q,A,u,w,ha,hb,hu=>by
  have ie:A.units<cLine:=by lia
  cases ha;cases hb with
  | cE=>exact bB (by simp[eqT]) (SeqAt.RcAt.bool_none _)
  | bl=>exact bB (by simp[eqT]) (SeqAt.RcAt.bool_bool _ _)
  | int=>exact bB (by simp[eqT]) (SeqAt.RcAt.bool_int _ _ _)
  | str=>exact bB (by simp[eqT]) (SeqAt.RcAt.bool_str _ _ _)
  | aC pN mf lR rR pR=>exact bB (by simp[eqT]) (SeqAt.RcAt.bool_tuple _ pR ie)
  | ao pN mf lR rR pR=>exact bB (by simp[eqT]) (SeqAt.RcAt.bool_list _ pR ie)
 | .int k,q,A,u,w,ha,hb,hu=>by
  have ie:A.units<cLine:=by lia
  cases ha;cases hb with
  | cE=>exact bB (by simp[eqT]) (SeqAt.RcAt.int_none _ _)
  | bl=>exact bB (by simp[eqT]) (SeqAt.RcAt.int_bool _ _ _)
  | int=>exact bB (by simp[eqT]) (SeqAt.RcAt.int_int _ _ _ _)
  | str=>exact bB (by simp[eqT]) (SeqAt.RcAt.int_str _ _ _ _)
  | aC pN mf lR rR pR=>exact bB (by simp[eqT]) (SeqAt.RcAt.int_tuple _ _ pR ie)
  | ao pN mf lR rR pR=>exact bB (by simp[eqT]) (SeqAt.RcAt.int_list _ _ pR ie)
 | .str k,q,A,u,w,ha,hb,hu=>by
  have ie:A.units<cLine:=by lia
  cases ha;cases hb with
  | cE=>exact bB (by simp[eqT]) (SeqAt.RcAt.str_none _ _)
  | bl=>exact bB (by simp[eqT]) (SeqAt.RcAt.str_bool _ _ _)
  | int=>exact bB (by simp[eqT]) (SeqAt.RcAt.str_int _ _ _ _)
  | str=>exact bB (by simp[eqT]) (SeqAt.RcAt.str_str _ _ _ _)
  | aC pN mf lR rR pR=>exact bB (by simp[eqT]) (SeqAt.RcAt.str_tuple _ _ pR ie)
  | ao pN mf lR rR pR=>exact bB (by simp[eqT]) (SeqAt.RcAt.str_list _ _ pR ie)
 | .aC xs,q,A,u,w,ha,hb,hu=>by
  have ie:A.units<cLine:=by lia
  cases ha with
  | aC Ua Dz lL rL pL =>
  cases hb with
  | cE=>exact bB (by simp[eqT]) (SeqAt.RcAt.tuple_none pL ie)
  | bl=>exact bB (by simp[eqT]) (SeqAt.RcAt.tuple_bool _ pL ie)
  | int=>exact bB (by simp[eqT]) (SeqAt.RcAt.tuple_int _ _ pL ie)
  | str=>exact bB (by simp[eqT]) (SeqAt.RcAt.tuple_str _ _ pL ie)
  | @aC ys _ pN mf lR rR pR =>
   have e1:xs.length=Dz.toArray.size:=by rw[bI,<-rL.length,<-lL.length]
   have e2:ys.length=mf.toArray.size:=by rw[bI,<-rR.length,<-lR.length]
   refine bB ?_ (SeqAt.RcAt.tuples (e:=lg xs ys) pL pR ie λj h1 h2=>?_)
   ·rw[Fz e1 e2];simp[eqT]
   ·exact og I hs xs ys A.in1 Ua pN Dz mf lL lR rL rR (by rw[kH];simp only[jd]at hu;lia) j (by simpa using h1) (by simpa using h2)
  | ao pN mf lR rR pR=>exact bB (by simp[eqT]) (SeqAt.RcAt.tuple_list pL pR ie)
 | .ao xs,q,A,u,w,ha,hb,hu=>by
  have ie:A.units<cLine:=by lia
  cases ha with
  | ao Ua Dz lL rL pL =>
  cases hb with
  | cE=>exact bB (by simp[eqT]) (SeqAt.RcAt.list_none pL ie)
  | bl=>exact bB (by simp[eqT]) (SeqAt.RcAt.list_bool _ pL ie)
  | int=>exact bB (by simp[eqT]) (SeqAt.RcAt.list_int _ _ pL ie)
  | str=>exact bB (by simp[eqT]) (SeqAt.RcAt.list_str _ _ pL ie)
  | aC pN mf lR rR pR=>exact bB (by simp[eqT]) (SeqAt.RcAt.list_tuple pL pR ie)
  | @ao ys _ pN mf lR rR pR =>
   by_cases hl:xs.length=ys.length
   ·have sz:Dz.toArray.size=mf.toArray.size:=by rw[bI,bI,<-rL.length,<-rR.length,<-lL.length,<-lR.length];exact hl
    have e0:Dz.toArray.size=xs.length:=by rw[bI,<-rL.length,<-lL.length]
    refine bB ?_ (SeqAt.RcAt.lists (e:=lg xs ys) pL pR sz ie λj h1 h2=>?_)
    ·rw[e0,oe hl];simp[eqT]
    ·exact og I hs xs ys A.in1 Ua pN Dz mf lL lR rL rR (by rw[kH];simp only[jd]at hu;lia) j (by simpa using h1) (by simpa using h2)
   ·have sz:(Dz.toArray.size != mf.toArray.size)=true:=by rw[bI,bI,<-rL.length,<-rR.length,<-lL.length,<-lR.length];simpa using hl
    exact bB (by simp[eqT,n6 hl]) (SeqAt.RcAt.lists_lengths pL pR sz ie)
theorem og(I:Inv X ag σ H s)(hs:Same F H):∀(ps qs:ay) (A:bY) (vs ws:List V) (us zs:cg),bj X.K F ps vs->bj X.K F qs ws->Vals vs us->Vals ws zs->A.units+fm ps<cLine ->
  ∀(j:Nat) (h1:j<us.length) (h2:j<zs.length),SeqAt.EqAt A s us[j] zs[j] (lg ps qs j)
 | [],qs,A,vs,ws,us,zs,b1,b2,r1,r2,hu=>λj h1 h2=>by
  rw[b1.b9]at r1;cases r1;cases h1
 | p::ps,qs,A,vs,ws,us,zs,b1,b2,r1,r2,hu=>λj h1 h2=>by
  obtain⟨v,vr,rfl,c1,d1⟩:=b1.cb;cases qs with
  | nil =>
   rw[b2.b9]at r2;cases r2;cases h2
  | cons q qs =>
   obtain⟨w,wr,rfl,c2,d2⟩:=b2.cb;cases r1 with
   | cons ra rr =>
    cases r2 with
    | cons sa sr =>
     have hm:A.units+jd p<cLine/\A.units+fm ps<cLine:=by
      simp only[fm]at hu
      lia
     cases j with
     | zero =>
      refine Fy (vY c1 ra) (Dy I hs p q A _ _ (qJ I hs c1 ra) (qJ I hs c2 sa) hm.1) λz=>?_
      simp only[List.getElem_cons_zero]at z;rw[<-z]at sa;have e:=ra.inj sa;subst e;rw[dh.inj I hs c1 c2];exact lb q
     | succ j =>
      exact og I hs ps qs A _ _ _ _ d1 d2 rr sr hm.2 j (by simpa using h1) (by simpa using h2)
end
theorem Ub(I:Inv X ag σ H s)(hs:Same F H){p q:PV}{A:bY}{x y:V}{u w:aq}(b1:dh X.K F p x)(b2:dh X.K F q y)(r1:RelV x u)(r2:RelV y w)(hu:A.units+jd p<cLine):SeqAt.EqAt A s u w (eqT p q):=by
 refine Fy (vY b1 r1) (Dy I hs p q A _ _ (qJ I hs b1 r1) (qJ I hs b2 r2) hu) λz=>?_
 rw[<-z]at r2;have e:=r1.inj r2;subst e;rw[dh.inj I hs b1 b2];exact lb q
theorem Uc(I:Inv X ag σ H s)(hs:Same F H):∀(p q:PV) (A:bY) (u w:aq),KV X.K F s p u->KV X.K F s q w->A.units+jd p<cLine->SeqAt.RcNeAt A s u w (!(eqT p q))
 | .cE,q,A,u,w,ha,hb,hu=>by
  have ie:A.units<cLine:=by lia
  cases ha;cases hb with
  | cE=>exact aU (by simp[eqT]) (SeqAt.RcNeAt.none_none)
  | bl=>exact aU (by simp[eqT]) (SeqAt.RcNeAt.none_bool _)
  | int=>exact aU (by simp[eqT]) (SeqAt.RcNeAt.none_int _ _)
  | str=>exact aU (by simp[eqT]) (SeqAt.RcNeAt.none_str _ _)
  | aC pN mf lR rR pR=>exact aU (by simp[eqT]) (SeqAt.RcNeAt.none_tuple pR ie)
  | ao pN mf lR rR pR=>exact aU (by simp[eqT]) (SeqAt.RcNeAt.none_list pR ie)
 | .bl k,q,A,u,w,ha,hb,hu=>by
  have ie:A.units<cLine:=by lia
  cases ha;cases hb with
  | cE=>exact aU (by simp[eqT]) (SeqAt.RcNeAt.bool_none _)
  | bl=>exact aU (by simp[eqT]) (SeqAt.RcNeAt.bool_bool _ _)
  | int=>exact aU (by simp[eqT]) (SeqAt.RcNeAt.bool_int _ _ _)
  | str=>exact aU (by simp[eqT]) (SeqAt.RcNeAt.bool_str _ _ _)
  | aC pN mf lR rR pR=>exact aU (by simp[eqT]) (SeqAt.RcNeAt.bool_tuple _ pR ie)
  | ao pN mf lR rR pR=>exact aU (by simp[eqT]) (SeqAt.RcNeAt.bool_list _ pR ie)
 | .int k,q,A,u,w,ha,hb,hu=>by
  have ie:A.units<cLine:=by lia
  cases ha;cases hb with
  | cE=>exact aU (by simp[eqT]) (SeqAt.RcNeAt.int_none _ _)
  | bl=>exact aU (by simp[eqT]) (SeqAt.RcNeAt.int_bool _ _ _)
  | int=>exact aU (by simp[eqT]) (SeqAt.RcNeAt.int_int _ _ _ _)
  | str=>exact aU (by simp[eqT]) (SeqAt.RcNeAt.int_str _ _ _ _)
  | aC pN mf lR rR pR=>exact aU (by simp[eqT]) (SeqAt.RcNeAt.int_tuple _ _ pR ie)
  | ao pN mf lR rR pR=>exact aU (by simp[eqT]) (SeqAt.RcNeAt.int_list _ _ pR ie)
 | .str k,q,A,u,w,ha,hb,hu=>by
  have ie:A.units<cLine:=by lia
  cases ha;cases hb with
  | cE=>exact aU (by simp[eqT]) (SeqAt.RcNeAt.str_none _ _)
  | bl=>exact aU (by simp[eqT]) (SeqAt.RcNeAt.str_bool _ _ _)
  | int=>exact aU (by simp[eqT]) (SeqAt.RcNeAt.str_int _ _ _ _)
  | str=>exact aU (by simp[eqT]) (SeqAt.RcNeAt.str_str _ _ _ _)
  | aC pN mf lR rR pR=>exact aU (by simp[eqT]) (SeqAt.RcNeAt.str_tuple _ _ pR ie)
  | ao pN mf lR rR pR=>exact aU (by simp[eqT]) (SeqAt.RcNeAt.str_list _ _ pR ie)
 | .aC xs,q,A,u,w,ha,hb,hu=>by
  have ie:A.units<cLine:=by lia
  cases ha with
  | aC Ua Dz lL rL pL =>
  cases hb with
  | cE=>exact aU (by simp[eqT]) (SeqAt.RcNeAt.tuple_none pL ie)
  | bl=>exact aU (by simp[eqT]) (SeqAt.RcNeAt.tuple_bool _ pL ie)
  | int=>exact aU (by simp[eqT]) (SeqAt.RcNeAt.tuple_int _ _ pL ie)
  | str=>exact aU (by simp[eqT]) (SeqAt.RcNeAt.tuple_str _ _ pL ie)
  | @aC ys _ pN mf lR rR pR =>
   have e1:xs.length=Dz.toArray.size:=by rw[bI,<-rL.length,<-lL.length]
   have e2:ys.length=mf.toArray.size:=by rw[bI,<-rR.length,<-lR.length]
   refine aU ?_ (SeqAt.RcNeAt.tuples (e:=lg xs ys) pL pR ie λj h1 h2=>?_)
   ·rw[Fz e1 e2];simp[eqT]
   ·exact og I hs xs ys A.in1 Ua pN Dz mf lL lR rL rR (by rw[kH];simp only[jd]at hu;lia) j (by simpa using h1) (by simpa using h2)
  | ao pN mf lR rR pR=>exact aU (by simp[eqT]) (SeqAt.RcNeAt.tuple_list pL pR ie)
 | .ao xs,q,A,u,w,ha,hb,hu=>by
  have ie:A.units<cLine:=by lia
  cases ha with
  | ao Ua Dz lL rL pL =>
  cases hb with
  | cE=>exact aU (by simp[eqT]) (SeqAt.RcNeAt.list_none pL ie)
  | bl=>exact aU (by simp[eqT]) (SeqAt.RcNeAt.list_bool _ pL ie)
  | int=>exact aU (by simp[eqT]) (SeqAt.RcNeAt.list_int _ _ pL ie)
  | str=>exact aU (by simp[eqT]) (SeqAt.RcNeAt.list_str _ _ pL ie)
  | aC pN mf lR rR pR=>exact aU (by simp[eqT]) (SeqAt.RcNeAt.list_tuple pL pR ie)
  | @ao ys _ pN mf lR rR pR =>
   by_cases hl:xs.length=ys.length
   ·have sz:Dz.toArray.size=mf.toArray.size:=by rw[bI,bI,<-rL.length,<-rR.length,<-lL.length,<-lR.length];exact hl
    have e0:Dz.toArray.size=xs.length:=by rw[bI,<-rL.length,<-lL.length]
    refine aU ?_ (SeqAt.RcNeAt.lists (e:=lg xs ys) pL pR sz ie λj h1 h2=>?_)
    ·rw[e0,oe hl];simp[eqT]
    ·exact og I hs xs ys A.in1 Ua pN Dz mf lL lR rL rR (by rw[kH];simp only[jd]at hu;lia) j (by simpa using h1) (by simpa using h2)
   ·have sz:(Dz.toArray.size != mf.toArray.size)=true:=by rw[bI,bI,<-rL.length,<-rR.length,<-lL.length,<-lR.length];simpa using hl
    exact aU (by simp[eqT,n6 hl]) (SeqAt.RcNeAt.lists_lengths pL pR sz ie)
end
noncomputable def iZ:Nat:=1000
def eu(p q:PV):bU:=if jd p<=iZ then some (.bl (eqT p q))else none
def rm(p q:PV):bU:=if jd p<=iZ then some (.bl (!eqT p q))else none
section
variable {X:Cx}
theorem Ud(hu:X.A.units+1150<cLine):xN X (compareOp .Eq) eu:=by
 rintro ag s σ H x y v u Q I rx ry ⟨H₀,ab,F,ρ,τ,pa,pb,p,e,R,ba,bb,k⟩;obtain⟨hd,rfl⟩:=aK e;have zI:jd pa<=1000:=hd;exact Dy I R.sub pa pb X.A v u (qJ I R.sub ba rx) (qJ I R.sub bb ry) (by lia) X.prog X.w X.xe _ ⟨.bl _,H,I,rfl,k _ H F R (Same.refl F) (bZ.mpr rfl)⟩
theorem Ue(hu:X.A.units+1150<cLine):xN X (compareOp .NotEq) rm:=by
 rintro ag s σ H x y v u Q I rx ry ⟨H₀,ab,F,ρ,τ,pa,pb,p,e,R,ba,bb,k⟩;obtain⟨hd,rfl⟩:=aK e;have zI:jd pa<=1000:=hd;exact Uc I R.sub pa pb X.A v u (qJ I R.sub ba rx) (qJ I R.sub bb ry) (by lia) X.prog X.w X.xe _ ⟨.bl _,H,I,rfl,k _ H F R (Same.refl F) (bZ.mpr rfl)⟩
def Jp:PV->PV->bU
 | .int i,.int j=>some (.bl (decide (i<j)))
 | _,_=>none
def O7:PV->PV->bU
 | .int i,.int j=>some (.bl (decide (i<=j)))
 | _,_=>none
def gtO:PV->PV->bU
 | .int i,.int j=>some (.bl (decide (j<i)))
 | _,_=>none
def geO:PV->PV->bU
 | .int i,.int j=>some (.bl (decide (j<=i)))
 | _,_=>none
theorem Ug:xN X (compareOp .Lt) Jp:=jc (As RB) λpa pb p e=>by
 unfold Jp at e;split at e
 ·cases e;exact⟨_,_,rfl,rfl,trivial,λF=>bZ.mpr rfl⟩
 ·cases e
theorem Uh:xN X (compareOp .LtE) O7:=jc (As WV) λpa pb p e=>by
 unfold O7 at e;split at e
 ·cases e;exact⟨_,_,rfl,rfl,trivial,λF=>bZ.mpr rfl⟩
 ·cases e
theorem Ui:xN X (compareOp .Gt) gtO:=jc (As WX) λpa pb p e=>by
 unfold gtO at e;split at e
 ·cases e;exact⟨_,_,rfl,rfl,trivial,λF=>bZ.mpr rfl⟩
 ·cases e
theorem Uj:xN X (compareOp .GtE) geO:=jc (As WY) λpa pb p e=>by
 unfold geO at e;split at e
 ·cases e;exact⟨_,_,rfl,rfl,trivial,λF=>bZ.mpr rfl⟩
 ·cases e
def KY:PV->Bool
 | .cE=>true
 | _=>false
def V5:PV->PV->bU
 | p,.cE=>some (.bl (KY p))
 | _,_=>none
def Uk:PV->PV->bU
 | p,.cE=>some (.bl (!KY p))
 | _,_=>none
theorem FA{K:aj}{F:Hp}{p:PV}{x:V}(b:dh K F p x):decide (x=.cE)=KY p:=by
 cases p with
 | cE=>rw[dC.mp b];rfl
 | bl _=>rw[bZ.mp b];rfl
 | int _=>rw[aM.mp b];rfl
 | str _=>rw[cI.mp b];rfl
 | aC _=>obtain⟨_,_,rfl,_⟩:=bH.mp b;rfl
 | ao _=>obtain⟨_,_,rfl,_⟩:=bD.mp b;rfl
theorem Ul:xN X (compareOp .Is) V5:=by
 rintro ag s σ H x y v u Q I rx ry ⟨H₀,ab,F,ρ,τ,pa,pb,p,e,R,ba,bb,k⟩;unfold V5 at e;split at e
 ·cases e;refine To ag s σ H x y v u Q I rx ry ⟨dC.mp bb,k _ H F R (Same.refl F) (bZ.mpr ?_)⟩;rw[FA ba]
 ·cases e
theorem O8:xN X (compareOp .IsNot) Uk:=by
 rintro ag s σ H x y v u Q I rx ry ⟨H₀,ab,F,ρ,τ,pa,pb,p,e,R,ba,bb,k⟩;unfold Uk at e;split at e
 ·rename_i pa';cases e;refine Og ag s σ H x y v u Q I rx ry ⟨dC.mp bb,k _ H F R (Same.refl F) (bZ.mpr ?_)⟩;rw[FA ba]
 ·cases e
def KZ(p:PV)(ps:ay):Bool:=ps.any λq=>eqT q p
def rn(neg:Bool):PV->PV->bU
 | p,.ao ps=>if fm ps<=iZ then some (.bl (if neg then !KZ p ps else KZ p ps))else none
 | p,.aC ps=>if fm ps<=iZ then some (.bl (if neg then !KZ p ps else KZ p ps))else none
 | _,_=>none
open Classical in
noncomputable def mh (K:aj) (F:Hp) (p:PV) (u:aq):Bool:=if h:∃q x,dh K F q x/\RelV x u then eqT h.choose p else false
theorem FC{ag:List (ae×Obj)}{σ:St}{H F:Hp}{s:az}(I:Inv X ag σ H s)(hs:Same F H){p q:PV}{x:V}{u:aq}(b:dh X.K F q x)(r:RelV x u):mh X.K F p u=eqT q p:=by
 have h:∃q x,dh X.K F q x/\RelV x u:=⟨q,x,b,r⟩
 unfold mh;rw[dif_pos h];obtain⟨y,b',r'⟩:=h.choose_spec;have e:=r.inj r';subst e;rw[dh.inj I hs b' b]
theorem oh{ag:List (ae×Obj)}{σ:St}{H F:Hp}{s:az}(I:Inv X ag σ H s)(hs:Same F H){p:PV}:∀{ps:ay} {vs:List V} {us:cg},bj X.K F ps vs->Vals vs us->us.any (mh X.K F p)=KZ p ps
 | [],_,_,b,r=>by
  rw[b.b9]at r;cases r;rfl
 | q::ps,_,_,b,r=>by
  obtain⟨v,vr,rfl,c1,d1⟩:=b.cb;cases r with
  | cons ra rr =>
   rw[ph,FC I hs c1 ra,oh I hs d1 rr];rfl
theorem oi{ag:List (ae×Obj)}{σ:St}{H F:Hp}{s:az}{A:bY}(I:Inv X ag σ H s)(hs:Same F H){p:PV}{y:V}{w:aq}(bp:dh X.K F p y)(rp:RelV y w) :
  ∀{ps:ay} {vs:List V} {us:cg},bj X.K F ps vs->Vals vs us->A.units+fm ps<cLine->∀u∈us,SeqAt.EqAt A s u w (mh X.K F p u)
 | [],_,_,b,r,_=>λu hu=>by
  rw[b.b9]at r;cases r;cases hu
 | q::ps,_,_,b,r,hz=>λu hu=>by
  obtain⟨v,vr,rfl,c1,d1⟩:=b.cb;simp only[fm]at hz;cases r with
  | cons ra rr =>
   rcases aZ.mp hu with rfl | hu
   ·rw[FC I hs c1 ra];exact Ub I hs c1 bp ra rp (by lia)
   ·exact oi I hs bp rp d1 rr (by lia) u hu
theorem Um(hu:X.A.units+1150<cLine):xN X (compareOp .In) (rn false):=by
 rintro ag s σ H x y v u Q I rx ry ⟨H₀,ab,F,ρ,τ,pa,pb,p,e,R,ba,bb,k⟩;unfold rn at e;split at e
 ·obtain⟨hd,rfl⟩:=aK e;have zI:fm _<=1000:=hd;obtain⟨a,vs,rfl,ha,gX⟩:=bD.mp bb;cases ry;obtain⟨aX,r,pl,_⟩:=I.list ((b0 R.sub ha).sq);refine SeqAt.in_listAt (mh X.K F pa) pl.isList (λw hw=>oi I R.sub ba rx gX r (by rw[kH];lia) w (by simpa using hw)) ⟨.bl _,H,I,rfl,k _ H F R (Same.refl F) (bZ.mpr ?_)⟩
  rw[show aX.toArray.any (mh X.K F pa)=aX.any (mh X.K F pa) by simp,oh I R.sub gX r]
  rfl
 ·obtain⟨hd,rfl⟩:=aK e;have zI:fm _<=1000:=hd;obtain⟨a,vs,rfl,ha,gX⟩:=bH.mp bb;cases ry;obtain⟨aX,r,pl,_⟩:=I.tuple (bg R.sub ha);refine SeqAt.in_tupleAt (mh X.K F pa) pl (λw hw=>oi I R.sub ba rx gX r (by rw[kH];lia) w (by simpa using hw)) ⟨.bl _,H,I,rfl,k _ H F R (Same.refl F) (bZ.mpr ?_)⟩
  rw[show aX.toArray.any (mh X.K F pa)=aX.any (mh X.K F pa) by simp,oh I R.sub gX r]
  rfl
 ·cases e
theorem HC(hu:X.A.units+1150<cLine):xN X (compareOp .NotIn) (rn true):=by
 rintro ag s σ H x y v u Q I rx ry ⟨H₀,ab,F,ρ,τ,pa,pb,p,e,R,ba,bb,k⟩;unfold rn at e;split at e
 ·obtain⟨hd,rfl⟩:=aK e;have zI:fm _<=1000:=hd;obtain⟨a,vs,rfl,ha,gX⟩:=bD.mp bb;cases ry;obtain⟨aX,r,pl,_⟩:=I.list ((b0 R.sub ha).sq);refine SeqAt.notIn_listAt (mh X.K F pa) pl.isList (λw hw=>oi I R.sub ba rx gX r (by rw[kH];lia) w (by simpa using hw)) ⟨.bl _,H,I,rfl,k _ H F R (Same.refl F) (bZ.mpr ?_)⟩
  rw[show aX.toArray.any (mh X.K F pa)=aX.any (mh X.K F pa) by simp,oh I R.sub gX r]
  rfl
 ·obtain⟨hd,rfl⟩:=aK e;have zI:fm _<=1000:=hd;obtain⟨a,vs,rfl,ha,gX⟩:=bH.mp bb;cases ry;obtain⟨aX,r,pl,_⟩:=I.tuple (bg R.sub ha);refine SeqAt.notIn_tupleAt (mh X.K F pa) pl (λw hw=>oi I R.sub ba rx gX r (by rw[kH];lia) w (by simpa using hw)) ⟨.bl _,H,I,rfl,k _ H F R (Same.refl F) (bZ.mpr ?_)⟩
  rw[show aX.toArray.any (mh X.K F pa)=aX.any (mh X.K F pa) by simp,oh I R.sub gX r]
  rfl
 ·cases e
end
def DA:CmpOp->Option (PV->PV->bU)
 | .Eq=>some eu
 | .NotEq=>some rm
 | .Lt=>some Jp
 | .LtE=>some O7
 | .Gt=>some gtO
 | .GtE=>some geO
 | .Is=>some V5
 | .IsNot=>some Uk
 | .In=>some (rn false)
 | .NotIn=>some (rn true)
theorem lN{X:Cx}(hu:X.A.units+1150<cLine){op:CmpOp}{g:PV->PV->bU}(h:DA op=some g):xN X (compareOp op) g:=by
 cases op<;>cases h
 ·exact Ud hu
 ·exact Ue hu
 ·exact Ug
 ·exact Uh
 ·exact Ui
 ·exact Uj
 ·exact Ul
 ·exact O8
 ·exact Um hu
 ·exact HC hu
section
variable {K:aj} {F:Hp}
theorem bj.atI{ps:ay}{vs:List V}{i:Int}{p:PV}(h:bj K F ps vs)(e:L2.atI ps i=some p):∃v,L2.atI vs i=some v/\dh K F p v:=by
 unfold L2.atI at e ⊢;rw[<-h.length];cases z:Kr ps.length i with
 | none=>rw[z]at e;cases e
 | some j =>
  rw[z]at e;exact h.get e
end
def aH:PV->PV->bU
 | .aC xs,.int i=>atI xs i
 | .ao xs,.int i=>atI xs i
 | .str z,.int i=>if z.length<=gH then(atI z.cps.toList i).map λc=>.str ⟨#[c]⟩else none
 | _,_=>none
section
variable {X:Cx} {H₀ ab:Hp} {a b e:au} {fa fb:FE} {pos p2:Pos} {lo hi:Option au}
theorem ixT:RD X (rT X.K aH):=by
 rintro value slice ag s σ H x y v u Q I rx ry ⟨H₀,ab,F,ρ,τ,pa,pb,p,e,R,ba,bb,k⟩ hs;unfold aH at e;split at e
 ·obtain⟨a,vs,rfl,ha,gX⟩:=bH.mp ba;rw[aM.mp bb]at ry;obtain⟨w,hw,bw⟩:=gX.atI e;exact Tx value slice ag s σ H _ _ v u Q I rx ry ⟨a,vs,_,w,rfl,rfl,bg R.sub ha,hw,k _ H F R (Same.refl F) bw⟩ hs
 ·obtain⟨a,vs,rfl,ha,gX⟩:=bD.mp ba;rw[aM.mp bb]at ry;obtain⟨w,hw,bw⟩:=gX.atI e;exact xA value slice ag s σ H _ _ v u Q I rx ry ⟨a,vs,_,w,rfl,rfl,(b0 R.sub ha).sq,hw,k _ H F R (Same.refl F) bw⟩ hs
 ·rename_i z i;obtain⟨hz,e⟩:=aF e;rw[cI.mp ba]at rx;rw[aM.mp bb]at ry;cases w:atI z.cps.toList i with
  | none=>rw[w]at e;cases e
  | some c =>
   rw[w]at e;cases e;exact Tz value slice ag s σ H _ _ v u Q I rx ry ⟨z,i,c,rfl,rfl,fj hz,w,k _ H F R (Same.refl F) (cI.mpr rfl)⟩ hs
 ·cases e
theorem XU(ha:PE X a (tE X.K H₀ ab fa))(hb:PE X b (tE X.K H₀ ab fb))(hs:lM b):PE X (.Subscript a b pos) (tE X.K H₀ ab (af fa fb aH)):=(Ab ixT ha hb hs).imp λ_ _ _ h=>rj nZ h
def jz(xs:ay)(lo hi:Option Int):ay:=(xs.drop (HT.fy xs.length 0 lo)).take (HT.fy xs.length xs.length hi-HT.fy xs.length 0 lo)
theorem bj.cut{K:aj}{F:Hp}{ps:ay}{vs:List V}(h:bj K F ps vs)(lo hi:Option Int):bj K F (jz ps lo hi) (uP vs lo hi):=by
 unfold jz uP;rw[h.length];exact(h.drop _).take _
theorem oj{prog:bK}{w:aW}{A:bY}{E:cQ}{s:az}{t sl:ae}{aX:Array aq}{vl vu:aq}{lo hi:Option Int}{Q:cQ}(ht:IsTup s.heap t aX)(hs:s.heap.IsSliceOf sl vl vu .none)(pl:IsPart vl lo)(pu:IsPart vu hi)
  (h0:HT.fy aX.size 0 lo=0) (h1:HT.fy aX.size aX.size hi=aX.size) (h:Q (.ref t) s):wpAny (model prog w) A (getItem (.ref t) (.ref sl)) Q E s:=by
 obtain⟨os,Tt,hcs,W7⟩:=id hs;have hT:s.TypeIs (.ref sl) "slice":=⟨os,Tt,hcs⟩;unfold getItem
 try with_reducible refine jV ?_
 first | refine av (aN ?_) | skip
 refine av (wpAny_sequenceKey ht.typeIs (by decide) ?_)
 refine av (kD (name:=Str.ofString "__getitem__") ht.typeIs oR (jt oR ht.typeIs entry_tuple_getitem ?_ (args_tuple_getitem _ _)));show wpAny _ _ (Builtin.Tuple.tupleItemsOf (.ref t) >>= _) _ _ s;refine av (tupleItemsOf_ ht (av (xh hT ?_)));rw[if_pos (by decide)]
 refine av (HT.jK hs pl pu ?_);have hc:(((HT.fy aX.size 0 lo:Nat):Int)==0&&(1:Int)==1&&(HT.fy aX.size aX.size hi-HT.fy aX.size 0 lo)==aX.size)=true:=by
  rw[h0,h1];simp
 show wpAny _ _ (if(((HT.fy aX.size 0 lo:Nat):Int)==0&&(1:Int)==1&&(HT.fy aX.size aX.size hi-HT.fy aX.size 0 lo)==aX.size)=true then _ else _) _ _ s
 rw[if_pos hc];unfold Builtin.Tuple.tupleIsExact;refine av (av (xh ht.typeIs (aN ?_)));rw[if_pos (by decide)]
 exact av (se (aN ⟨_,rfl,aN h⟩))
def O9(lo hi:Option Int):PV->bU
 | .ao ps=>some (.ao (jz ps lo hi))
 | .aC ps=>some (.aC (jz ps lo hi))
 | _=>none
def rSl(K:aj):V->Option Int->Option Int->Hp->VK->Prop:=λx lo hi H Q=>∃H₀ ab F ρ τ pa p,O9 lo hi pa=some p/\cY K H₀ ab F ρ τ H/\dh K F pa x/\∀v H' F',cY K H₀ ab F' ρ τ H'->Same F F'->dh K F' p v->Q v H'
theorem slT:SlR X (rSl X.K):=by
 rintro ag s σ H x v vl vu lo hi sl Q I rx hs pl pu ⟨H₀,ab,F,ρ,τ,pa,p,e,R,ba,k⟩;unfold O9 at e;split at e
 ·cases e;obtain⟨a,vs,rfl,ha,gX⟩:=bD.mp ba;refine Fi ag s σ H _ v vl vu lo hi sl Q I rx hs pl pu ⟨a,vs,rfl,(b0 R.sub ha).sq,λq hq=>?_⟩
  obtain⟨R2,s2⟩:=R.laid (.ao (uP vs lo hi)) hq;exact k _ _ _ R2 s2 (bD.mpr ⟨q,_,rfl,ql.of aI,(gX.cut lo hi).mono s2⟩)
 ·rename_i ps;cases e;obtain⟨a,vs,rfl,ha,gX⟩:=bH.mp ba;by_cases hw:HT.fy vs.length 0 lo=0/\HT.fy vs.length vs.length hi=vs.length
  ·cases rx;obtain⟨aX,r,ht,hz⟩:=I.tuple (bg R.sub ha);have dD:aX.toArray.size=vs.length:=by rw[bI];exact r.length.symm
   refine⟨"tuple",_,oR.lookup,ht.typeIs,?_⟩;refine oj ht hs pl pu (by rw[dD];exact hw.1) (by rw[dD];exact hw.2) ⟨.ref a,H,I,rfl,k _ H F R (Same.refl F) ?_⟩
   have hc:jz ps lo hi=ps:=by
    unfold jz;rw[gX.length,hw.1,hw.2,List.drop_zero,Nat.sub_zero,<-gX.length,List.take_length]
   rw[hc];exact ba
  ·refine Tv ag s σ H _ v vl vu lo hi sl Q I rx hs pl pu ⟨a,vs,rfl,bg R.sub ha,hw,λq hq=>?_⟩
   obtain⟨R2,s2⟩:=R.laid (.aC (uP vs lo hi)) hq;exact k _ _ _ R2 s2 (bH.mpr ⟨q,_,rfl,iA.of aI,(gX.cut lo hi).mono s2⟩)
 ·cases e
abbrev FO:=aG->Option (Option Int)
def Au(K:aj)(H₀ ab:Hp)(f:FO):TO:=λσ H Q=>∃F ρ o,cY K H₀ ab F ρ σ H/\f ρ=some o/\∀H' F',cY K H₀ ab F' ρ σ H'->Same F F'->Q o H'
theorem _root_.L2.PO.imp{X:Cx}{e:Option au}{t t':TO}(h:PO X e t)(hi:∀σ H Q,t' σ H Q->t σ H Q):PO X e t':=λag s σ H Q I hw=>h ag s σ H Q I (hi _ _ _ hw)
def Pb:FO:=λ_=>some none
def kl(fe:FE):FO:=λρ=>(fe ρ).bind λp=>match p with | .int i=>some (some i) | _=>none
theorem K1:PO X none (Au X.K H₀ ab Pb):=Om.imp <| by
 rintro σ H Q ⟨F,ρ,o,R,hf,q⟩
 cases hf;exact q H F R (Same.refl F)
theorem K2(h:PE X e (tE X.K H₀ ab fa)):PO X (some e) (Au X.K H₀ ab (kl fa)):=(Oo h).imp <| by
 rintro σ H Q ⟨F,ρ,o,R,hf,q⟩
 obtain⟨p,h1,h2⟩:=ax hf;cases p with
 | int i =>
  cases h2;exact⟨F,ρ,_,R,h1,λv H1 F1 R1 s1 b1=>⟨i,aM.mp b1,q H1 F1 R1 s1⟩⟩
 | _=>cases h2
def cutE(fa:FE)(fl fh:FO):FE:=λρ=>(fa ρ).bind λp=>(fl ρ).bind λl=>(fh ρ).bind λh=>O9 l h p
theorem RU{fl fh:FO}(ha:PE X e (tE X.K H₀ ab fa))(hl:PO X lo (Au X.K H₀ ab fl))(hh:PO X hi (Au X.K H₀ ab fh)):PE X (.Subscript e (.Slice lo hi none p2) pos) (tE X.K H₀ ab (cutE fa fl fh)):=(Aa slT ha hl hh).imp <| by
 rintro σ H Q ⟨F,ρ,p,R,hf,q⟩
 obtain⟨pa,h1,hf⟩:=ax hf;obtain⟨l,h2,hf⟩:=ax hf;obtain⟨h,h3,h4⟩:=ax hf;exact⟨F,ρ,pa,R,h1,λv H1 F1 R1 s1 b1=>⟨F1,ρ,l,R1,h2,λH2 F2 R2 s2=>⟨F2,ρ,h,R2,h3,λH3 F3 R3 s3 =>
  ⟨H₀,ab,F3,ρ,σ,pa,p,h4,R3,b1.mono (s2.trans s3),λw H4 F4 R4 s4 b4=>q w H4 F4 R4 (s1.trans (s2.trans (s3.trans s4))) b4⟩⟩⟩⟩
end
def rC(K:aj)(g:ay->bU):List V->Hp->VK->Prop:=λxs H Q=>∃H₀ ab F ρ τ ps p,g ps=some p/\cY K H₀ ab F ρ τ H/\bj K F ps xs/\∀v H' F',cY K H₀ ab F' ρ τ H'->Same F F'->dh K F' p v->Q v H'
abbrev HE(X:Cx)(f:aq)(g:ay->bU):Prop:=kQ X f (rC X.K g)
def b6(g:ay->bU)(ts:bP):FE:=λρ=>(ts ρ).bind g
theorem lO{H₀ ab:Hp}{K:aj}{g:ay->bU}{ts:bP}{σ:St}{H:Hp}{Q:VK}(h:tE K H₀ ab (b6 g ts) σ H Q):tCB (rC K g) (tA K H₀ ab ts) σ H Q:=by
 obtain⟨F,ρ,p,R,hf,q⟩:=h;obtain⟨ps,h1,h2⟩:=ax hf;exact⟨F,ρ,ps,R,h1,λvs H1 F1 R1 s1 b1=>⟨H₀,ab,F1,ρ,σ,ps,p,h2,R1,b1,λv H' F' R' s' b'=>q v H' F' R' (s1.trans s') b'⟩⟩
def cJ:ay->bU
 | [.aC ps]=>some (.int ps.length)
 | [.ao ps]=>some (.int ps.length)
 | [.str z]=>if z.length<=gH then some (.int z.length)else none
 | _=>none
def mi:ay->bU
 | [.ao ps]=>some (.aC ps)
 | [.aC ps]=>some (.aC ps)
 | _=>none
def K3:ay->bU
 | [.ao ps]=>some (.ao ps)
 | [.aC ps]=>some (.ao ps)
 | _=>none
def xP:ay->bU
 | [.int i]=>some (.int i)
 | [.bl b]=>some (.int (if b then 1 else 0))
 | _=>none
noncomputable def je:ay->Option (List Int)
 | []=>some []
 | .int i::r=>(je r).map λns=>i::ns
 | _::_=>none
def DB:ay->bU
 | [.ao ps]=>(je ps).map λns=>.int ns.sum
 | _=>none
theorem tQ{K:aj}{F:Hp}:∀{ps:ay} {ns:List Int} {vs:List V},je ps=some ns->bj K F ps vs->vs=ns.map V.int
 | [],ns,vs,h,b=>by cases h;exact b.b9
 | .int i::r,ns,vs,h,b=>by
  unfold je at h;cases z:je r with
  | none=>rw[z]at h;cases h
  | some ms =>
   rw[z]at h;cases h;obtain⟨v,vr,rfl,c,d⟩:=b.cb;rw[aM.mp c,tQ z d];rfl
 | .cE::_,_,_,h,_=>by cases h
 | .bl _::_,_,_,h,_=>by cases h
 | .str _::_,_,_,h,_=>by cases h
 | .aC _::_,_,_,h,_=>by cases h
 | .ao _::_,_,_,h,_=>by cases h
section
variable {X:Cx}
theorem eX{K:aj}{F:Hp}{p:PV}{vs:List V}(b:bj K F [p] vs):∃v,vs=[v]/\dh K F p v:=by
 obtain⟨v,r,rfl,c,d⟩:=b.cb;rw[d.b9];exact⟨v,rfl,c⟩
theorem FD{K:aj}{F:Hp}{p q:PV}{vs:List V}(b:bj K F [p,q] vs):∃v w,vs=[v,w]/\dh K F p v/\dh K F q w:=by
 obtain⟨v,r,rfl,c,d⟩:=b.cb;obtain⟨w,rfl,e⟩:=eX d;exact⟨v,w,rfl,c,e⟩
theorem HF:HE X (.builtin "len") cJ:=by
 rintro ag s σ H xs us Q I rs ⟨H₀,ab,F,ρ,τ,ps,p,e,R,bs,k⟩;unfold cJ at e;split at e
 ·cases e;obtain⟨v,rfl,b⟩:=eX bs;obtain⟨a,vs,rfl,ha,gX⟩:=bH.mp b;exact j0 ag s σ H _ us Q I rs ⟨a,vs,rfl,.inr (bg R.sub ha),k _ H F R (Same.refl F) (aM.mpr (by rw[gX.length]))⟩
 ·cases e;obtain⟨v,rfl,b⟩:=eX bs;obtain⟨a,vs,rfl,ha,gX⟩:=bD.mp b;exact j0 ag s σ H _ us Q I rs ⟨a,vs,rfl,.inl (b0 R.sub ha).sq,k _ H F R (Same.refl F) (aM.mpr (by rw[gX.length]))⟩
 ·obtain⟨hz,rfl⟩:=aK e;obtain⟨v,rfl,b⟩:=eX bs;rw[cI.mp b]at rs;exact xC ag s σ H _ us Q I rs ⟨_,rfl,fj hz,k _ H F R (Same.refl F) (aM.mpr rfl)⟩
 ·cases e
theorem HG:HE X (.type "tuple") mi:=by
 rintro ag s σ H xs us Q I rs ⟨H₀,ab,F,ρ,τ,ps,p,e,R,bs,k⟩;unfold mi at e;split at e
 ·cases e;obtain⟨v,rfl,b⟩:=eX bs;obtain⟨a,vs,rfl,ha,gX⟩:=bD.mp b;refine mq ag s σ H _ us Q I rs ⟨a,vs,rfl,.inl ⟨(b0 R.sub ha).sq,λq hq=>?_⟩⟩
  obtain⟨R2,s2⟩:=R.laid (.aC vs) hq;exact k _ _ _ R2 s2 (bH.mpr ⟨q,_,rfl,iA.of aI,gX.mono s2⟩)
 ·cases e;obtain⟨v,rfl,b⟩:=eX bs;obtain⟨a,vs,rfl,ha,gX⟩:=bH.mp b;exact mq ag s σ H _ us Q I rs ⟨a,vs,rfl,.inr ⟨bg R.sub ha,k _ H F R (Same.refl F) b⟩⟩
 ·cases e
theorem HH:HE X (.type "list") K3:=by
 rintro ag s σ H xs us Q I rs ⟨H₀,ab,F,ρ,τ,ps,p,e,R,bs,k⟩;unfold K3 at e;split at e
 ·cases e;obtain⟨v,rfl,b⟩:=eX bs;obtain⟨a,vs,rfl,ha,gX⟩:=bD.mp b;refine j1 ag s σ H _ us Q I rs ⟨a,vs,rfl,.inl (b0 R.sub ha).sq,λq hq=>?_⟩
  obtain⟨R2,s2⟩:=R.laid (.ao vs) hq;exact k _ _ _ R2 s2 (bD.mpr ⟨q,_,rfl,ql.of aI,gX.mono s2⟩)
 ·cases e;obtain⟨v,rfl,b⟩:=eX bs;obtain⟨a,vs,rfl,ha,gX⟩:=bH.mp b;refine j1 ag s σ H _ us Q I rs ⟨a,vs,rfl,.inr (bg R.sub ha),λq hq=>?_⟩
  obtain⟨R2,s2⟩:=R.laid (.ao vs) hq;exact k _ _ _ R2 s2 (bD.mpr ⟨q,_,rfl,ql.of aI,gX.mono s2⟩)
 ·cases e
theorem HI:HE X (.type "int") xP:=by
 rintro ag s σ H xs us Q I rs ⟨H₀,ab,F,ρ,τ,ps,p,e,R,bs,k⟩;unfold xP at e;split at e
 ·cases e;obtain⟨v,rfl,b⟩:=eX bs;rw[aM.mp b]at rs;exact vH ag s σ H _ us Q I rs (.inl ⟨_,rfl,k _ H F R (Same.refl F) (aM.mpr rfl)⟩)
 ·cases e;obtain⟨v,rfl,b⟩:=eX bs;rw[bZ.mp b]at rs;exact vH ag s σ H _ us Q I rs (.inr ⟨_,rfl,k _ H F R (Same.refl F) (aM.mpr rfl)⟩)
 ·cases e
theorem Pc{ag:List (ae×Obj)}{σ:St}{H F:Hp}{s:az}(I:Inv X ag σ H s)(hs:Same F H){ps:ay}{ns:List Int}{v:V}(hn:je ps=some ns)(b:dh X.K F (.ao ps) v) :
  ∃a,v=.ref a/\∃xs:Array (Int×Tok),s.heap.IsList a (intItems xs)/\ns=xs.toList.map (·.1):=by
 obtain⟨a,vs,rfl,ha,gX⟩:=bD.mp b;obtain⟨aX,r,pl,_⟩:=I.list (b0 hs ha).sq;have ev:=tQ hn gX;subst ev;have hi:=s9 r;obtain⟨xs,ex⟩:=hi.allInts.items;refine⟨a,rfl,xs,?_,?_⟩
 ·rw[<-ex];exact pl.isList
 ·rw[<-hi.numsOf,<-nums_intItems,<-ex]
theorem HJ(hc:X.A.handled=none):HE X (.builtin "sum") DB:=by
 rintro ag s σ H xs us Q I rs ⟨H₀,ab,F,ρ,τ,ps,p,e,R,bs,k⟩;unfold DB at e;split at e
 ·rename_i ps;cases z:je ps with
  | none=>rw[z]at e;cases e
  | some ns =>
   rw[z]at e;cases e;obtain⟨v,rfl,b⟩:=eX bs;obtain⟨a,rfl,xs,hl,hn⟩:=Pc I R.sub z b;obtain⟨u,rfl,ru⟩:=kj rs;cases ru;refine sum_intListG hc hl λh' tk t' hk=>⟨.int ns.sum,H,I.kept (t':=tk) hk,⟨t',?_⟩,k _ H F R (Same.refl F) (aM.mpr rfl)⟩
   rw[preSum_eq,oT (by simp),hn]
 ·cases e
end
def XW(fa:FE):FE:=λρ=>(fa ρ).bind λp=>match p with | .int i=>some (.int (-i)) | _=>none
theorem RV{X:Cx}{H₀ ab:Hp}{a:au}{fa:FE}{pos:Pos}(ha:PE X a (tE X.K H₀ ab fa)):PE X (.UnaryOp .USub a pos) (tE X.K H₀ ab (XW fa)):=(RA Kh ha).imp <| by
 rintro σ H Q ⟨F,ρ,p,R,hf,q⟩
 obtain⟨x,h1,h2⟩:=ax hf;cases x with
 | int i =>
  cases h2;exact⟨F,ρ,_,R,h1,λv H1 F1 R1 s1 b1=>⟨i,aM.mp b1,q _ H1 F1 R1 s1 (aM.mpr rfl)⟩⟩
 | _=>cases h2
inductive Ty where
 | int | str | bool | tuple | list
def Ty.nm:Ty->String
 | .int=>"int" | .str=>"str" | .bool=>"bool" | .tuple=>"tuple" | .list=>"list"
def gQ:Ty->PV->Bool
 | .int,.int _=>true
 | .int,.bl _=>true
 | .bool,.bl _=>true
 | .str,.str _=>true
 | .tuple,.aC _=>true
 | .list,.ao _=>true
 | _,_=>false
noncomputable def FF(x:Str):Option Ty :=
 if x==("int":Str)then some .int
 else if x==("str":Str)then some .str
 else if x==("bool":Str)then some .bool
 else if x==("tuple":Str)then some .tuple
 else if x==("list":Str)then some .list
 else none
def Jq(t:Ty)(fa:FE):FE:=λρ=>(fa ρ).map λp=>.bl (gQ t p)
def acY:PV->String
 | .cE=>"NoneType" | .bl _=>"bool" | .int _=>"int" | .str _=>"str" | .aC _=>"tuple" | .ao _=>"list"
section
variable {K:aj}
theorem Pd(p:PV)(t:Ty):W.kitOne K (.type (acY p)) (.type t.nm)=some (gQ t p):=by
 cases p<;>cases t<;>kernel_rfl
end
section
variable {X:Cx} {H₀ ab:Hp} {a:au} {fa:FE} {pos p1 p2:Pos}
def rIs(K:aj)(t:Ty):List V->Hp->VK->Prop:=λxs H Q=>∃H₀ ab F ρ τ p x,xs=[x,.ty t.nm]/\cY K H₀ ab F ρ τ H/\dh K F p x/\Q (.bl (gQ t p)) H
theorem Pe(t:Ty):kQ X (.builtin "isinstance") (rIs X.K t):=by
 rintro ag s σ H xs us Q I rs ⟨H₀,ab,F,ρ,τ,p,x,ex,R,b,q⟩;subst ex;obtain⟨u,w,rfl,ru,Tw⟩:=Km rs;cases Tw;have e:=Pd (K:=X.K) p t;have fin:∀tk,EP X ag σ Q (.bool (gQ t p)) {s with toks:=tk}:=λtk=>⟨.bl _,H,I.tok tk,rfl,q⟩
 cases p with
 | cE =>
  rw[dC.mp b]at ru;cases ru;exact W.kia_one W.kitx_none I.zj True.intro e (λz=>nomatch z) fin
 | bl y =>
  rw[bZ.mp b]at ru;cases ru;exact W.kia_one W.kitx_bool I.zj True.intro e (λz=>nomatch z) fin
 | int i =>
  rw[aM.mp b]at ru;obtain⟨tk,rfl⟩:=ru;exact W.kia_one W.kitx_int I.zj True.intro e (λz=>nomatch z) fin
 | str y =>
  rw[cI.mp b]at ru;obtain⟨tk,rfl⟩:=ru;exact W.kia_one W.kitx_str I.zj True.intro e (λz=>nomatch z) fin
 | aC ps =>
  obtain⟨ad,vs,rfl,ha,_⟩:=bH.mp b;cases ru;obtain⟨aX,_,⟨o,h1,h2,_⟩,_⟩:=I.tuple (bg R.sub ha);exact W.kia_one W.kitx_tuple I.zj ⟨o,h1,h2⟩ e (λz=>nomatch z) fin
 | ao ps =>
  obtain⟨ad,vs,rfl,ha,_⟩:=bD.mp b;cases ru;obtain⟨aX,n,_,h1,_⟩:=I.tw (b0 R.sub ha);exact W.kia_one W.kitx_list I.zj ⟨_,h1,rfl⟩ e (λz=>nomatch z) fin
theorem qX:bootBuiltins "isinstance"=some (.builtin "isinstance"):=by kernel_rfl
theorem j3(t:Ty):bootBuiltins (Str.ofString t.nm)=some (.type t.nm):=by cases t<;>kernel_rfl
theorem K4{x:Str}{t:Ty}(h:FF x=some t):x=Str.ofString t.nm:=by
 unfold FF at h;split at h
 ·rename_i e;cases h;exact bO e
 ·split at h
  ·rename_i e;cases h;exact bO e
  ·split at h
   ·rename_i e;cases h;exact bO e
   ·split at h
    ·rename_i e;cases h;exact bO e
    ·split at h
     ·rename_i e;cases h;exact bO e
     ·cases h
theorem acZ{x:Str}{t:Ty}(ht:FF x=some t)(hg:Gl X "isinstance")(hm:X.mg "isinstance"=none)(hg2:Gl X x)(hm2:X.mg x=none)(ha:PE X a (tE X.K H₀ ab fa))(hs:∀es,starEach (a::es) X.env=(false,eval a X.env)::starEach es X.env) :
  PE X (.Call (.Name "isinstance" p1) [a,.Name x p2] [] pos) (tE X.K H₀ ab (Jq t fa)):=by
 have hx:=K4 ht;subst hx;have hn:(Str.ofString t.nm)≠"__name__":=by cases t<;>decide
 have Dj:((Str.ofString t.nm)==("__debug__":Str))=false:=by cases t<;>decide
 refine(kR (Pe t) hg hm qX (dm ha (dm (N6 (v:=.ty t.nm) hg2 hm2 (j3 t) rfl hn Dj) ir rfl) (hs _)) (by decide) (by decide) (hs _)).imp λσ H Q ⟨F,ρ,p,R,hf,q⟩=>?_
 unfold Jq at hf;cases z:fa ρ with
 | none=>rw[z]at hf;cases hf
 | some p' =>
  rw[z]at hf;cases hf;exact⟨F,ρ,p',R,z,λv H1 F1 R1 s1 b1=>⟨H₀,ab,F1,ρ,σ,p',v,rfl,R1,b1,q _ H1 F1 R1 s1 (bZ.mpr rfl)⟩⟩
end
def SI(h:Heap)(it l:ae)(k:Nat)(xs:Array aq):Prop:=(h.IsListIter it l k/\h.IsList l xs)\/(h.IsTupleIter it l k/\h.IsTuple l xs)
theorem SI.at{h h':Heap}{it l:ae}{k:Nat}{xs:Array aq}(x:SI h it l k xs)(h1:∀o,h.get? it=some o->h'.get? it=some o)(h2:∀o,h.get? l=some o->h'.get? l=some o):SI h' it l k xs:=by
 rcases x with⟨⟨o,e,r⟩,⟨o',e',r'⟩⟩ | ⟨⟨o,e,r⟩,⟨o',e',r'⟩⟩
 ·exact .inl ⟨⟨o,h1 o e,r⟩,⟨o',h2 o' e',r'⟩⟩
 ·exact .inr ⟨⟨o,h1 o e,r⟩,⟨o',h2 o' e',r'⟩⟩
theorem SI.RW{h:Heap}{it l:ae}{k:Nat}{xs:Array aq}(x:SI h it l k xs):∃o,h.get? it=some o/\∃vs,o.data=.fields vs:=by
 rcases x with⟨⟨o,e,_,d⟩,_⟩ | ⟨⟨o,e,_,d⟩,_⟩
 ·exact⟨o,e,_,d⟩
 ·exact⟨o,e,_,d⟩
theorem SI.sq{h:Heap}{it l:ae}{k:Nat}{xs:Array aq}(x:SI h it l k xs):∃o n,h.get? l=some o/\o.data=.seq xs n:=by
 rcases x with⟨_,⟨o,e,_,n,d⟩⟩ | ⟨_,⟨o,e,_,n,d⟩⟩
 ·exact⟨o,n,e,d⟩
 ·exact⟨o,n,e,d⟩
theorem SI.ne{h:Heap}{it l:ae}{k:Nat}{xs:Array aq}(x:SI h it l k xs):l≠it:=λz=>by
 obtain⟨o,e,vs,d⟩:=x.RW;obtain⟨o',n,e',d'⟩:=x.sq;subst z;rw[e]at e';cases e';rw[d]at d';cases d'
section
variable {prog:bK} {w:aW} {A:bY} {E:cQ} {s:az}
theorem DC{it t:ae}{i:Nat}{aX:Array aq}{x:aq}{Q:cQ}(uV:s.heap.IsTupleIter it t i)(ht:s.heap.IsTuple t aX)(hx:aX[i]?=some x)
  (hQ:∀h',h'.IsTupleIter it t (i+1)->Heap.SameBut it s.heap h'->Q x {s with heap:=h'}):wpAny (model prog w) A (Builtin.SmallTypes.nextOf (.ref it)) Q E s:=by
 obtain⟨o,ho,hc,hd⟩:=id uV;obtain⟨ol,V6,_,nl,HK⟩:=ht;unfold Builtin.SmallTypes.nextOf;refine av (kD (name:=Str.ofString "__next__") uV.typeIs wQ (jt wQ uV.typeIs JB (by
  show wpAny _ _ (field (.ref it) 0 >>= _) _ _ s;refine av (kL ho hd (x:=.ref t) rfl ?_);show wpAny _ _ (if(Value.ref t==Value.none)=true then _ else _) _ _ s
  rw[if_neg (show ¬((Value.ref t==Value.none)=true)from iE)]
  show wpAny _ _ (field (.ref it) 1 >>= _) _ _ s;refine av (kL ho hd (x:=.int i 0) rfl ?_);show wpAny _ _ (seqItems? (.ref t) >>= _) _ _ s;refine av (wpAny_seqItems V6 HK ?_);simp only[fH,hx];refine av (rZ ho hd (by simp) (aN ⟨x,rfl,aN (hQ _ ⟨_,wU _ ho (Cs (oX hd _)),(CH ..).trans hc,by rw[oX hd];simp[rawInt]⟩ (oU ..))⟩))) (JA _)))
theorem DD{it t:ae}{i:Nat}{aX:Array aq}{Q:cQ}(hh:A.handled=none)(uV:s.heap.IsTupleIter it t i)(ht:s.heap.IsTuple t aX)(hx:aX[i]?=none)
  (hE:∀h' e,Heap.ExtBut it s.heap h'->(∃o,h'.get? e=some o/\o.cls=.type "StopIteration")->E (.ref e) {s with heap:=h'}):wpAny (model prog w) A (Builtin.SmallTypes.nextOf (.ref it)) Q E s:=by
 obtain⟨o,ho,hc,hd⟩:=id uV;obtain⟨ol,V6,_,nl,HK⟩:=ht;unfold Builtin.SmallTypes.nextOf;refine av (kD (name:=Str.ofString "__next__") uV.typeIs wQ (jt wQ uV.typeIs JB (by
  show wpAny _ _ (field (.ref it) 0 >>= _) _ _ s;refine av (kL ho hd (x:=.ref t) rfl ?_);show wpAny _ _ (if(Value.ref t==Value.none)=true then _ else _) _ _ s
  rw[if_neg (show ¬((Value.ref t==Value.none)=true)from iE)]
  show wpAny _ _ (field (.ref it) 1 >>= _) _ _ s;refine av (kL ho hd (x:=.int i 0) rfl ?_);show wpAny _ _ (seqItems? (.ref t) >>= _) _ _ s;refine av (wpAny_seqItems V6 HK ?_);simp only[fH,hx];refine av (se (av (rZ ho hd (by simp) ?_)))
  show wpAny _ _ (newExc (.type "StopIteration") [] >>= _) _ _ _;refine av ?_;simp only[newExc,newTuple];refine av (jq ?_ (by size_fits))
  refine av (m:=firstArgMember _ _) (wpAny_of_eq (a:=Value.none) (by first | rfl | (simp only[firstArgMember];rfl)) ?_)
  refine jq ?_ (by size_fits)
  simp only[raiseNew];refine av (wpAny_handled ?_)
  first | rw[show A.in1.handled=none from hh] | rw[hh]
  exact av (aN (wpAny_throw (hE _ _ (((oU ..).extBut.push _).push _) ⟨_,d0 _ rfl,rfl⟩)))) (JA _)))
theorem SI.next{it l:ae}{k:Nat}{xs:Array aq}{x:aq}{Q:cQ}(hi:SI s.heap it l k xs)(hx:xs[k]?=some x)(hQ:∀h',SI h' it l (k+1) xs->Heap.SameBut it s.heap h'->Q x {s with heap:=h'}) :
  wpAny (model prog w) A (Builtin.SmallTypes.nextOf (.ref it)) Q E s:=by
 have ne:=hi.ne;rcases hi with⟨h1,h2⟩ | ⟨h1,h2⟩
 ·exact wpAny_nextOf_list_item h1 h2 hx λh' a b=>hQ h' (.inl ⟨a,h2.extBut b.extBut ne⟩) b
 ·exact DC h1 h2 hx λh' a b=>hQ h' (.inr ⟨a,h2.extBut b.extBut ne⟩) b
theorem SI.stop{it l:ae}{k:Nat}{xs:Array aq}{Q:cQ}(hh:A.handled=none)(hi:SI s.heap it l k xs)(hx:xs[k]?=none)
  (hE:∀h' e,Heap.ExtBut it s.heap h'->(∃o,h'.get? e=some o/\o.cls=.type "StopIteration")->E (.ref e) {s with heap:=h'}):wpAny (model prog w) A (Builtin.SmallTypes.nextOf (.ref it)) Q E s:=by
 rcases hi with⟨h1,h2⟩ | ⟨h1,h2⟩
 ·exact wpAny_nextOf_list_end hh h1 h2 hx hE
 ·exact DD hh h1 h2 hx hE
end
section
variable {prog:bK} {w:aW} {A:bY} {E:cQ} {s:az} {z TI TO i1 i2 l1 l2:Nat} {k:Nat} {xs ys:Array aq}
def vZ(h:Heap)(l:ae)(xs:Array aq)(c:String):Prop:=(c="list_iterator"/\h.IsList l xs)\/(c="tuple_iterator"/\h.IsTuple l xs)
theorem ro{l:ae}{xs:Array aq}{c:String}{Q:cQ}(h:vZ s.heap l xs c)(hQ:Q (.ref s.heap.objs.size) {s with heap:=s.heap.push {cls:=.type c,data:=.fields #[.ref l,.int 0 0]}}):wpAny (model prog w) A (pyIter (.ref l)) Q E s:=by
 rcases h with⟨rfl,h⟩ | ⟨rfl,h⟩
 ·exact CD h hQ
 ·exact wpAny_pyIter_tuple h hQ
end
def FG(K:aj)(H:Hp)(c:Bool)(l:ae)(vs:List V):Prop:=if c=true then l8 K H l vs else iA K H l vs
def Jr(h:Heap)(c:Bool)(it l:ae)(k:Nat):Prop:=if c=true then h.IsListIter it l k else h.IsTupleIter it l k
def HL(c:Bool):String:=if c=true then "list_iterator" else "tuple_iterator"
section
variable {X:Cx} {ag:List (ae×Obj)} {σ:St} {H:Hp} {s:az}
theorem FG.get(I:Inv X ag σ H s){c:Bool}{l:ae}{vs:List V}(h:FG X.K H c l vs):∃aX:cg,Vals vs aX/\vZ s.heap l aX.toArray (HL c):=by
 unfold FG at h;unfold HL;cases c with
 | true =>
  obtain⟨aX,r,pl,_⟩:=I.list (show l8 X.K H l vs from h)
  exact⟨aX,r,.inl ⟨rfl,pl.isList⟩⟩
 | false =>
  obtain⟨aX,r,pl,_⟩:=I.tuple (show iA X.K H l vs from h)
  exact⟨aX,r,.inr ⟨rfl,pl⟩⟩
theorem FG.inj(I:Inv X ag σ H s){c:Bool}{l:ae}{vs ws:List V}(h:FG X.K H c l vs)(h':FG X.K H c l ws):vs=ws:=by
 unfold FG at h h';cases c with
 | true=>exact I.sU h h'
 | false=>exact I.pE h h'
theorem RX{h:Heap}{c:Bool}{it l:ae}{k:Nat}{xs:Array aq}(h1:Jr h c it l k)(h2:vZ h l xs (HL c)):SI h it l k xs:=by
 unfold Jr at h1;cases c with
 | true =>
  rcases h2 with⟨_,q⟩ | ⟨q,_⟩
  ·exact .inl ⟨h1,q⟩
  ·exact absurd q (by decide)
 | false =>
  rcases h2 with⟨q,_⟩ | ⟨_,q⟩
  ·exact absurd q (by decide)
  ·exact .inr ⟨h1,q⟩
theorem Pf{h:Heap}{c:Bool}{it l:ae}{k k':Nat}{xs:Array aq}{h0:Heap}(h1:SI h it l k xs)(h2:vZ h0 l xs (HL c))(kp:∀o,h0.get? l=some o->h.get? l=some o):Jr h c it l k:=by
 unfold Jr;cases c with
 | true =>
  rcases h2 with⟨_,⟨o,e,hc,_⟩⟩ | ⟨q,_⟩
  ·rcases h1 with⟨a,_⟩ | ⟨_,⟨o',e',E6,_⟩⟩
   ·exact a
   ·have e2:=kp o e;rw[e']at e2;cases e2;rw[hc]at E6;simp at E6
  ·exact absurd q (by decide)
 | false =>
  rcases h2 with⟨q,_⟩ | ⟨_,⟨o,e,hc,_⟩⟩
  ·exact absurd q (by decide)
  ·rcases h1 with⟨_,⟨o',e',E6,_⟩⟩ | ⟨a,_⟩
   ·have e2:=kp o e;rw[e']at e2;cases e2;rw[hc]at E6;simp at E6
   ·exact a
theorem Inv.turns{t':Nat}{h':Heap}{ch:List ae}(I:Inv X ag σ H s)(hf:∀b∈ch,xt X ag H b)(kp:∀b o,b∉ch->s.heap.get? b=some o->h'.get? b=some o):Inv X ag σ H {s with heap:=h',toks:=t'}:=by
 have WD:∀b u,H b=some u->b∉ch:=λb u e z=>by rw[(hf b z).1]at e;cases e
 refine I.step (g':=s.gens) (d':=s.drawn) (ch:=ch) (λb hb=>⟨(hf b hb).2.2.2.1,(hf b hb).2.1,(hf b hb).2.2.2.2.1,(hf b hb).2.2.2.2.2⟩) (λb o _ _ hc e _=>kp b o hc e) (λb o _ _ hc e _=>⟨o.slots,kp b o hc e⟩) (λ_ _ _ _ n=>n)
  (λb o hc e=>⟨o,kp b o hc e⟩) (λ_ _ e=>e) (λ_ _ _ e=>e) (λ_ _ e=>e) (λm hm=>?_) (λb u e=>?_) I.bare
 ·obtain⟨o,es,ep,ho,r⟩:=hm;exact⟨o,es,ep,kp _ o (λz=>(hf _ z).2.1 rfl) ho,r⟩
 ·refine(I.hok b u e).zT (λc v hc q=>kp c v ?_ q) (λ_ q=>q) (λ_ _ q=>q) λ_ _ _ q=>q
  rcases hc with z | z
  ·rw[z];exact WD b u e
  ·exact WD c _ z
end
theorem Jr.at{h h':Heap}{c:Bool}{it l:ae}{k:Nat}(x:Jr h c it l k)(h1:∀o,h.get? it=some o->h'.get? it=some o):Jr h' c it l k:=by
 cases c with
 | true =>
  obtain⟨o,e,r⟩:=(show h.IsListIter it l k from x)
  exact(show h'.IsListIter it l k from⟨o,h1 o e,r⟩)
 | false =>
  obtain⟨o,e,r⟩:=(show h.IsTupleIter it l k from x)
  exact(show h'.IsTupleIter it l k from⟨o,h1 o e,r⟩)
theorem Jr.obj{h:Heap}{c:Bool}{it l:ae}{k:Nat}(x:Jr h c it l k):∃o,h.get? it=some o/\∀v,o.data≠.cell v:=by
 unfold Jr at x;split at x
 ·obtain⟨o,e,_,d⟩:=x;exact⟨o,e,λv=>by rw[d];simp⟩
 ·obtain⟨o,e,_,d⟩:=x;exact⟨o,e,λv=>by rw[d];simp⟩
def RY:au->Bool
 | .Tuple _ _ _=>true
 | _=>false
def K5:PV->Option ay
 | .aC ps=>some ps
 | .ao ps=>some ps
 | _=>none
def Av(p q:PV):PV:=.aC [p,q]
theorem K6{K:aj}{F:Hp}{p:PV}{ps:ay}{x:V}(h:K5 p=some ps)(b:dh K F p x):∃c l vs,x=.ref l/\FG K F c l vs/\bj K F ps vs/\∀F',Same F F'->FG K F' c l vs:=by
 cases p with
 | aC qs =>
  cases h;obtain⟨l,vs,rfl,h1,h2⟩:=bH.mp b;exact⟨false,l,vs,rfl,h1,h2,λF' s=>bg s h1⟩
 | ao qs =>
  cases h;obtain⟨l,vs,rfl,h1,h2⟩:=bD.mp b;exact⟨true,l,vs,rfl,h1.sq,h2,λF' s=>(b0 s h1).sq⟩
 | _=>cases h
theorem K8{prog:bK}{w:aW}{A:bY}{it l:ae}{xs:Array aq}(hh:A.handled=none):Draws prog w A it [it,l] xs.size (λi x=>xs[i]?=some x) (λi h=>SI h it l i xs) where
 live:=λi h st=>by
  obtain⟨o,e,_⟩:=st.RW;exact⟨o,e⟩
 frame:=λi h h' st k=>st.at (λo e=>k it (by simp) o e) (λo e=>k l (by simp) o e)
 item:=λi s Q E hi st hQ=>SI.next st (Array.getElem?_eq_getElem hi) λh' a b=>hQ _ h' s.toks (Array.getElem?_eq_getElem hi) a b
 done:=λs Q E st hE=>SI.stop hh st (Array.getElem?_eq_none (bc _)) hE
set_option maxHeartbeats 2000000 in
theorem K9(l:ae)(xs:Array aq)(c:String)(part:Obj) :
  Meets (Builtin.«enumerate.__new__» ⟨[.type "enumerate",.ref l],[]⟩) (λ_ R s=>vZ s.heap l xs c/\s.heap.get? l=some part /\
   ∀h1 h2:Heap,h1=s.heap.push {cls:=.type c,data:=.fields #[.ref l,.int 0 0]}->h2=h1.push {cls:=.type "enumerate",data:=.fields #[.none,.bool false,.ref s.heap.objs.size,rawInt 0,.none,.none]}->R (.ok (.ret (.ref h1.objs.size))) {s with heap:=h2}) :=
 .of_wp λprog w A R s h=>by
  obtain⟨hp,g,d,tk,os⟩:=s;obtain⟨hl,hpt,h⟩:=h;have hL:vZ (Shared.heap ⟨hp,g,d,tk,os⟩) l xs c:=hl;have La:=sub_enumerate;rcases hl with⟨rfl,⟨o,e,hc,n,hd⟩⟩ | ⟨rfl,⟨o,e,hc,n,hd⟩⟩
  ·obtain⟨oc,od,odt,W2⟩:=o;replace hc:oc=.type "list":=hc;replace hd:odt=.seq xs n:=hd;subst hc hd
   wp_walk using kC e
   refine wpAny_stack_any λst=>aN ?_
   split
   ·rename_i c' _ _ _ _ _;cases(c'==Value.type "enumerate")<;>(wp_walk using kC e,ro hL)<;>exact⟨_,rfl,h _ _ rfl rfl⟩
   ·wp_walk using kC e,ro hL
    exact⟨_,rfl,h _ _ rfl rfl⟩
  ·obtain⟨oc,od,odt,W2⟩:=o;replace hc:oc=.type "tuple":=hc;replace hd:odt=.seq xs n:=hd;subst hc hd
   wp_walk using kC e
   refine wpAny_stack_any λst=>aN ?_
   split
   ·rename_i c' _ _ _ _ _;cases(c'==Value.type "enumerate")<;>(wp_walk using kC e,ro hL)<;>exact⟨_,rfl,h _ _ rfl rfl⟩
   ·wp_walk using kC e,ro hL
    exact⟨_,rfl,h _ _ rfl rfl⟩
theorem Ph{prog:bK}{w:aW}{A:bY}{E:cQ}{s:az}{e it l:ae}{k:Nat}{i:Int}{xs:Array aq}{old:aq}{Q:mP->az->Prop}(hh:A.handled=none)(a1:IsEnum s.heap e it i old)(st:SI s.heap it l k xs)(hx:xs[k]?=none)(hQ:∀h',Heap.ExtBut it s.heap h'->Q none {s with heap:=h'}):wpAny (model prog w) A (pyNext (.ref e)) Q E s:=by
 have ty:s.TypeIs (.ref e) "enumerate":=⟨_,a1,rfl⟩;unfold pyNext;refine av (wpAny_attempt (kD (name:=Str.ofString "__next__") ty F.slot_enumerate_next (jt F.slot_enumerate_next ty F.entry_enumerate_next (by
  show wpAny _ _ (field (.ref e) 2 >>= _) _ _ _;refine av (kL a1 rfl (x:=.ref it) rfl (av (SI.stop hh st hx λh' y sb ⟨o,ho,hc⟩=>?_)))
  exact av (CU (T:="StopIteration") (b:=true) ⟨o,ho,hc⟩ isSubtype_stop (aN (hQ _ sb)))) (F.args_enumerate_next_1 _))))
def Ien(K:aj)(c:Bool)(l:ae):It where
 go:=λi H=>∃vs v,FG K H c l vs/\vs[i]?=some v
 yld:=λi H x H'=>∃T v,H T=none/\x=.ref T/\H'=upd H T (.aC [.int i,v])/\∀vs,FG K H c l vs->vs[i]?=some v
 stop:=λi H=>∃vs,FG K H c l vs/\vs.length<=i
def eTn(e it l:Nat)(c:Bool)(i:Nat)(h:Heap):Prop:=(∃old,IsEnum h e it i old)/\Jr h c it l i
theorem Pj{P:bK}{w:aW}{K:aj}{elts:List au}{x1:Nat}{XX:Pos}{e it l:Nat}{c:Bool}(ord:it<e)(o1:l<it) :
  Turn P w K (.Tuple elts x1 XX) (Ien K c l) [e,it] e (eTn e it l c) where
 mem:=bo
 obj:=by
  rintro i h ⟨⟨_,a1⟩,a2⟩ b hb
  simp only[aZ,d3,d8]at hb;rcases hb with rfl | rfl
  ·exact⟨_,a1,λv=>by simp⟩
  ·exact a2.obj
 keep:=λi h h' ⟨⟨old,a1⟩,a2⟩ k=>⟨⟨old,k e (by simp) _ a1⟩,a2.at λo x=>k it (by simp) o x⟩
 item:=by
  rintro X hP hw hK hc i ag s σ H E I hf ⟨⟨old,a1⟩,a2⟩ ⟨vs,v,hv,ev⟩
  subst hP hw hK;obtain⟨aX,r1,k1⟩:=hv.get I;obtain⟨x,ex,rx⟩:=r1.get ev;have fg:i<aX.toArray.size:=by
   have:=(dF.mp ex).1;simpa using this
  have ne:e≠it:=sd ord;have nel:e≠l:=sd (Nat.lt_trans o1 ord);have HK:X.A.in1.handled=none:=I.ok.hd hc;refine wpAny_pyNext_enum_itemD (K8 (xs:=aX.toArray) (l:=l) HK) a1 (RX a2 k1) fg ne (by simp[ne,nel]) λx' h' tk RK hO st hT hs' kp=>⟨_,rfl,?_⟩
  have xe:x'=x:=by
   have e1:aX.toArray[i]?=some x:=by simpa using ex
   rw[e1]at RK;cases RK;rfl
  subst xe;refine wpAny_letOwnedTupleGo_enum hO λh'' ac2 sb=>?_
  have big:∀b∈[e,it],b<s.heap.objs.size:=λb hb=>by
   simp only[aZ,d3,d8]at hb;have h1:e<s.heap.objs.size:=bR a1;rcases hb with rfl | rfl<;>lia
  have eT:e≠s.heap.objs.size:=cX (big e (by simp))
  have kp2:∀b o,b∉[e,it]->s.heap.get? b=some o->h''.get? b=some o:=λb o hb z=>by
   simp only[aZ,d3,d8,not_or]at hb;exact sb.extBut _ _ hb.1 (kp b o hb.1 hb.2 z)
  have I1:Inv X ag σ H {s with heap:=h'',toks:=tk+1}:=Inv.turns I hf kp2
  have hn:H s.heap.objs.size=none:=I.fresh;have fp0:=I.Kb (H':=H) (bc _) hn;have pr:h''.get? s.heap.objs.size=some {cls:=.type "tuple",data:=.seq #[.int i tk,x']}:=sb.extBut _ _ (eE eT) hT
  have I2:=Inv.adopt (D:=s.heap.objs.size) (o:=.aC [.int i,v]) I1 hn (by
    rcases fp0.2.2.2.1 with q | q
    ·exact I.sz
    ·exact q) fp0.2.1 fp0.2.2.2.2.1 fp0.2.2.2.2.2 ⟨(by show 2<=sizeLine;decide),[.int i tk,x'],.cons ⟨tk,rfl⟩ (.cons rx .nil),⟨_,pr,rfl,0,rfl⟩⟩
  refine⟨.ref s.heap.objs.size,_,I2,rfl,⟨s.heap.objs.size,v,hn,rfl,rfl,λTU h1=>?_⟩,⟨⟨_,ac2⟩,?_⟩,λb hb=>?_⟩
  ·rw[<-FG.inj I hv h1];exact ev
  ·have nli:l≠it:=cX o1;have q:=Pf (k':=i) st k1 λo z=>kp l o (eE nel) nli z
   exact q.at λo z=>sb.extBut _ _ (eE ne) z
  ·rw[upd_ne (cX (big b hb))];exact(hf b hb).1
 done:=by
  rintro X hP hw hK hc i ag s σ H E I hf ⟨⟨old,a1⟩,a2⟩ ⟨vs,hv,he⟩
  subst hP hw hK;obtain⟨aX,r1,k1⟩:=hv.get I;have hz:aX.toArray[i]?=none:=Array.getElem?_eq_none (by rw[bI,<-r1.length];exact he)
  refine Ph (I.ok.hd hc) a1 (RX a2 k1) hz λh' sb=>⟨rfl,?_⟩
  exact Inv.turns (t':=s.toks) I hf λb o hb z=>by
   simp only[aZ,d3,d8,not_or]at hb;exact sb b o hb.2 z
 self:=λA i s Q E ⟨⟨_,a1⟩,_⟩ q=>wpAny_pyIter_enum a1 q
def dU:Nat->ay->ay
 | _,[]=>[]
 | k,p::r=>Av (.int k) p::dU (k+1) r
theorem pO:∀(ps:ay) (k i:Nat),(dU k ps)[i]?=ps[i]?.map λp=>Av (.int ((k+i:Nat):Int)) p
 | [],k,i=>by simp[dU]
 | p::r,k,0=>by simp[dU]
 | p::r,k,i+1=>by
  simp only[dU,Cn];rw[pO r (k+1) i,show k+1+i=k+(i+1) by lia]
def km(fa:FE):bP:=λρ=>(fa ρ).bind λp=>(K5 p).map λps=>dU 0 ps
theorem Pk{K:aj}{F:Hp}{c:Bool}{l:ae}{ps:ay}{vs:List V}(k1:∀F',Same F F'->FG K F' c l vs)(b1:bj K F ps vs):KH K (Ien K c l) F (dU 0 ps):=by
 intro H₀ ab F' ρ σ H R s i;have h1:=k1 H (s.trans R.sub);refine⟨λp e=>?_,λe=>?_⟩
 ·rw[pO]at e;cases z1:ps[i]? with
  | none=>rw[z1]at e;cases e
  | some p1 =>
   rw[z1]at e;cases e;obtain⟨v,e1,c1'⟩:=b1.get z1;refine⟨⟨vs,v,h1,e1⟩,λx H' ⟨T,v',hn,hx,hH,nS⟩=>?_⟩
   have g1:=nS vs h1;rw[e1]at g1;cases g1;subst hx hH;obtain⟨R2,s2⟩:=R.laid (.aC [.int i,v]) hn;refine⟨_,R2,s2,bH.mpr ⟨T,[.int i,v],rfl,iA.of aI,.cons ?_ (.cons (c1'.mono (s.trans s2)) .nil)⟩⟩;rw[jX];exact aM.mpr rfl
 ·refine⟨vs,h1,?_⟩;rw[pO]at e;cases z1:ps[i]? with
  | none =>
   have:=rM.mp z1;rw[b1.length]at this;exact this
  | some p1=>rw[z1]at e;cases e
section
variable {X:Cx} {H₀ ab:Hp} {a tg:au} {fa:FE} {pos p:Pos}
theorem ac3(ht:RY tg=true)(hg:Gl X "enumerate")(hm:X.mg "enumerate"=none)(ha:PE X a (tE X.K H₀ ab fa))(hs:starEach [a] X.env=[(false,eval a X.env)]) :
  PI X tg (.Call (.Name "enumerate" p) [a] [] pos) (tI X.K H₀ ab (km fa)):=by
 rintro ag s σ H R I ⟨F,ρ,zs,Rp,hf,q⟩;obtain⟨pa,f1,hf⟩:=ax hf;cases f3:K5 pa with
 | none=>rw[f3]at hf;cases hf
 | some ps =>
  rw[f3]at hf;cases hf;have hA:=dm ha ir hs pos ag s σ H (λvs H'=>∃F' x,vs=[x]/\cY X.K H₀ ab F' ρ σ H'/\Same F F'/\dh X.K F' pa x) I
   ⟨F,ρ,pa,Rp,f1,λv H1 F1 R1 s1 b1=>⟨F1,v,rfl,R1,s1,b1⟩⟩
  refine Call_ (ld_blt I hg hm boot_enumerate (mF (thn hA λus s1 ⟨vs,H1,I1,r1,F1,x,ev,R1,V4,b1⟩=>?_) hs rfl))
  subst ev;obtain⟨u1,rfl,XY⟩:=kj r1;obtain⟨c1,l1,vs1,rfl,q1,bl1,k1⟩:=K6 f3 b1;cases XY;obtain⟨aX,v1,kk1⟩:=(k1 H1 R1.sub).get I1;obtain⟨part,RZ⟩:∃o,s1.heap.get? l1=some o:=by
   rcases kk1 with⟨_,⟨o,e,_⟩⟩ | ⟨_,⟨o,e,_⟩⟩
   ·exact⟨o,e⟩
   ·exact⟨o,e⟩
  have lt1:l1<s1.heap.objs.size:=bR RZ;refine callType_new PySem.F.called_enumerate (by decide) (PySem.F.typeCall_enumerate_1 _) (PySem.F.newCall_enumerate_1 _) (λobj=>PySem.F.args_object_init_2 obj _) PySem.F.entry_enumerate_new (K9 l1 aX.toArray (HL c1) part) ⟨kk1,RZ,λh1 h2 e1 e2=>?_⟩
  have z1:h1.objs.size=s1.heap.objs.size+1:=by rw[e1];exact rY ..
  have p1:∀b o,s1.heap.get? b=some o->h1.get? b=some o:=λb o e=>by rw[e1];exact cD _ e
  have p2:∀b o,h1.get? b=some o->h2.get? b=some o:=λb o e=>by rw[e2];exact cD _ e
  have g2:IsEnum h2 h1.objs.size s1.heap.objs.size 0 .none:=by rw[e2];exact d0 _ rfl
  have g1:h2.get? s1.heap.objs.size=some {cls:=.type (HL c1),data:=.fields #[.ref l1,.int 0 0]}:=p2 _ _ (by rw[e1];exact d0 _ rfl)
  have itc:Jr h2 c1 s1.heap.objs.size l1 0:=by
   cases c1 with
   | true=>exact(show h2.IsListIter s1.heap.objs.size l1 0 from⟨_,g1,rfl,rfl⟩)
   | false=>exact(show h2.IsTupleIter s1.heap.objs.size l1 0 from⟨_,g1,rfl,rfl⟩)
  have I2:Inv X ag σ H1 {s1 with heap:=h2,toks:=s1.toks}:=I1.kept λb o e=>p2 _ _ (p1 _ _ e)
  have BZ:∀b,s1.heap.objs.size<=b->H1 b=none:=λb hb=>I1.hok.fresh hb
  refine⟨⟨_,g2,rfl⟩,?_⟩;show wpAny _ _ (pyIter (.ref h1.objs.size)) _ _ {s1 with heap:=h2,toks:=s1.toks}
  refine wpAny_pyIter_enum g2 ?_;cases tg with
  | Tuple elts x1 XX =>
   refine⟨h1.objs.size,[h1.objs.size,s1.heap.objs.size],_,_,H1,rfl,I2,Pj (it:=s1.heap.objs.size) (l:=l1) (c:=c1) (by lia) lt1,⟨⟨_,g2⟩,itc⟩,λb hb=>?_,q _ H1 F1 R1 V4 (Pk k1 bl1)⟩
   simp only[aZ,d3,d8]at hb;have TQ:s1.heap.objs.size<=b:=by rcases hb with rfl | rfl<;>lia
   exact I1.Kb (H':=H1) TQ (BZ b TQ)
  | _=>cases ht
end
theorem Pl{P:bK}{w:aW}{K:aj}{mg:dQ}{base:Heap}{x qual:Str}{st:aE}{f:ae}{fd:dN}{N ps:List Str}{k:Nat}{sp:Sp}(F:C0 K x qual st f fd)(S:dY N ps (aP st))(len:∀vs H Q E,sp vs H Q E->vs.length=ps.length)
  (hbody:∀(dI:aq) (A:bY) (outer:List Env) (s:az) (H:Hp) (vs:List V) (Q:VK) (E:XK),eJ k (A.deeper (envOfC qual (aP st) s.heap.objs.size f dI))->sp vs H Q E ->
   ∃t,qU (kq (kB P w) P w K mg base N qual (aP st) f dI A outer s H E) (cy st) t/\t {nx:=λ_ H'=>Q .cE H',rt:=Q} (start N vs) H):FnOk P w K mg base (kB P w) (k+1) f fd ps sp:=by
 obtain⟨oc,od,kV,doc,pm,an,dI,ct,uM,rfl,lk,vw⟩:=F.ex;exact Fe lk vw S len λA outer s H vs Q E hr mQ=>hbody dI A outer s H vs Q E hr mQ
def Pm(mg:dQ)(D:Str)(dv:aq):Prop:=mg D=some dv\/(mg D=none/\bootBuiltins D=some dv/\D≠"__name__")
def Lb(K:aj)(mg:dQ)(C D:Str)(b:Bool):Prop:=∃cls dv,ClsAt K C cls/\Pm mg D dv/\((∃Da,dv=.ref Da)\/∃T,dv=.type T)/\W.exmOne K cls dv=some b/\W.kitOne K cls dv=some b
def FH(K:aj)(mg:dQ)(P:Params)(T:Str)(b8:List (Str×Str)):Prop :=
 ∃a es n,mg T=some (.ref a)/\K.lookup a=some ⟨.type "dict",none,.dict es n,#[]⟩/\W.KeysLit P es.toList/\∀k fn,b8.lookup k=some fn->∃f,W.nsIn K a k=some (some (.ref f))/\mg fn=some (.ref f)/\W.nsIn K mainGlobals fn=some (some (.ref f))
section
variable {X:Cx} {H₀ ab:Hp} {e ke:au} {es:List au} {fk:FE} {ts:bP} {pos p sp:Pos}
def ac5(K:aj)(a:ae):R2:=λx y H Q=>∃k f,x=.ref a/\y=.str k/\W.nsIn K a k=some (some (.ref f))/\Q (.ref f) H
theorem Uo{a:ae}{es:Array DictEntry}{n:Nat}(hl:X.K.lookup a=some ⟨.type "dict",none,.dict es n,#[]⟩)(hk:W.KeysLit X.w.params es.toList):RD X (ac5 X.K a):=by
 rintro value slice ag s σ H x y v u Q I rx ry ⟨k,f,ex,ey,e,q⟩ hs;subst ex ey;cases rx;obtain⟨t,rfl⟩:=ry;have hm:=W.mapOf_K (prog:=X.prog) I.zj hl hk;exact tail_any hm.typeIs slot_dict_getitem.lookup (wpAny_getItem_of (strKind_is X.prog X.w k t) hm (W.find_K hl e) ⟨.ref f,H,I.tok _,rfl,q⟩) hs
theorem xQ(v k:au)(sp:Pos)(args:List au)(pos:Pos)(env:Env):eval (.Call (.Subscript v k sp) args [] pos) env=(do callWith pos (<-eval (.Subscript v k sp) env) [] (backTo pos (starEach args env)) (backToKw pos (keywordEach [] env))):=rfl
def Up(b8:List (Str×Str))(fns:List (Str×Nat))(call:eF)(ts:bP)(ρ:aG):PV->bU
 | .str k=>(b8.lookup k).bind λfn=>(fns.lookup fn).bind λm=>aD (aR m (call fn)) ts ρ
 | _=>none
def HM(b8:List (Str×Str))(fns:List (Str×Nat))(call:eF)(fk:FE)(ts:bP):FE:=λρ=>(fk ρ).bind (Up b8 fns call ts ρ)
theorem XZ{T:Str}{b8:List (Str×Str)}{fns:List (Str×Nat)}{call:eF}(ht:FH X.K X.mg X.w.params T b8)
  (WI:∀x n,fns.lookup x=some n->∃k f fd ps,FnOk X.prog X.w X.K X.mg X.base (kB X.prog X.w) k f fd ps (Dv X.K n (call x))/\eJ k X.A/\X.mg x=some (.ref f)/\W.keepIn X.K (.ref f)=true/\fO X.K fd ps [])
  (hg:Gl X T) (hk:PE X ke (tE X.K H₀ ab fk)) (hs:lM ke) (ha:PA X (e::es) (tA X.K H₀ ab ts)) (Dj:(T==("__debug__":Str))=false) (he:starEach (e::es) X.env=(false,eval e X.env)::starEach es X.env) (pH:(backTo pos (starEach es X.env)).any (·.1)=false) :
  PE X (.Call (.Subscript (.Name T p) ke sp) (e::es) [] pos) (tE X.K H₀ ab (HM b8 fns call fk ts)):=by
 rintro ag s σ H Q I ⟨F,ρ,pr,R,hf,q⟩;obtain⟨pk,h1,h2⟩:=ax hf;cases pk with
 | str k =>
  obtain⟨fn,h3,h2⟩:=ax (show(b8.lookup k).bind (λfn=>(fns.lookup fn).bind λm=>aD (aR m (call fn)) ts ρ)=some pr from h2)
  obtain⟨m,h4,h2⟩:=ax h2;obtain⟨a,WC,n,t1,t2,t3,t4⟩:=ht;obtain⟨f,n1,n2,_⟩:=t4 k fn h3;obtain⟨j,f',fd,ps,G,hr,m1,m2,m3⟩:=WI fn m h4;have:=bM (n2.symm.trans m1);cases this;rw[xQ];refine av (thn (Ab (Uo t2 t3) (E7 (v:=.ref a) hg t1 rfl Dj) hk hs ag s σ H (λv H1=>v=.ref f/\∃F1,cY X.K H₀ ab F1 ρ σ H1/\Same F F1) I ?_) λu s1 ⟨x,H1,I1,rx,ex,F1,R1,m1'⟩=>?_)
  ·exact⟨F,ρ,_,R,h1,λv H1 F1 R1 s1 b1=>⟨k,f,rfl,cI.mp b1,n1,rfl,F1,R1,s1⟩⟩
  ·subst ex;cases rx;refine W.callWith_K (h₀:=X.base) I.ok.mod.kin m2 (thn (ha pos ag s1 σ H1 _ I1 (tx (n:=m) (g:=call fn) (E:=E0) (Q:=Q) ⟨F1,ρ,pr,R1,h2,λv H2 F2 R2 s2 b2=>q v H2 F2 R2 (m1'.trans s2) b2⟩)) λus s2 ⟨vs,H2,I2,r,q2⟩=>⟨I2.zj,?_⟩) he pH
   exact Ko G hr m3 .nil qE I2 r q2
 | _=>cases h2
end
section
variable {X:Cx} {H₀ ab:Hp} {a b e:au} {es:List au} {fa fb:FE} {ts:bP} {pos p:Pos} {k n:Nat} {f:ae} {fd:dN} {ps:List Str} {x:Str} {g:ay->cH}
def X0(K:aj)(H₀ ab F:Hp)(ρ:aG)(σ:St)(Q:VK):Ent->Prop
 | .val p=>∀v H' F',cY K H₀ ab F' ρ σ H'->Same F F'->dh K F' p v->Q v H'
 | .own ps=>∀a vs H1 F',cY K H₀ ab F' ρ σ H1->Same F F'->bj K F' ps vs->H1 a=none->Q (.ref a) (upd H1 a (.ao vs))
 | _=>False
def tR(K:aj)(H₀ ab:Hp)(f:aG->cH):TE:=λσ H Q=>∃F ρ e,cY K H₀ ab F ρ σ H/\f ρ=some e/\X0 K H₀ ab F ρ σ Q e
def DE(f:FE):aG->cH:=λρ=>(f ρ).map .val
theorem X1(h:PE X e (tE X.K H₀ ab fa)):PE X e (tR X.K H₀ ab (DE fa)):=h.imp <| by
 rintro σ H Q ⟨F,ρ,en,R,hf,q⟩
 cases z:fa ρ with
 | none=>unfold DE at hf;rw[z]at hf;cases hf
 | some p =>
  unfold DE at hf;rw[z]at hf;cases hf;exact⟨F,ρ,p,R,z,q⟩
def Aw(g:ay->cH)(ts:bP):aG->cH:=λρ=>(ts ρ).bind g
theorem HN{σ:St}{H:Hp}{Q:VK}{E:XK}{K:aj}(h:tR K H₀ ab (Aw (aR n g) ts) σ H Q):zX (Dv K n g) [] E (tA K H₀ ab ts) σ H Q:=by
 obtain⟨F,ρ,en,R,hf,q⟩:=h;obtain⟨as,h1,h2⟩:=ax hf;cases en with
 | un=>exact q.elim
 | ex C=>exact q.elim
 | ob _=>exact q.elim
 | cn _=>exact q.elim
 | val p=>exact tx ⟨F,ρ,p,R,by unfold aD;rw[h1];show(aR n g as).bind nU=_;rw[h2];rfl,q⟩
 | own ps=>exact Hw ⟨F,ρ,ps,R,by unfold nV;rw[h1];show(aR n g as).bind OI=_;rw[h2];rfl,q⟩
theorem DF(F:FnOk X.prog X.w X.K X.mg X.base (kB X.prog X.w) k f fd ps (Dv X.K n g))(hr:eJ k X.A)(hg:Gl X x)(hm:X.mg x=some (.ref f))(hk:W.keepIn X.K (.ref f)=true)(hb:fO X.K fd ps [])
  (ha:PA X (e::es) (tA X.K H₀ ab ts)) (Dj:(x==("__debug__":Str))=false:=by decide) (he:starEach (e::es) X.env=(false,eval e X.env)::starEach es X.env:=by rfl) (pH:(backTo pos (starEach es X.env)).any (·.1)=false:=by rfl) :
  PE X (.Call (.Name x p) (e::es) [] pos) (tR X.K H₀ ab (Aw (aR n g) ts)):=(nQ F hr hg hm hk hb .nil qE ha Dj he pH).imp λ_ _ _ h=>HN h
def HP:PV->PV->cH
 | .ao xs,.ao ys=>if xs.length+ys.length<=gH then some (.own (xs++ys))else none
 | x,y=>(bQ x y).map .val
def Pn(fa fb:FE):aG->cH:=λρ=>(fa ρ).bind λx=>(fb ρ).bind λy=>HP x y
def X2(K:aj):R2:=λx y H Q=>∃H₀ ab F ρ τ pa pb en,HP pa pb=some en/\cY K H₀ ab F ρ τ H/\dh K F pa x/\dh K F pb y/\X0 K H₀ ab F ρ τ Q en
theorem Ax{pa pb:PV}{en:Ent}(h:HP pa pb=some en):(∃xs ys,pa=.ao xs/\pb=.ao ys/\xs.length+ys.length<=gH/\en=.own (xs++ys))\/∃p,bQ pa pb=some p/\en=.val p:=by
 unfold HP at h;split at h
 ·obtain⟨h1,h2⟩:=aK h;exact .inl ⟨_,_,rfl,rfl,h1,h2.symm⟩
 ·cases z:bQ pa pb with
  | none=>rw[z]at h;cases h
  | some p=>rw[z]at h;cases h;exact .inr ⟨p,rfl,rfl⟩
theorem Po:OpR X (binaryOp .Add) (X2 X.K):=by
 rintro ag s σ H x y v u Q I rx ry ⟨H₀,ab,F,ρ,τ,pa,pb,en,e,R,ba,bb,k⟩;rcases Ax e with⟨xs,ys,rfl,rfl,hz,rfl⟩ | ⟨p,hp,rfl⟩
 ·obtain⟨a,vs,rfl,ha,gX⟩:=bD.mp ba;obtain⟨b,ws,rfl,hb,NP⟩:=bD.mp bb;cases rx;cases ry;obtain⟨aX,n,r,e1,z1⟩:=I.tw (b0 R.sub ha);obtain⟨iW,n2,r2,e2,z2⟩:=I.tw (b0 R.sub hb);have hl:=r.length;have OY:=r2.length;have hz':vs.length+ws.length<=sizeLine:=by rw[<-gX.length,<-NP.length];exact fj hz
  refine PySem.P.add_list e1 e2 ?_ (by rw[bI,bI];lia)
  have ea:aX.toArray++iW.toArray=(aX++iW).toArray:=by simp
  rw[ea];exact⟨.ref _,_,I.Xc (t':=s.toks) (r.append r2) (by rw[bF];lia),rfl,k _ _ _ _ R (Same.refl F) (gX.append NP) I.fresh⟩
 ·exact xO ag s σ H x y v u Q I rx ry ⟨H₀,ab,F,ρ,τ,pa,pb,p,hp,R,ba,bb,k⟩
theorem X3(ha:PE X a (tE X.K H₀ ab fa))(hb:PE X b (tE X.K H₀ ab fb)):PE X (.BinOp a .Add b pos) (tR X.K H₀ ab (Pn fa fb)):=(Rz Po ha hb).imp <| by
 rintro σ H Q ⟨F,ρ,en,R,hf,q⟩
 obtain⟨x,h1,hf⟩:=ax hf;obtain⟨y,h2,hf⟩:=ax hf;refine⟨F,ρ,x,R,h1,λv H1 F1 R1 s1 b1=>⟨F1,ρ,y,R1,h2,λw H2 F2 R2 s2 b2=>⟨H₀,ab,F2,ρ,σ,x,y,en,hf,R2,b1.mono s2,b2,?_⟩⟩⟩
 cases en with
 | un=>exact q.elim
 | ex C=>exact q.elim
 | ob _=>exact q.elim
 | cn _=>exact q.elim
 | val p=>exact λv H' F' R' s' b'=>q v H' F' R' (s1.trans (s2.trans s')) b'
 | own ps=>exact λa vs H' F' R' s' b' hn=>q a vs H' F' R' (s1.trans (s2.trans s')) b' hn
def Uq(i:Nat)(f:aG->cH):FS:=λρ=>(f ρ).bind λe=>if i<ρ.length then some (.nx (ρ.set i e))else none
theorem Lc{i:Nat}{f:aG->cH}{t:TE}{D:kO}{σ:St}{H:Hp}(hv:∀ρ e,f ρ=some e->(∃p,e=.val p)\/∃ps,e=.own ps)(ht:∀σ H Q,tR X.K H₀ ab f σ H Q->t σ H Q)(h:tS X H₀ ab (Uq i f) D σ H):nN t (gName i) D σ H:=by
 obtain⟨F,ρ,o,R,hf,q⟩:=h;obtain⟨en,h1,h2⟩:=ax hf;obtain⟨hi,rfl⟩:=aK h2;refine ht _ _ _ ⟨F,ρ,en,R,h1,?_⟩;rcases hv ρ en h1 with⟨p,rfl⟩ | ⟨ps,rfl⟩
 ·exact λv H1 F1 R1 s1 b1=>q F1 _ _ (R1.set hi b1) s1
 ·exact λa vs H1 F1 R1 s1 b1 hn=>q F1 _ _ (R1.KP hi hn b1) s1
theorem Pp(f:FE)(ρ:aG)(e:Ent)(h:DE f ρ=some e):(∃p,e=.val p)\/∃ps,e=.own ps:=by
 unfold DE at h;cases z:f ρ with
 | none=>rw[z]at h;cases h
 | some p=>rw[z]at h;cases h;exact .inl ⟨p,rfl⟩
theorem Pq(fa fb:FE)(ρ:aG)(e:Ent)(h:Pn fa fb ρ=some e):(∃p,e=.val p)\/∃ps,e=.own ps:=by
 obtain⟨x,h1,h⟩:=ax h;obtain⟨y,h2,h⟩:=ax h;rcases Ax h with⟨xs,ys,_,_,_,rfl⟩ | ⟨p,_,rfl⟩
 ·exact .inr ⟨_,rfl⟩
 ·exact .inl ⟨_,rfl⟩
def HQ:Ent->cH
 | .val p=>some (.val p)
 | .own ps=>some (.own ps)
 | _=>none
def Ay(g:ay->cH)(ts:bP):aG->cH:=λρ=>(ts ρ).bind λas=>(g as).bind HQ
theorem v5{e e':Ent}(h:HQ e=some e'):e'=e/\((∃p,e=.val p)\/∃ps,e=.own ps):=by
 unfold HQ at h;split at h
 ·cases h;exact⟨rfl,.inl ⟨_,rfl⟩⟩
 ·cases h;exact⟨rfl,.inr ⟨_,rfl⟩⟩
 ·cases h
theorem Ld(g:ay->cH)(ts:bP)(ρ:aG)(e:Ent)(h:Ay g ts ρ=some e):(∃p,e=.val p)\/∃ps,e=.own ps:=by
 obtain⟨as,h1,h⟩:=ax h;obtain⟨en,h2,h⟩:=ax h;obtain⟨rfl,h3⟩:=v5 h;exact h3
theorem Pr{g:ay->cH}{ts:bP}{ρ:aG}{e:Ent}(h:Ay g ts ρ=some e):Aw g ts ρ=some e:=by
 obtain⟨as,h1,h⟩:=ax h;obtain⟨en,h2,h⟩:=ax h;obtain⟨rfl,h3⟩:=v5 h;unfold Aw;rw[h1];exact h2
theorem Pt{e:au}{g:ay->cH}{ts:bP}(h:PE X e (tR X.K H₀ ab (Aw g ts))):PE X e (tR X.K H₀ ab (Ay g ts)):=h.imp λσ H Q ⟨F,ρ,en,R,hf,q⟩=>⟨F,ρ,en,R,Pr hf,q⟩
end
def Az:ay->bU
 | [.int i]=>if 0<=i/\i<1000 then some (.str (toString i))else none
 | _=>none
theorem HR{X:Cx}:HE X (.type "str") Az:=by
 rintro ag s σ H xs us Q I rs ⟨H₀,ab,F,ρ,τ,ps,p,e,R,bs,k⟩;unfold Az at e;split at e
 ·rename_i i;obtain⟨⟨h0,h1⟩,rfl⟩:=aK e;obtain⟨v,rfl,b⟩:=eX bs;rw[aM.mp b]at rs;have hz:i.natAbs.log2<1920:=by
   by_cases h:i.natAbs=0
   ·rw[h];decide
   ·exact jT (Nat.log2_le_self _) (by lia)
  exact xw ag s σ H _ us Q I rs ⟨i,rfl,hz,k _ H F R (Same.refl F) (cI.mpr rfl)⟩
 ·cases e
def HS(w:bU):PV->bU
 | .bl b=>if b=true then some (.bl true)else w
 | .ao ps=>if ps.isEmpty=true then w else some (.ao ps)
 | .aC ps=>if ps.isEmpty=true then w else some (.aC ps)
 | _=>none
def X4(fa fb:FE):FE:=λρ=>(fa ρ).bind (HS (fb ρ))
theorem Le{K:aj}{w:bU}{x p:PV}{F H:Hp}{v:V}(h:HS w x=some p)(b:dh K F x v)(s:Same F H):∃k,WZ K v H k/\(if k=true then p=x else w=some p):=by
 cases x with
 | bl c =>
  rw[bZ.mp b];refine⟨c,rfl,?_⟩;cases c with
  | true=>exact(bM h).symm
  | false=>exact h
 | ao ps =>
  obtain⟨a,vs,rfl,h1,h2⟩:=bD.mp b;refine⟨!vs.isEmpty,.inl ⟨vs,(b0 s h1).sq,rfl⟩,?_⟩;cases ps with
  | nil=>rw[h2.b9];exact h
  | cons q r =>
   obtain⟨v0,vr,rfl,_,_⟩:=h2.cb;exact(bM h).symm
 | aC ps =>
  obtain⟨a,vs,rfl,h1,h2⟩:=bH.mp b;refine⟨!vs.isEmpty,.inr (.inl ⟨vs,bg s h1,rfl⟩),?_⟩;cases ps with
  | nil=>rw[h2.b9];exact h
  | cons q r =>
   obtain⟨v0,vr,rfl,_,_⟩:=h2.cb;exact(bM h).symm
 | _=>cases h
theorem X5{X:Cx}{H₀ ab:Hp}{a b:au}{rest:List au}{fa fb:FE}{pos:Pos}(ha:PE X a (tE X.K H₀ ab fa))(hb:PE X (.BoolOp .Or (b::rest) pos) (tE X.K H₀ ab fb)):PE X (.BoolOp .Or (a::b::rest) pos) (tE X.K H₀ ab (X4 fa fb)):=by
 rintro ag s σ H Q I ⟨F,ρ,p,R,hf,q⟩;obtain⟨x,h1,h2⟩:=ax hf;refine BoolOp_or (thn (ha ag s σ H (λv H1=>∃F1,cY X.K H₀ ab F1 ρ σ H1/\Same F F1/\dh X.K F1 x v) I ⟨F,ρ,x,R,h1,λv H1 F1 R1 s1 b1=>⟨F1,R1,s1,b1⟩⟩) λv s1 ⟨xv,H1,I1,r1,F1,R1,m1,b1⟩=>?_)
 obtain⟨k,ht,hk⟩:=Le h2 b1 R1.sub;refine thn (Tp ag s1 σ H1 xv v (λk' H'=>k'=k/\H'=H1) I1 r1 ⟨k,ht,rfl,rfl⟩) λc s2 ⟨H2,I2,ec,eh⟩=>?_
 subst ec eh;cases c with
 | false=>exact hb ag s2 σ H2 Q I2 ⟨F1,ρ,p,R1,hk,λv' H3 F3 R3 s3 b3=>q v' H3 F3 R3 (m1.trans s3) b3⟩
 | true =>
  have hk:p=x:=hk;subst hk;exact⟨xv,H2,I2,r1,q xv H2 F1 R1 m1 b1⟩
section
variable {X:Cx} {H₀ ab:Hp} {a b:au} {fa fb:FE} {pos p HU zp:Pos}
theorem Lf{e:au}{X:Cx}(h:starEach [e] X.env=(false,eval e X.env)::starEach [] X.env){pos:Pos}{Q:cg->az->Prop}{E:cQ}{s:az}{M:Model}{A:bY}(hq:wpAny M A (eval e X.env) (λv s1=>Q [v] s1) E s):wpAny M A (spliced (backTo pos (starEach [e] X.env))) Q E s:=by
 rw[h];show wpAny _ _ (spliced ((false,eval e X.env)::backTo pos (starEach [] X.env))) _ _ s;exact Calls.spliced_cons (thn hq λv s1 q=>Calls.spliced_nil q)
end
def insI(x:Int):List Int->List Int
 | []=>[x]
 | y::r=>if x<=y then x::y::r else y::insI x r
def om:List Int->List Int
 | []=>[]
 | x::r=>insI x (om r)
theorem pQ(x:Int):∀l:List Int,(insI x l).Perm (x::l)
 | []=>.refl _
 | y::r=>by
  unfold insI;split
  ·exact .refl _
  ·exact((pQ x r).cons y).trans (.swap x y r)
theorem mU:∀l:List Int,(om l).Perm l
 | []=>.refl _
 | x::r=>(pQ x (om r)).trans ((mU r).cons x)
theorem FI(x:Int):∀l:List Int,l.Pairwise (· <= ·)->(insI x l).Pairwise (· <= ·)
 | [],_=>List.pairwise_singleton _ _
 | y::r,h=>by
  obtain⟨h1,h2⟩:=CB.mp h;unfold insI;split
  ·rename_i hx;refine CB.mpr ⟨λz hz=>?_,h⟩
   rcases aZ.mp hz with rfl | hz
   ·exact hx
   ·exact Int.le_trans hx (h1 z hz)
  ·rename_i hx;refine CB.mpr ⟨λz hz=>?_,FI x r h2⟩
   rcases aZ.mp ((pQ x r).mem_iff.mp hz)with rfl | hz
   ·lia
   ·exact h1 z hz
theorem AA:∀l:List Int,(om l).Pairwise (· <= ·)
 | []=>.nil
 | x::r=>FI x _ (AA r)
theorem DG:∀{us:cg} {ns:List Int},IntsAre us ns->Vals (ns.map V.int) us:=by
 intro us ns h;induction h with
 | nil=>exact .nil
 | cons a t _ ih=>exact .cons ⟨t,rfl⟩ ih
theorem pS{K:aj}{F:Hp}:∀ns:List Int,bj K F (ns.map .int) (ns.map V.int)
 | []=>.nil
 | n::r=>.cons (aM.mpr rfl) (pS r)
section
variable {X:Cx} {H₀ ab:Hp} {e:au} {lo hi:Option au} {fa:FE} {fl fh:FO} {pos p2:Pos}
def Ur:PV->Option ay
 | .ao xs=>some xs
 | _=>none
def Pu(fa:FE)(fl fh:FO):aG->cH:=λρ=>(fa ρ).bind λp=>(fl ρ).bind λl=>(fh ρ).bind λh=>(Ur p).map λxs=>.own (jz xs l h)
theorem X6(ha:PE X e (tE X.K H₀ ab fa))(hl:PO X lo (Au X.K H₀ ab fl))(hh:PO X hi (Au X.K H₀ ab fh)):PE X (.Subscript e (.Slice lo hi none p2) pos) (tR X.K H₀ ab (Pu fa fl fh)):=(Aa Fi ha hl hh).imp <| by
 rintro σ H Q ⟨F,ρ,en,R,hf,q⟩
 obtain⟨pa,h1,hf⟩:=ax hf;obtain⟨l,h2,hf⟩:=ax hf;obtain⟨h,h3,h4⟩:=ax hf;cases pa with
 | ao xs =>
  cases h4;refine⟨F,ρ,_,R,h1,λv H1 F1 R1 s1 b1=>⟨F1,ρ,l,R1,h2,λH2 F2 R2 s2=>⟨F2,ρ,h,R2,h3,λH3 F3 R3 s3=>?_⟩⟩⟩
  obtain⟨a,vs,rfl,ha,gX⟩:=bD.mp (b1.mono (s2.trans s3));exact⟨a,vs,rfl,(b0 R3.sub ha).sq,λq' hq=>q q' _ H3 F3 R3 (s1.trans (s2.trans s3)) (gX.cut l h) hq⟩
 | _=>cases h4
theorem Pw(fa:FE)(fl fh:FO)(ρ:aG)(e:Ent)(h:Pu fa fl fh ρ=some e):(∃p,e=.val p)\/∃ps,e=.own ps:=by
 obtain⟨pa,h1,hf⟩:=ax h;obtain⟨l,h2,hf⟩:=ax hf;obtain⟨k,h3,h4⟩:=ax hf;cases pa with
 | ao xs=>cases h4;exact .inr ⟨_,rfl⟩
 | _=>cases h4
end
theorem X7{α β:Type}{o:Option α}{f:α->β}{b:β}(h:o.map f=some b):∃a,o=some a/\f a=b:=by
 cases o with
 | none=>cases h
 | some a=>exact⟨a,rfl,bM h⟩
section
variable {X:Cx} {H₀ ab:Hp} {e:au} {fa:FE} {pos p:Pos} {x:Str}
def X8:PV->Option ay
 | .ao xs=>some xs
 | .aC xs=>some xs
 | _=>none
def Us(fa:FE):aG->cH:=λρ=>(fa ρ).bind λp=>(X8 p).map λxs=>.own xs
theorem X9(hg:Gl X "list")(hm:X.mg "list"=none)(ha:PE X e (tE X.K H₀ ab fa))(he:starEach [e] X.env=(false,eval e X.env)::starEach [] X.env):PE X (.Call (.Name "list" p) [e] [] pos) (tR X.K H₀ ab (Us fa)) :=
 (jJ (T:="list") j1 hg hm (j3 .list) (pJ ha vS he) (by decide) (by decide) he rfl).imp <| by
  rintro σ H Q ⟨F,ρ,en,R,hf,q⟩
  obtain⟨pa,h1,hf⟩:=ax hf;refine⟨F,ρ,[pa],R,?_,λvs H1 F1 R1 s1 b1=>?_⟩
  ·show(fa ρ).bind _=_;rw[h1];rfl
  ·obtain⟨w,rfl,bw⟩:=eX b1;cases pa with
   | ao xs =>
    cases hf;obtain⟨a,us,rfl,ha,gX⟩:=bD.mp bw;exact⟨a,us,rfl,.inl (b0 R1.sub ha).sq,λl hl=>q l us H1 F1 R1 s1 gX hl⟩
   | aC xs =>
    cases hf;obtain⟨a,us,rfl,ha,gX⟩:=bH.mp bw;exact⟨a,us,rfl,.inr (bg R1.sub ha),λl hl=>q l us H1 F1 R1 s1 gX hl⟩
   | _=>cases hf
theorem Px(fa:FE)(ρ:aG)(e:Ent)(h:Us fa ρ=some e):(∃p,e=.val p)\/∃ps,e=.own ps:=by
 obtain⟨pa,h1,h2⟩:=ax h;cases z:X8 pa with
 | none=>rw[z]at h2;cases h2
 | some xs=>rw[z]at h2;cases h2;exact .inr ⟨_,rfl⟩
end
section
variable {X:Cx} {H₀ ab:Hp}
def R6(fo:bP):bP:=λρ=>(fo (dX none ρ)).bind λps=>if ps.all k8=true then some ps else none
theorem v9{K:aj}{F F':Hp}:∀{ps:ay} {vs:List V},ps.all k8=true->bj K F ps vs->bj K F' ps vs
 | [],_,_,b=>by rw[b.b9];exact .nil
 | p::ps,_,h,b=>by
  rw[fI,aO]at h;obtain⟨v,vr,rfl,b1,b2⟩:=b.cb;exact .cons (iJ h.1 b1) (v9 h.2 b2)
theorem AB{K:aj}{fo:bP}{σ:St}{H:Hp}{Q:VK}(h:tF K H₀ ab (R6 fo) σ H Q):tF K H₀ ab fo σ H Q:=by
 obtain⟨F,ρ,ps,R,hf,q⟩:=h;obtain⟨ps',h1,h2⟩:=ax hf;obtain⟨hp,rfl⟩:=aK h2;obtain⟨F1,R1,s1,k1⟩:=R.mj none;exact⟨F1,dX none ρ,ps',R1,h1,λa vs H1 F' R2 s2 b2 hn=>q a vs H1 F (R.OS R1 s1 k1 R2 s2) (Same.refl F) (v9 hp b2) hn⟩
end
end L2.PL
namespace PySem
open Sem (wp)
theorem qY:entryFor table "set.__iter__"=some Builtin.«frozenset.__iter__» := entryFor_alias (id':="frozenset.__iter__") (by kernel_rfl) rfl (by decide +kernel) (by kernel_rfl)
theorem fB:Slot "set_iterator" "__next__" "set_iterator.__next__" :=
 .of (owner:="set_iterator") (n:="__next__") (by rw[typeLookup_type,builtinLookup_eq_fast];kernel_rfl) (by decide +kernel) (by decide +kernel) (by decide +kernel)
  (by first | exact .inl (by decide +kernel) | exact .inr (by decide +kernel)) (by rw[isSubtype_type];kernel_rfl)
theorem mv:entryFor table "set_iterator.__next__"=some Builtin.«set_iterator.__next__» := entryFor_of_tree (by kernel_rfl)
theorem oo(a:aq):argsOk "set_iterator.__next__" ⟨[a],[]⟩:=by unfold argsOk;kernel_rfl
theorem oq:Slot "set_iterator" "__iter__" "set_iterator.__iter__" :=
 .of (owner:="set_iterator") (n:="__iter__") (by rw[typeLookup_type,builtinLookup_eq_fast];kernel_rfl) (by decide +kernel) (by decide +kernel) (by decide +kernel)
  (by first | exact .inl (by decide +kernel) | exact .inr (by decide +kernel)) (by rw[isSubtype_type];kernel_rfl)
theorem uW:entryFor table "set_iterator.__iter__"=some Builtin.«dict_keyiterator.__iter__» := entryFor_alias (id':="dict_keyiterator.__iter__") (by kernel_rfl) rfl (by decide +kernel) (by kernel_rfl)
theorem xT(a:aq):argsOk "set_iterator.__iter__" ⟨[a],[]⟩:=by unfold argsOk;kernel_rfl
def ej(es:Array (Int×aq))(ep:Nat)(t:SetTable):Obj:={cls:=.type "set",dict:=none,data:=.set es ep t,slots:=#[]}
abbrev BT(w:aW):Bool:=w.params.followText "set-order"
section
variable {prog:bK} {w:aW} {A:bY} {E:cQ} {s:az} {a:ae} {es:Array (Int×aq)} {ep:Nat} {t:SetTable}
theorem mV{Q:Bool->az->Prop}(h:Q (BT w) s):wpAny (model prog w) A setsByText Q E s:=by
 unfold setsByText;exact av (CP (aN h))
theorem xU{Q:Bool->az->Prop}(hS:s.heap.get? a=some (ej es ep t))(hf:t.fits es.size=true)(hg:BT w=true\/t.plain=true)(h:Q false s):wpAny (model prog w) A (setDrawn a) Q E s:=by
 unfold setDrawn;refine av (kG hS rfl hf ?_);refine av (mV ?_);refine aN ?_;have e:(!BT w&&(!t.plain&&decide (es.size>1)))=false:=by
  rcases hg with g | g
  ·rw[g];rfl
  ·rw[g];cases BT w<;>rfl
 show Q (!BT w&&(!t.plain&&decide (es.size>1))) s;rw[e];exact h
theorem DH{Q:cQ}(hS:s.heap.get? a=some (ej es ep t))(hf:t.fits es.size=true)(hg:BT w=true\/t.plain=true)
  (hQ:Q (.ref s.heap.objs.size) {s with heap:=s.heap.push {cls:=.type "set_iterator",data:=.fields #[.int 0 0,.int 0 0,.ref a,.int es.size 0,.int ep 0]}}):wpAny (model prog w) A (pyIter (.ref a)) Q E s:=by
 have hT:s.TypeIs (.ref a) "set":=⟨_,hS,rfl⟩;refine wpAny_pyIter_slot hT F.slot_set_iter (jt F.slot_set_iter hT qY ?_ (F.args_set_iter_1 _));unfold Builtin.«frozenset.__iter__» Builtin.Frozenset.slot0;refine av (av (m:=slotArgs "__iter__" 0 _) (aN ?_));show wpAny _ _ (pure a) _ _ s;refine aN ?_;unfold Builtin.Frozenset.sizeOf setEntries;refine av (av (av (kG hS rfl hf (aN (aN ?_)))));refine av (xU hS hf hg ?_);rw[if_neg iE];refine av (aN ?_);refine av (wpAny_setEpoch_of hS rfl hf ?_);unfold newFields;refine av (jq (aN ⟨_,rfl,"set_iterator",_,⟨_,d0 _ rfl,rfl⟩,fB.lookup,?_⟩));simpa[rawInt]using hQ
end
section
variable {prog:bK} {w:aW} {A:bY} {E:cQ} {s:az} {a:ae} {es:Array (Int×aq)} {ep:Nat} {t:SetTable}
def FJ(t:SetTable):Nat->Nat
 | 0=>0
 | i+1=>t.place.getD i 0+1
def fq(w:aW)(t:SetTable)(i:Nat):Nat:=if BT w=true then 0 else FJ t i
def lh(w:aW)(a:ae)(ep:Nat)(es:Array (Int×aq)):Array (Int×aq):=if BT w=true then pickOrder (w.params.setOrder a ep) es else es
structure gJ (w:aW) (a:ae) (ep:Nat) (es:Array (Int×aq)) (t:SetTable):Prop where
 fits:t.fits es.size=true
 size:(lh w a ep es).size=es.size
 led:BT w=false->t.led=true/\t.plain=true/\∀i,i<=es.size->SetTable.below t.place (FJ t i)=i
theorem gJ.ok(g:gJ w a ep es t):BT w=true\/t.plain=true:=by
 cases h:BT w with
 | true=>exact .inl rfl
 | false=>exact .inr (g.led h).2.1
theorem gJ.place(g:gJ w a ep es t):t.place.size=es.size:=by
 have:=g.fits;simp only[SetTable.fits,aO,beq_iff_eq]at this;exact this.1
theorem AD(hS:s.heap.get? a=some (ej es ep t))(g:gJ w a ep es t)(i:Nat)(hi:i<=es.size){Q:Option (aq×Nat)->az->Prop}
  (h:Q (((lh w a ep es)[i]?).map λe=>(e.2,fq w t (i+1))) s):wpAny (model prog w) A (setNext a (fq w t i) i ep) Q E s:=by
 unfold setNext;refine av (kG hS rfl g.fits ?_);refine av (mV ?_);cases hb:BT w with
 | true =>
  rw[if_pos rfl];dsimp only
  rw[if_neg (by simp)]
  unfold setWalk;refine av (av (kG hS rfl g.fits ?_));refine av (mV ?_);rw[hb,if_pos rfl];refine av (CP ?_);refine aN (aN ?_);unfold lh fq at h;rw[hb]at h;simp only[mO]at h;unfold fq;rw[hb];exact h
 | false =>
  obtain⟨hl,hp,hw⟩:=g.led hb;rw[if_neg iE];refine av (aN ?_);show wpAny _ _ (if(!t.plain&&decide (es.size>1))=true then _ else _) _ _ s
  rw[hp];rw[if_neg (by simp)]
  refine av ?_;show wpAny _ _ (if(!t.led&&!es.isEmpty)=true then _ else _) _ _ s
  rw[hl,if_neg (by simp)]
  refine aN ?_;refine aN ?_;unfold lh fq at h;rw[hb]at h;simp only[Bool.false_eq_true,pA]at h;have e:SetTable.below t.place (fq w t i)=i:=by unfold fq;rw[hb,if_neg iE];exact hw i hi
  rw[e];have pH:=g.place;by_cases fg:i<es.size
  ·have h1:es[i]?=some es[i]:=by simp[fg]
   have h2:t.place[i]?=some (t.place[i]'(by lia)):=by simp[show i<t.place.size by lia]
   rw[h1,h2];rw[h1]at h;have h3:FJ t (i+1)=t.place[i]'(by lia)+1:=by
    show t.place.getD i 0+1=_;simp[Array.getD,show i<t.place.size by lia]
   rw[h3]at h;exact h
  ·have h1:es[i]?=none:=by simp;lia
   rw[h1];rw[h1]at h;exact h
end
section
variable {prog:bK} {w:aW} {A:bY} {E:cQ} {s:az} {a it:ae} {es:Array (Int×aq)} {ep:Nat} {t:SetTable}
def gA(h:Heap)(it a:ae)(sl i n ep:Nat):Prop:=∃o,h.get? it=some o/\o.cls=.type "set_iterator"/\o.data=.fields #[.int sl 0,.int i 0,.ref a,.int n 0,.int ep 0]
theorem gA.typeIs{sl i n:Nat}(x:gA s.heap it a sl i n ep):s.TypeIs (.ref it) "set_iterator":=let ⟨o,ho,hc,_⟩:=x;⟨o,ho,hc⟩
theorem Lg(uV:gA s.heap it a (fq w t i) i es.size ep)(hS:s.heap.get? a=some (ej es ep t))(g:gJ w a ep es t)(hi:i<es.size){Q:mP->az->Prop}
  (hQ:∀v h',(∃e,(lh w a ep es)[i]?=some e/\v=e.2)->gA h' it a (fq w t (i+1)) (i+1) es.size ep->Heap.SameBut it s.heap h'->Q (some v) {s with heap:=h'}):wpAny (model prog w) A (pyNext (.ref it)) Q E s:=by
 obtain⟨o,ho,hc,hd⟩:=id uV;unfold pyNext;refine av (wpAny_attempt (kD (name:=Str.ofString "__next__") uV.typeIs fB (jt fB uV.typeIs mv ?_ (oo _))));unfold Builtin.«set_iterator.__next__»;refine av (m:=slotArgs "__next__" 0 _) (aN ?_);refine av (wpAny_fieldsOf ho hd ?_);dsimp only
 unfold setEntries;refine av (av (kG hS rfl g.fits (aN ?_)));dsimp only
 rw[if_neg (by simp)]
 have h1:(lh w a ep es)[i]?=some ((lh w a ep es)[i]'(by rw[g.size];exact hi)):=by simp[g.size,hi]
 refine av ?_;rw[show((fq w t i:Nat):Int).toNat=fq w t i from fH _,show((i:Nat):Int).toNat=i from fH _,show((ep:Nat):Int).toNat=ep from fH _]
 refine AD hS g i (mM hi) ?_;rw[h1];dsimp only[Option.map]
 show wpAny _ _ (setField (.ref it) 0 (rawInt (fq w t (i+1):Nat)) >>= _) _ _ s;refine av (rZ ho hd (by simp) ?_)
 obtain⟨o1,g1,c1,d1⟩:∃o1,(s.heap.update it (Obj.mapFields (·.setIfInBounds 0 (rawInt (fq w t (i+1):Nat))))).get? it=some o1/\o1.cls=.type "set_iterator"/\o1.data=.fields #[.int (fq w t (i+1):Nat) 0,.int i 0,.ref a,.int es.size 0,.int ep 0] :=
  ⟨_,wU _ ho (Cs (oX hd _)),(CH ..).trans hc,by rw[oX hd];simp[rawInt]⟩
 have b1:Heap.SameBut it s.heap (s.heap.update it (Obj.mapFields (·.setIfInBounds 0 (rawInt (fq w t (i+1):Nat))))):=oU ..
 generalize (s.heap.update it (Obj.mapFields (·.setIfInBounds 0 (rawInt (fq w t (i+1):Nat)))))=H1 at g1 b1 ⊢
 refine av (rZ (s:={s with heap:=H1}) g1 d1 (by simp) ?_)
 have Ut:gA (H1.update it (Obj.mapFields (·.setIfInBounds 1 (rawInt ((i:Int)+1))))) it a (fq w t (i+1)) (i+1) es.size ep :=
  ⟨_,wU _ g1 (Cs (oX d1 _)),(CH ..).trans c1,by rw[oX d1];simp[rawInt]⟩
 exact aN ⟨_,rfl,aN (hQ _ _ ⟨_,h1,rfl⟩ Ut (b1.trans (oU ..)))⟩
theorem Py(hh:A.handled=none)(uV:gA s.heap it a (fq w t es.size) es.size es.size ep)(hS:s.heap.get? a=some (ej es ep t))(g:gJ w a ep es t){Q:mP->az->Prop}
  (hQ:∀h',Heap.ExtBut it s.heap h'->Q none {s with heap:=h'}):wpAny (model prog w) A (pyNext (.ref it)) Q E s:=by
 obtain⟨o,ho,hc,hd⟩:=id uV;unfold pyNext;refine av (wpAny_attempt (kD (name:=Str.ofString "__next__") uV.typeIs fB (jt fB uV.typeIs mv ?_ (oo _))));unfold Builtin.«set_iterator.__next__»;refine av (m:=slotArgs "__next__" 0 _) (aN ?_);refine av (wpAny_fieldsOf ho hd ?_);dsimp only
 unfold setEntries;refine av (av (kG hS rfl g.fits (aN ?_)));dsimp only
 rw[if_neg (by simp)]
 have h1:(lh w a ep es)[es.size]?=none:=by simp[g.size]
 refine av ?_;rw[show((fq w t es.size:Nat):Int).toNat=fq w t es.size from fH _,show((es.size:Nat):Int).toNat=es.size from fH _,show((ep:Nat):Int).toNat=ep from fH _]
 refine AD hS g es.size (bc _) ?_;rw[h1];dsimp only[Option.map]
 show wpAny _ _ (setField (.ref it) 2 .none >>= _) _ _ s;refine av (rZ ho hd (by simp) ?_)
 show wpAny _ _ (newExc (.type "StopIteration") [] >>= _) _ _ _;refine av ?_;simp only[newExc,newTuple];refine av (jq ?_ (by size_fits))
 refine av (m:=firstArgMember _ _) (wpAny_of_eq (a:=Value.none) (by first | rfl | (simp only[firstArgMember];rfl)) ?_)
 refine jq ?_ (by size_fits)
 simp only[raiseNew];refine av (wpAny_handled ?_);rw[show A.in1.handled=none from hh]
 refine av (aN (wpAny_throw ?_));refine av (CU (T:="StopIteration") (b:=true) ⟨_,d0 _ rfl,rfl⟩ isSubtype_stop ?_);exact aN (hQ _ (((oU ..).extBut.push _).push _))
theorem Lh{sl i n:Nat}{Q:cQ}(uV:gA s.heap it a sl i n ep)(h:Q (.ref it) s):wpAny (model prog w) A (pyIter (.ref it)) Q E s:=by
 refine wpAny_pyIter_slot uV.typeIs oq (jt oq uV.typeIs uW ?_ (xT _));show wpAny _ _ (ret (.ref it)) _ _ s;exact aN ⟨_,rfl,"set_iterator",_,uV.typeIs,fB.lookup,h⟩
theorem Walks.ac6(hh:A.handled=none)(I a:ae)(hne:a≠I)(g:gJ w a ep es t) :
  Walks prog w A I [I,a] [I] es.size (λi v=>∃e,(lh w a ep es)[i]?=some e/\v=e.2) (λi h=>gA h I a (fq w t i) i es.size ep/\h.get? a=some (ej es ep t)) where
 sub:=λb hb=>by simp at hb;simp[hb]
 frame:=λ_ _ _ st hk=>⟨let ⟨o,ho,r⟩:=st.1;⟨o,hk I (by simp) o ho,r⟩,hk a (by simp) _ st.2⟩
 item:=λi s Q E hi st hQ=>Lg st.1 st.2 g hi λv h' hv Ut hs'=>hQ v h' s.toks hv ⟨Ut,hs'.extBut a _ hne st.2⟩ λb o hb e=>hs'.extBut b o (λh=>hb (by simp[h])) e
 done:=λs Q E st hQ=>Py hh st.1 st.2 g λh' he'=>hQ h' s.toks λb o hb e=>he' b o (λh=>hb (by simp[h])) e
 self:=λ_ _ _ _ st hQ=>Lh st.1 hQ
theorem Li{r:ae}{Q:Bool->az->Prop}(hT:s.TypeIs (.ref r) "set")(h:Q false s):wpAny (model prog w) A (Builtin.List.listLengthHint (.ref r)) Q E s:=by
 unfold Builtin.List.listLengthHint;refine av (wpAny_specialOf hT F.slot_set_len.lookup ?_)
 generalize hid:("set.__len__":String)=id0
 wp_delta
 rw[show splitId id0=some ("set","__len__")from by subst hid;decide +kernel]
 subst hid;refine av (CU (T:="set") (b:=true) hT (by rw[isSubtype_type];kernel_rfl) ?_)
 refine CY (λhab=>absurd hab (by decide)) (λ_=>?_)
 refine CY (λ_=>?_) (λhab=>absurd (by decide +kernel) hab)
 refine av (xh hT ?_);exact aN h
theorem Pz(g:gJ w a ep es t):W.KdlSrc prog w "set" a a es.size (λi v=>∃e,(lh w a ep es)[i]?=some e/\v=e.2) (λh=>h.get? a=some (ej es ep t)) where
 type:=λ_ hm=>⟨_,hm,rfl⟩
 there:=λ_ hm=>⟨bR hm,bR hm⟩
 keep:=λ_ _ hm hk=>hk a (.inl rfl) _ hm
 notList:=by decide
 notTuple:=by decide
 hint:=λ_ _ _ _ hm hq=>Li ⟨_,hm,rfl⟩ hq
 iter:=λA s hh hm=>⟨_,_,(λ_ _ hq=>DH hm g.fits g.ok hq),Walks.ac6 hh _ a (cX (bR hm)) g,⟨⟨_,d0 _ rfl,rfl,by
  have:fq w t 0=0:=by unfold fq FJ;split<;>rfl
  rw[this];rfl⟩,cD _ hm⟩⟩
end
section
open PyProof.Rows
theorem tV{α:Type}:∀(l:List α) (i:Nat) (h:i<l.length),([l[i]]++l.eraseIdx i).Perm l
 | [],i,h=>absurd h (by simp)
 | x::l,0,_=>.refl _
 | x::l,i+1,h=>by
  have h':i<l.length:=by simpa using h
  have ih:=tV l i h';rw[List.getElem_cons_succ,List.eraseIdx_cons_succ];exact(List.Perm.swap x l[i] (l.eraseIdx i)).trans (ih.cons x)
theorem FK{α:Type}(nx:Nat->Nat):∀(PC k:Nat) (left:List α) (out:Array α),PC=left.length->(pickOrder.go nx PC k left out).toList.Perm (out.toList++left)
 | 0,k,left,out,h=>by
  have:left=[]:=Jy h.symm;subst this;rw[gG];exact .refl _
 | PC+1,k,left,out,h=>by
  have hl:nx k%left.length<left.length:=Nat.mod_lt _ (by lia)
  unfold pickOrder.go;rw[dG hl];refine(FK nx PC (k+1) (left.eraseIdx (nx k%left.length)) (out.push left[nx k%left.length]) (by rw[List.length_eraseIdx_of_lt hl];lia)).trans ?_
  rw[Array.toList_push,gk];refine List.Perm.append_left _ ?_;exact tV left _ hl
theorem HV{α:Type}(nx:Nat->Nat)(xs:Array α):(pickOrder nx xs).toList.Perm xs.toList:=by
 unfold pickOrder;have:=FK nx xs.size 0 xs.toList #[] (by simp)
 simpa using this
theorem AE(w:aW)(a:ae)(ep:Nat)(es:Array (Int×aq)):(lh w a ep es).toList.Perm es.toList:=by
 unfold lh;split
 ·exact HV _ _
 ·exact .refl _
theorem Lj(w:aW)(a:ae)(ep:Nat)(es:Array (Int×aq)):(lh w a ep es).size=es.size:=by
 have:=(AE w a ep es).length_eq;simpa using this
def intOf:aq->Int
 | .int n _=>n
 | _=>0
theorem AF:∀(l:List (Int×aq)),(∀e∈l,∃n t,e.2=.int n t)->IntsAre (l.map (·.2)) (l.map λe=>intOf e.2)
 | [],_=>.nil
 | e::l,h=>by
  obtain⟨n,t,q⟩:=h e bo;have ih:=AF l λx hx=>h x (bz _ hx)
  rw[bX,bX,q];exact .cons n t ih
def jM(place:Array Nat)(led:Bool):SetTable:={mask:=7,place:=place,dummies:=#[],finger:=0,led:=led,moves:=0,plain:=true}
theorem DI:∀k:_root_.Fin 64,hashInt ((k:Nat):Int)=((k:Nat):Int):=by decide +kernel
theorem Uu:∀(k:_root_.Fin 64) (led:Bool),(jM #[] led).freeSlot ((k:Nat):Int)=some ((k:Nat)%8,false):=by decide +kernel
theorem Uv:∀(p:_root_.Fin 8) (k:_root_.Fin 64) (led:Bool),∃q:_root_.Fin 8,(jM #[(p:Nat)] led).freeSlot ((k:Nat):Int)=some ((q:Nat),false)/\q≠p:=by decide +kernel
theorem PD:∀p:_root_.Fin 8,SetTable.below #[(p:Nat)] 0=0/\SetTable.below #[(p:Nat)] ((p:Nat)+1)=1:=by decide +kernel
theorem PF:∀p q:_root_.Fin 8,p<q->SetTable.below #[(p:Nat),(q:Nat)] 0=0/\SetTable.below #[(p:Nat),(q:Nat)] ((p:Nat)+1)=1/\SetTable.below #[(p:Nat),(q:Nat)] ((q:Nat)+1)=2:=by decide +kernel
theorem PH:∀p q:_root_.Fin 8,q≠p->SetTable.below #[(p:Nat)] (q:Nat)=if p<q then 1 else 0:=by decide +kernel
theorem Yb(k:_root_.Fin 64)(led:Bool)(h:Int)(x:aq)(hh:h=((k:Nat):Int)):layNew (jM #[] led) #[] h x=(#[(h,x)],jM #[(k:Nat)%8] led,false,false):=by
 subst hh;unfold layNew;rw[Uu k led];rfl
theorem Yc(p:_root_.Fin 8)(k:_root_.Fin 64)(led:Bool)(h:Int)(x:aq)(hh:h=((k:Nat):Int))(e:Int×aq) :
  ∃q:_root_.Fin 8,q≠p/\layNew (jM #[(p:Nat)] led) #[e] h x=if p<q then(#[e,(h,x)],jM #[(p:Nat),(q:Nat)] led,false,false)else(#[(h,x),e],jM #[(q:Nat),(p:Nat)] led,false,false):=by
 subst hh;obtain⟨q,hq,hne⟩:=Uv p k led;refine⟨q,hne,?_⟩;have hb:=PH p q hne;unfold layNew;rw[hq];dsimp only
 unfold SetTable.put;show _=_;have j2:SetTable.below (jM #[(p:Nat)] led).place (q:Nat)=if p<q then 1 else 0:=hb
 rw[j2];by_cases fg:p<q
 ·rw[if_pos fg,if_pos fg];rfl
 ·rw[if_neg fg,if_neg fg];rfl
end
section
open PyProof.Rows
section
variable {prog:bK} {w:aW} {A:bY} {E:cQ} {s:az} {a:ae} {es uX:Array (Int×aq)} {ep:Nat} {t t1:SetTable}
theorem AG(h:∀e∈es.toList,∃k tk,e.2=.int k tk/\e.1=hashInt k):ElemsOf (intKind prog w) es.toList:=λe he=>by
 obtain⟨k,tk,h1,h2⟩:=h e he;exact⟨⟨k,by rw[h1];exact intKind_is _ _ _ _,h2⟩,by rw[h1];rfl⟩
theorem PJ(hS:s.heap.get? a=some (ej es ep t))(uX:Array (Int×aq))(t1:SetTable):(s.heap.update a (Obj.putSet uX t1)).get? a=some (ej uX (ep+1) t1):=by
 have:=wU (Obj.putSet uX t1) hS (by rw[putSet_of uX t1 (show(ej es ep t).data=_ from rfl)];rfl)
 rw[putSet_of uX t1 (show(ej es ep t).data=_ from rfl)]at this
 exact this
theorem DJ{k:Int}{tk:Tok}{Q:Bool->az->Prop}(hS:s.heap.get? a=some (ej es ep t))(hf:t.fits es.size=true)(HW:∀e∈es.toList,∃k tk,e.2=.int k tk/\e.1=hashInt k)(hb:es.size+1<scanBound)
  (Uw:es.toList.findIdx? (λe=>(intKind prog w).is k e.2)=none) (hL:layNew t es (hashInt k) (.int k tk)=(uX,t1,false,false)) (hp:t1.plain=true) (TR:t1.tooFull=false) (hz:uX.size<=sizeLine)
  (h:Q true {s with heap:=s.heap.update a (Obj.putSet uX t1)}):wpAny (model prog w) A (setAddHashed a (.int k tk) (hashInt k)) Q E s:=by
 have hE:=AG (prog:=prog) (w:=w) HW;unfold setAddHashed setAddHashedIn;refine jV (av (kG hS rfl hf ?_));dsimp only
 rw[byScan_of (x:=.int k tk) rfl (by lia) hE]
 simp only[↓reduceIte];unfold setAddByScan;refine av ?_;refine av (se ?_);refine av (wpAny_setScan_of (knd:=intKind prog w) (k:=k) (intKind_is _ _ _ _) hS rfl hf hE ?_);rw[Uw];dsimp only
 rw[hL];dsimp only
 refine av ?_;show wpAny _ _ (pure ()) _ _ s;refine aN ?_;rw[hp,if_pos rfl];refine av ?_;rw[hashByValue_scannable 8 (x:=.int k tk) rfl];refine aN ?_;have e:(if plainKind (Value.int k tk)=true then t1 else {t1 with plain:=false})=t1:=if_pos rfl
 rw[e];refine av (wpAny_storeSet_of hS rfl ?_ hz);rw[TR,if_neg (by simp)]
 exact aN (aN h)
theorem DK{k:Int}{tk:Tok}{j:Nat}{Q:Bool->az->Prop}(hS:s.heap.get? a=some (ej es ep t))(hf:t.fits es.size=true)(HW:∀e∈es.toList,∃k tk,e.2=.int k tk/\e.1=hashInt k)(hb:es.size+1<scanBound)
  (hj:es.toList.findIdx? (λe=>(intKind prog w).is k e.2)=some j) (h:Q false s):wpAny (model prog w) A (setAddHashed a (.int k tk) (hashInt k)) Q E s:=by
 have hE:=AG (prog:=prog) (w:=w) HW;unfold setAddHashed setAddHashedIn;refine jV (av (kG hS rfl hf ?_));dsimp only
 rw[byScan_of (x:=.int k tk) rfl (by lia) hE]
 simp only[↓reduceIte];unfold setAddByScan;refine av ?_;refine av (se ?_);refine av (wpAny_setScan_of (knd:=intKind prog w) (k:=k) (intKind_is _ _ _ _) hS rfl hf hE ?_);rw[hj];dsimp only
 exact aN (aN h)
end
def gu(led:Bool)(xs:List Int)(es:Array (Int×aq))(t:SetTable):Prop :=
 (∀e∈es.toList,∃k tk,e.2=.int k tk/\e.1=hashInt k)/\(es.toList.map λe=>intOf e.2).Perm xs /\
 ((xs=[]/\es=#[]/\t=jM #[] led)\/(∃(p:_root_.Fin 8) (x:Int),xs=[x]/\t=jM #[(p:Nat)] led)\/∃(p q:_root_.Fin 8) (x y:Int),xs=[x,y]/\p<q/\t=jM #[(p:Nat),(q:Nat)] led)
theorem gu.fits{led:Bool}{xs:List Int}{es:Array (Int×aq)}{t:SetTable}(h:gu led xs es t):t.fits es.size=true/\es.size=xs.length/\es.size<=2:=by
 obtain⟨_,hp,hc⟩:=h;have hl:=hp.length_eq;simp at hl;rcases hc with⟨rfl,rfl,rfl⟩ | ⟨p,x,rfl,rfl⟩ | ⟨p,q,x,y,rfl,_,rfl⟩
 ·exact⟨rfl,hl,by decide⟩
 ·simp at hl;exact⟨by rw[hl];rfl,hl,by lia⟩
 ·simp at hl;exact⟨by rw[hl];rfl,hl,by lia⟩
theorem gu.good{w:aW}{a:ae}{ep:Nat}{xs:List Int}{es:Array (Int×aq)}{t:SetTable}(h:gu (!BT w) xs es t):gJ w a ep es t:=by
 obtain⟨f1,f2,f3⟩:=h.fits;refine⟨f1,Lj w a ep es,λhb=>?_⟩
 obtain⟨_,hp,hc⟩:=h;rw[hb]at hc;rcases hc with⟨rfl,rfl,rfl⟩ | ⟨p,x,rfl,rfl⟩ | ⟨p,q,x,y,rfl,fg,rfl⟩
 ·refine⟨rfl,rfl,λi hi=>?_⟩
  have:i=0:=by simpa using hi
  subst this;rfl
 ·obtain⟨b1,b2⟩:=PD p;refine⟨rfl,rfl,λi hi=>?_⟩
  have:es.size=1:=f2;have:i=0\/i=1:=by lia
  rcases this with rfl | rfl
  ·exact b1
  ·exact b2
 ·obtain⟨b1,b2,b3⟩:=PF p q fg;refine⟨rfl,rfl,λi hi=>?_⟩
  have:es.size=2:=f2;have:i=0\/i=1\/i=2:=by lia
  rcases this with rfl | rfl | rfl
  ·exact b1
  ·exact b2
  ·exact b3
section
variable {prog:bK} {w:aW} {A:bY} {E:cQ} {s:az} {a:ae} {es:Array (Int×aq)} {ep:Nat} {t:SetTable}
def mw(xs:List Int)(k:Int):List Int:=if k∈xs then xs else xs++[k]
theorem DL{led:Bool}{xs:List Int}{k:Int}{tk:Tok}{Q:Bool->az->Prop}(hS:s.heap.get? a=some (ej es ep t))(h2:gu led xs es t)(hk:0<=k/\k<64)(hx:xs.length<=1)
  (h:∀b h' uX ep1 t1,Heap.SameBut a s.heap h'->h'.get? a=some (ej uX ep1 t1)->gu led (mw xs k) uX t1->Q b {s with heap:=h'}):wpAny (model prog w) A (setAddHashed a (.int k tk) (hashInt k)) Q E s:=by
 obtain⟨f1,f2,f3⟩:=h2.fits;obtain⟨HW,hp,hc⟩:=id h2;have hb:es.size+1<scanBound:=by
  have:scanBound=4096:=rfl
  lia
 have Lk:∀e∈es.toList,(intKind prog w).is k e.2=true↔intOf e.2=k:=λe he=>by
  obtain⟨n,Ux,q,_⟩:=HW e he;rw[q];show Value.isInt k (.int n Ux)=true↔n=k;simp[Value.isInt]
 cases hr:es.toList.findIdx? (λe=>(intKind prog w).is k e.2)with
 | some j =>
  obtain⟨hj,hpj,_⟩:=Jw.mp hr;have B7:k∈xs:=by
   have h1:=(Lk _ (wZ hj)).mp hpj;exact hp.mem_iff.mp (bN.mpr ⟨_,wZ hj,h1⟩)
  refine DK hS f1 HW hb hr ?_;have:=h false s.heap es ep t (Heap.SameBut.refl a s.heap) hS (by unfold mw;rw[if_pos B7];exact h2)
  exact this
 | none =>
  have Uw:k∉xs:=λB7=>by
   obtain⟨e,he,q⟩:=bN.mp (hp.mem_iff.mpr B7);have:=List.findIdx?_eq_none_iff.mp hr e he;rw[(Lk e he).mpr q]at this;cases this
  have hk':hashInt k=k:=by
   have:=DI ⟨k.toNat,by lia⟩
   rw[show(((⟨k.toNat,by lia⟩:_root_.Fin 64):Nat):Int)=k from wW hk.1]at this
   exact this
  have hkc:hashInt k=(((⟨k.toNat,by lia⟩:_root_.Fin 64):Nat):Int):=by
   rw[hk'];exact(wW hk.1).symm
  have fin:∀uX t1,layNew t es (hashInt k) (.int k tk)=(uX,t1,false,false)->t1.plain=true->t1.tooFull=false->uX.size<=2->gu led (mw xs k) uX t1->wpAny (model prog w) A (setAddHashed a (.int k tk) (hashInt k)) Q E s:=λuX t1 hL q1 q2 q3 q4 =>
   DJ hS f1 HW hb hr hL q1 q2 (cG q3 (by decide)) (h true _ uX (ep+1) t1 (oU ..) (PJ hS uX t1) q4)
  have Uy:mw xs k=xs++[k]:=by unfold mw;rw[if_neg Uw]
  rcases hc with⟨rfl,rfl,rfl⟩ | ⟨p,x,rfl,rfl⟩ | ⟨p,q,x,y,rfl,fg,rfl⟩
  ·refine fin _ _ (Yb ⟨k.toNat,by lia⟩ led _ _ hkc) rfl rfl (by simp) ?_
   rw[Uy];refine⟨λe he=>?_,.refl _,.inr (.inl ⟨⟨(⟨k.toNat,by lia⟩:_root_.Fin 64).val%8,Nat.mod_lt _ (by decide)⟩,k,rfl,rfl⟩)⟩
   have he:e∈[(hashInt k,Value.int k tk)]:=he;have he:=cu.mp he;subst he;exact⟨k,tk,rfl,rfl⟩
  ·have Uz:es.size=1:=f2;obtain⟨e0,rfl⟩:∃e0,es=#[e0]:=Array.size_eq_one_iff.mp Uz
   obtain⟨q,hne,hL⟩:=Yc p ⟨k.toNat,by lia⟩ led (hashInt k) (.int k tk) hkc e0
   have hq:(intOf e0.2)=x:=by
    have hm:intOf e0.2∈[x]:=hp.mem_iff.mp (bN.mpr ⟨e0,by simp,rfl⟩)
    simpa using hm
   have h0:=HW e0 (by simp)
   by_cases fg:p<q
   ·rw[if_pos fg]at hL;refine fin _ _ hL rfl rfl (by simp) ?_
    rw[Uy];refine⟨λe he=>?_,?_,.inr (.inr ⟨p,q,x,k,rfl,fg,rfl⟩)⟩
    ·have he:e∈[e0,(hashInt k,Value.int k tk)]:=he;simp only[aZ,d3,d8]at he;rcases he with rfl | rfl
     ·exact h0
     ·exact⟨k,tk,rfl,rfl⟩
    ·show [intOf e0.2,k].Perm ([x]++[k]);rw[hq];exact .refl _
   ·rw[if_neg fg]at hL;refine fin _ _ hL rfl rfl (by simp) ?_
    rw[Uy];refine⟨λe he=>?_,?_,.inr (.inr ⟨q,p,x,k,rfl,?_,rfl⟩)⟩
    ·have he:e∈[(hashInt k,Value.int k tk),e0]:=he;simp only[aZ,d3,d8]at he;rcases he with rfl | rfl
     ·exact⟨k,tk,rfl,rfl⟩
     ·exact h0
    ·show [k,intOf e0.2].Perm ([x]++[k]);rw[hq];exact .swap x k []
    ·have h3:(q:Nat)≠(p:Nat):=λe=>hne (_root_.Fin.ext e)
     have h4:¬(p:Nat)<(q:Nat):=fg;show(q:Nat)<(p:Nat)
     lia
  ·simp at hx
end
end
end PySem
namespace PySem
open PyProof.Rows
def pT(val:Nat->Int):Nat->List Int
 | 0=>[]
 | i+1=>mw (pT val i) (val i)
theorem tW(val:Nat->Int):∀i,(pT val i).length<=i
 | 0=>bc _
 | i+1=>by
  have:=tW val i;unfold pT mw;split
  ·lia
  ·simp;lia
section
variable {prog:bK} {w:aW} {A:bY} {R:Result->az->Prop} {I:ae} {fp wr:List ae} {G:Array GenState->Array GenState->Prop} {n:Nat} {P:Nat->aq->Prop} {St:Nat->az->Prop}
theorem AH(W:WalksS prog w A.in1 I fp wr G n P St)(S:ae)(hSf:S∉fp)(val:Nat->Int)(UA:∀i v,P i v->∃t,v=.int (val i) t)(Yd:∀i,i<n->0<=val i/\val i<64)(hn:n<=2)(led:Bool) :
  ∀(k i:Nat) (s:az),n-i=k->i<=n->St i s->(∃es ep t,s.heap.get? S=some (ej es ep t)/\gu led (pT val i) es t) ->
   (∀s',Moved (S::wr) G s s'->(∃es ep t,s'.heap.get? S=some (ej es ep t)/\gu led (pT val n) es t)->R (.ok (.ret .none)) s') ->
   codeAny (model prog w) A (.builtin "set.update.loop" ⟨[.ref S,.ref I],[]⟩) R s:=by
 have hSw:S∉wr:=λh=>hSf (W.sub _ h)
 have La:∀b∈wr,b∈S::wr:=λb hb=>bz _ hb
 intro k;induction k with
 | zero =>
  intro i s hk hi Hg hS hR;have B7:i=n:=by lia
  subst B7;refine w6 F.entry_set_update_loop ?_;rw[Cu Co _];show wpAny _ A.in1 (pyNext (.ref I) >>= _) _ _ s;refine av (W.done s _ _ Hg λs' hm=>?_)
  show wpAny _ A.in1 (ret Value.none) _ _ s';exact aN (hR s' (hm.mono La) (by
   obtain⟨es,ep,t,ho,rest⟩:=hS;exact⟨es,ep,t,hm.heap S _ hSw ho,rest⟩))
 | succ k ih =>
  intro i s hk hi Hg hS hR;have fg:i<n:=by lia
  refine w6 F.entry_set_update_loop ?_;rw[Cu Co _];show wpAny _ A.in1 (pyNext (.ref I) >>= _) _ _ s;refine av (W.item i s _ _ fg Hg λv s' hP ac9 hm=>?_)
  obtain⟨t,rfl⟩:=UA i v hP;obtain⟨es,ep,tb,ho,h2⟩:=hS;have xm:=hm.heap S _ hSw ho;show wpAny _ A.in1 (holding [Value.int (val i) t] (setAdd S (.int (val i) t)) >>= _) _ _ s';refine av (jV ?_);unfold setAdd;refine jV ?_;refine av ((intKind prog w).pyHash (k:=val i) (intKind_is _ _ _ _) ?_);have hl1:=tW val i;refine DL (s:={s' with toks:=s'.toks+1}) xm h2 (Yd i fg) (by lia) λb h' uX ep1 t1 hsb hS2 h2'=>?_
  refine aN ⟨plainId_quiet Co _,ih (i+1) _ (by lia) fg (W.frame _ s' _ _ ac9 (Nat.le_succ _) λb hb o e=>?_) ⟨uX,ep1,t1,hS2,h2'⟩ λOi adb ade=>?_⟩
  ·rw[hsb.2 b (λh:b=S=>hSf (by rw[<-h];exact hb))];exact e
  ·refine hR Oi (Moved.trans W.gtrans ((hm.mono La).then_heap (Nat.le_succ _) λb o hb e=>?_) adb) ade
   rw[hsb.2 b (λh:b=S=>hb (by rw[h];exact bo))];exact e
end
section
variable {prog:bK} {w:aW} {A:bY} {E:cQ} {s:az}
theorem uY(a:aq){Q₁:cQ}
  (h:Q₁ (.ref s.heap.objs.size) {s with heap:=s.heap.push {cls:=.type "set",dict:=none,data:=.set #[] 0 (.fresh 0 0 (!BT w))}}) :
  codeAny (model prog w) A (.call (.builtin "set.__new__") ⟨[.type "set",a],[]⟩) (wants Q₁ E) s:=by
 refine codeAny_of_tree ?_;show wpAny _ A.in1 (do checkBuiltinCall "set.__new__" ⟨[.type "set",a],[]⟩;again (.builtin "set.__new__" ⟨[.type "set",a],[]⟩)) _ _ s
 refine av (wpAny_of_eq (F.newCall_set_1 a) (aN ⟨plainId_quiet F.plain_set_new _,w6 F.entry_set_new ?_⟩));rw[Cu F.plain_set_new _];unfold Builtin.«set.__new__» Builtin.Frozenset.newClass;have La:=sub_set_self;obtain⟨hp,g,d,tk,os⟩:=s;dsimp only
 wp_walk
 refine CP (aN ?_);dsimp only
 simp only[newObj];refine av (wpAny_alloc (aN ?_));exact aN h
end
theorem gu.nil(led:Bool):gu led [] #[] (jM #[] led):=by
 refine⟨λe he=>?_,List.Perm.refl _,.inl ⟨rfl,rfl,rfl⟩⟩
 cases he
section
variable {prog:bK} {w:aW} {A:bY} {E:cQ} {s:az}
set_option maxHeartbeats 3200000 in
theorem AI{l:ae}{items:Array aq}{ns:List Int}{Q:cQ}(hh:A.handled=none)(hl:s.heap.IsList l items)(hi:IntsAre items.toList ns)(hb:items.size<=2)(Yd:∀i,i<items.size->0<=ns.getD i 0/\ns.getD i 0<64)
  (h:∀(h':Heap) (tk:Nat) es ep t,h'.get? s.heap.objs.size=some (ej es ep t)->gu (!BT w) (pT (λi=>ns.getD i 0) items.size) es t->(∀b o,b<s.heap.objs.size->s.heap.get? b=some o->h'.get? b=some o)->Q (.ref s.heap.objs.size) {s with heap:=h',toks:=tk}) :
  wpAny (model prog w) A (call (.type "set") [.ref l]) Q E s:=by
 obtain⟨c,tl,agY⟩:=F.called_set.mro;have afa:=F.called_set.made;have La:=F.called_set.sub;refine wpAny_call (codeAny_of_tree ?_);show wpAny _ _ (callAny (.type "set") _) _ _ _;refine aN ⟨Code.quiet_builtin _ (by decide +kernel),w6 F.entry_type_call ?_⟩
 rw[Around.under_plain (weight_type_call_type "set" [.ref l] []) rfl];have h1:=F.called_set.notType;have h2:=F.called_set.canCreate;have hct:=F.typeCall_set_1 (.ref l)
 repeat (any_goals (first | assumption | wp_step))
 refine mK (uY (.ref l) (E:=E) (Q₁:=λobj s₁=>obj=.ref s.heap.objs.size/\s₁={s with heap:=s.heap.push {cls:=.type "set",dict:=none,data:=.set #[] 0 (.fresh 0 0 (!BT w))}}) ⟨rfl,rfl⟩) λr s₁ hr=>?_
 cases r with
 | error e=>exact hr
 | ok fl =>
  cases fl with
  | ret obj =>
   obtain⟨rfl,rfl⟩:=hr;obtain⟨led,Ye⟩:∃led,led = !BT w:=⟨_,rfl⟩
   rw[<-Ye];have hS:(s.heap.push {cls:=.type "set",dict:=none,data:=.set #[] 0 (.fresh 0 0 led)}).get? s.heap.objs.size=some {cls:=.type "set",dict:=none,data:=.set #[] 0 (.fresh 0 0 led)}:=d0 _ rfl
   have hT:Shared.TypeIs {s with heap:=s.heap.push {cls:=.type "set",dict:=none,data:=.set #[] 0 (.fresh 0 0 led)}} (.ref s.heap.objs.size) "set":=⟨_,hS,rfl⟩
   have hli:=F.called_set.init.lookup;have hbi:=F.called_set.init.bind (.ref s.heap.objs.size)
   repeat (any_goals (first | assumption | wp_step))
   refine mK (codeAny_call_builtin (R:=wants (λr Hh=>r=.none/\∃h' tk,Hh={s with heap:=h',toks:=tk} /\
     (∃es ep t,h'.get? s.heap.objs.size=some (ej es ep t)/\gu led (pT (λi=>ns.getD i 0) items.size) es t) /\
     (∀b o,b<s.heap.objs.size->s.heap.get? b=some o->h'.get? b=some o)) E) F.called_set.init.plain F.entry_set_init (check_set_init_1 hT ?_)) λadf Hh Ll=>?_
   ·obtain⟨ol,V6,hcl,nl,HK⟩:=hl;obtain⟨agZ,Yg,afb,UB⟩:=ol;simp only at hcl HK;subst hcl;subst HK;have adg:(s.heap.push {cls:=.type "set",dict:=none,data:=.set #[] 0 (.fresh 0 0 led)}).get? l=some {cls:=.type "list",dict:=Yg,data:=.seq items nl,slots:=UB}:=cD _ V6
    have ag0:=F.sub_list_set;have ag1:=F.sub_list_frozenset;have hne:(Value.type "list"==Value.type "dict")=false:=by decide
    have hl1:(s.heap.push {cls:=.type "set",dict:=none,data:=.set #[] 0 (.fresh 0 0 led)}).IsList l items:=⟨_,adg,rfl,nl,rfl⟩
    unfold Builtin.«set.__init__» noKeywords Builtin.Frozenset.updateFrom
    generalize hPI:pyIter=PI
    wp_walk
    subst hPI;refine CD hl1 ?_;refine av (wpAny_runValue ?_);have hlS:l<s.heap.objs.size:=bR V6;have hh3:A.in1.in1.in1.handled=none:=by simp[hh]
    have adh:l≠(s.heap.push {cls:=.type "set",dict:=none,data:=.set #[] 0 (.fresh 0 0 led)}).objs.size:=by
     rw[rY];exact cX (CK hlS)
    have hSf:s.heap.objs.size∉[(s.heap.push {cls:=.type "set",dict:=none,data:=.set #[] 0 (.fresh 0 0 led)}).objs.size,l]:=by
     rw[rY];simp only[aZ,cu,d3,d8,not_or];exact⟨cX (CS _),sd hlS⟩
    have UA:∀(i:Nat) (v:aq),items[i]?=some v->∃t,v=.int ((λi=>ns.getD i 0) i) t:=λi v hv =>
     PyProof.Rows.IntsAre.int_at hi i v (by rw[wV];exact hv)
    refine AH ((Walks.list hh3 _ l adh items).toS) s.heap.objs.size hSf (λi=>ns.getD i 0) UA Yd hb led (items.size-0) 0 _ (by lia) (gr _)
     ⟨⟨_,d0 _ rfl,rfl,rfl⟩,(hl1.push _)⟩ ?hS0 ?hR
    case hS0 =>
     exact⟨#[],0,jM #[] led,cD _ hS,gu.nil led⟩
    case hR =>
     intro s' hm hS';obtain⟨h',g',d',Ux,W2⟩:=s';have eg:g'=s.gens:=hm.gens;have ed:d'=s.drawn:=hm.drawn;have eo:W2=s.os:=hm.os;subst eg;subst ed;subst eo;show wpAny _ _ _ _ _ _;refine aN ?_;show wpAny _ _ (ret Value.none) _ _ _;refine aN ⟨rfl,h',Ux,rfl,hS',λb o hb e=>?_⟩
     have hb1:b≠s.heap.objs.size:=cX hb;have hb2:b≠(s.heap.push {cls:=.type "set",dict:=none,data:=.set #[] 0 (.fresh 0 0 led)}).objs.size:=by
      rw[rY];exact cX (CK hb)
     exact hm.heap b o (by simp only[aZ,cu,d3,d8,not_or];exact⟨hb1,hb2⟩) (cD _ (cD _ e))
   ·cases adf with
    | error e=>exact Ll
    | ok Yh =>
     cases Yh with
     | ret r =>
      obtain⟨rfl,h',tk,rfl,⟨es,ep,t,hS',h2'⟩,hk'⟩:=Ll
      repeat (any_goals (first | assumption | wp_step))
      exact h _ _ es ep t hS' (by rw[<-Ye];exact h2') hk'
     | _=>exact Ll.elim
  | _=>exact hr.elim
end
section
variable {prog:bK} {w:aW} {A:bY} {E:cQ} {s:az} {a:ae} {es:Array (Int×aq)} {ep:Nat} {t:SetTable}
theorem uZ{xs:List Int}{Q:cQ}(hh:A.handled=none)(hS:s.heap.get? a=some (ej es ep t))(h2:gu (!BT w) xs es t)
  (h:∀(h1 h':Heap) (tk:Nat) (D:ae) (out:Array aq) (UC:List Int) (e:Nat),(∀b o,s.heap.get? b=some o->h1.get? b=some o)->(∀b o,h1.get? b=some o->h'.get? b=some o)->h1.objs.size<=D->h'.get? D=some (seqObj "list" out e)->IntsAre out.toList UC->UC.Perm xs->UC.Pairwise (· <= ·)->Q (.ref D) {s with heap:=h',toks:=tk}) :
  wpAny (model prog w) A (call (.builtin "sorted") [.ref a]) Q E s:=by
 have g:gJ w a ep es t:=h2.good;obtain⟨f1,f2,f3⟩:=h2.fits;refine Calls.call_function_entry kind_sorted plain_sorted entry_sorted (args_sorted1 _) ?_;unfold Builtin.«sorted»;refine av (m:=checkCount "sorted" 1 1 _) (aN ?_);refine av (W.kdu_collect (A:=A.in1) (Pz (prog:=prog) g) (by simp[hh]) hS (cG f3 (by decide)) λh' tk acc hk u0=>?_)
 have adj:acc.toList=(lh w a ep es).toList.map (·.2):=by
  refine List.ext_getElem? λj=>?_
  rw[cm,wV,wV];by_cases hj:j<es.size
  ·have h1:j<acc.size:=by rw[u0.1];exact hj
   obtain⟨e,he,hv⟩:=u0.2 j acc[j] (by simp[h1])
   rw[he];simp[h1,hv]
  ·have h1:acc[j]?=none:=by
    have:=u0.1;simp;lia
   have h2:(lh w a ep es)[j]?=none:=by
    have:=g.size;simp;lia
   rw[h1,h2];rfl
 have hop:=AE w a ep es;have hI:IntsAre acc.toList ((lh w a ep es).toList.map λe=>intOf e.2):=by
  rw[adj];exact AF _ λe he=>by
   obtain⟨k,tk,q,_⟩:=h2.1 e (hop.mem_iff.mp he);exact⟨k,tk,q⟩
 have Yi:((lh w a ep es).toList.map λe=>intOf e.2).Perm xs:=(hop.map _).trans h2.2.1
 have dD:acc.toList.length<=2:=by
  rw[oV,u0.1];exact f3
 refine av (wpAny_newList ?_ (cG dD (by decide)))
 have WH:(h'.push (seqObj "list" acc.toList.toArray 0)).get? h'.objs.size=some (seqObj "list" acc.toList.toArray 0):=d0 _ rfl;show wpAny _ _ _ _ _ {s with heap:=h'.push (seqObj "list" acc.toList.toArray 0),toks:=tk}
 refine av (jV (jt slot_list_sort ⟨_,WH,rfl⟩ entry_list_sort (list_sort_tree (s:={s with heap:=h'.push (seqObj "list" acc.toList.toArray 0),toks:=tk}) WH hI (by lia) λout UC a1 a2 a3=>⟨_,rfl,?_⟩) (args_list_sort _)))
 obtain⟨e,u4⟩:=sortedHeap_at (out:=out) (vs:=acc.toList) WH;refine aN ⟨_,rfl,h h' _ tk h'.objs.size out UC e hk (λb o hb=>?_) (bc _) u4 a1 (a2.trans Yi) a3⟩
 have fg:b<h'.objs.size:=bR hb;rw[sortedHeap_old (cX fg) (by rw[size_push'];exact CK fg)]
 exact cD _ hb
end
end PySem
namespace L2.PL
open PySem PySem.Spec PyProof.Rows
def Lm(ts:bP):FE:=λρ=>(ts ρ).bind λps=>(je ps).bind λns=>if(ns.length<=2/\ns.all (λn=>decide (0<=n/\n<64))=true)then some (.ao ((om (pT (λi=>ns.getD i 0) ns.length)).map .int))else none
section
variable {X:Cx} {H₀ ab:Hp} {es:List au} {ts:bP} {pos p HU zp lp:Pos}
theorem UD(hh:X.A.handled=none)(hgl:Gl X "sorted")(hml:X.mg "sorted"=none)(hg:Gl X "set")(hm:X.mg "set"=none)(ha:PA X es (tA X.K H₀ ab ts)) :
  PE X (.Call (.Name "sorted" p) [.Call (.Name "set" zp) [.List es lp] [] HU] [] pos) (tE X.K H₀ ab (Lm ts)):=by
 rintro ag s σ H Q I ⟨F,ρ,z,Rp,hf,q⟩;obtain⟨ps,f1,hf⟩:=ax hf;obtain⟨ns,f2,hf⟩:=ax hf;obtain⟨⟨OY,R7⟩,e0⟩:=aK hf;clear hf;subst e0;have pH:ps.length<=2:=by
  have:∀{l:ay} {m:List Int},je l=some m->l.length=m.length:=λ{l}=>by
   induction l with
   | nil=>intro m h;cases h;rfl
   | cons a l ih =>
    intro m h;cases a with
    | int i =>
     obtain⟨m',h1,h2⟩:=X7 (show(je l).map (λns=>i::ns)=some m from h)
     subst h2;rw[bt,bt,ih h1]
    | _=>cases h
  rw[this f2];exact OY
 refine mH (ld_blt I hgl hml boot_sorted ?_ (by decide) (by decide))
 refine Jx (Lf rfl ?_) rfl rfl;have hA:=Fs (pos:=lp) ha ag s σ H (λv H'=>∃F' l vs,v=.ref l/\cY X.K H₀ ab F' ρ σ H'/\Same F F'/\H' l=some (.ao vs)/\bj X.K F' ps vs) I
  ⟨F,ρ,ps,Rp,(by show(ts ρ).bind _=_;rw[f1];exact if_pos (cG pH (by decide))),λa vs H1 F' R1 s1 b1 hn=>⟨F',a,vs,rfl,R1.Fo (.ao vs) hn,s1,aI,b1⟩⟩
 refine Call_ (ld_blt I hg hm boot_set (mF (Lf rfl (thn hA λu s1 ⟨v,H1,I1,r1,F1,l,vs,ev,R1,sm1,hl,b1⟩=>?_)) rfl rfl))
 subst ev;cases r1;obtain⟨aX,r,pl,_⟩:=I1.list (l8.of hl);have ev:=tQ f2 b1;subst ev;have hi:=s9 r;have dD:aX.length=ns.length:=by rw[<-r.length,aB]
 have hsz:aX.toArray.size=ns.length:=by rw[bI];exact dD
 refine AI (items:=aX.toArray) (ns:=ns) hh pl.isList hi (by lia) (λi hi'=>?_) λh' tk WC ep t hS h2 hk=>?_
 ·have B7:i<ns.length:=by lia
  have:=eU.mp R7 _ (wZ B7);rw[Cf,dG B7];exact rW this
 ·rw[hsz]at h2;have I2:Inv X ag σ H1 {s1 with heap:=h',toks:=tk}:=I1.kept λb o e=>hk b o (bR e) e
  refine uZ (s:={s1 with heap:=h',toks:=tk}) hh hS h2 λh1 h'' Ux D out UC e k1 k2 hD u4 hI hp hu=>?_
  have I3:Inv X ag σ H1 {s1 with heap:=h1,toks:=Ux}:=I2.kept (t':=Ux) k1
  have e1:UC=om (pT (λi=>ns.getD i 0) ns.length):=W.ksm_same (hp.trans (mU _).symm) hu (AA _)
  subst e1;have hz:H1 D=none:=I3.hok.fresh hD;obtain⟨R2,s2⟩:=R1.laid (.ao ((om (pT (λi=>ns.getD i 0) ns.length)).map V.int)) hz
  refine⟨.ref D,upd H1 D (.ao ((om (pT (λi=>ns.getD i 0) ns.length)).map V.int)),I3.laid (t':=Ux) k2 hD ⟨?_,out.toList,e,DG hI,u4⟩,rfl,q _ _ _ R2 (sm1.trans s2) (bD.mpr ⟨_,_,rfl,ql.of aI,pS _⟩)⟩
  rw[aB,(mU _).length_eq];have:=tW (λi=>ns.getD i 0) ns.length
  exact cG this (cG OY (by decide))
end
noncomputable def UE:ay->Option (List Int)
 | [.int n]=>if 0<=n/\n<=1000 then some (rangeInts 0 1 n.toNat)else none
 | [.int a,.int b]=>if 0<=a/\a<=b/\b<=1000 then some (rangeInts a 1 (b-a).toNat)else none
 | [.int a,.int b,.int c]=>if(-1000<=a/\a<=1000 /\ -1000<=b/\b<=a/\c = -1)then some (rangeInts a (-1) (a-b).toNat)else none
 | _=>none
def lrg(ts:bP):bP:=λρ=>(ts ρ).bind λps=>(UE ps).map λl=>l.map .int
section
variable {X:Cx} {H₀ ab:Hp} {e:au} {es:List au} {ts:bP} {pos p HU zp:Pos}
theorem DM{a c:Int}{n:Nat}{acc:Array aq}(h:ItemsOf (fun(i:Nat) (v:aq)=>∃t:Tok,v=Value.int (a+i*c) t) acc n):Vals ((rangeInts a c n).map V.int) acc.toList:=by
 have:∀(l:cg) (k:Nat),(∀(j:Nat) (v:aq),l[j]?=some v->∃t:Tok,v=Value.int (a+((k+j:Nat):Int)*c) t)->Vals (((List.range' k l.length).map fun(i:Nat)=>a+(i:Int)*c).map V.int) l:=by
  intro l;induction l with
  | nil=>intro k _;exact .nil
  | cons x l ih =>
   intro k hx;obtain⟨t,ht⟩:=hx 0 x rfl;rw[bt,List.range'_succ,bX,bX];refine .cons ⟨t,by rw[ht];rfl⟩ (ih (k+1) λj v hv=>?_)
   have:=hx (j+1) v (by simpa using hv)
   rw[show k+(j+1)=k+1+j by lia]at this
   exact this
 have h2:=this acc.toList 0 λj v hv=>by
  rw[jX];exact h.2 j v (by rw[<-wV];exact hv)
 rw[oV,h.1,<-List.range_eq_range']at h2;exact h2
theorem Yj(hh:X.A.handled=none)(hgl:Gl X "list")(hml:X.mg "list"=none)(hg:Gl X "range")(hm:X.mg "range"=none)(ha:PA X (e::es) (tA X.K H₀ ab ts))(hs:starEach (e::es) X.env=(false,eval e X.env)::starEach es X.env)(Ry:(backTo HU (starEach es X.env)).any (·.1)=false) :
  PE X (.Call (.Name "list" p) [.Call (.Name "range" zp) (e::es) [] HU] [] pos) (tF X.K H₀ ab (lrg ts)):=by
 rintro ag s σ H Q I ⟨F,ρ,zs,Rp,hf,q⟩;obtain⟨ps,f1,hf⟩:=ax hf;obtain⟨ns,f2,e0⟩:=X7 hf;clear hf;subst e0;refine mH (ld_blt I hgl hml (j3 .list) ?_ (by decide) (by decide))
 refine mF (Lf rfl ?_) rfl rfl;have hA:=ha HU ag s σ H (λvs H'=>∃F',cY X.K H₀ ab F' ρ σ H'/\Same F F'/\bj X.K F' ps vs) I ⟨F,ρ,ps,Rp,f1,λvs H1 F1 R1 s1 b1=>⟨F1,R1,s1,b1⟩⟩
 refine Call_ (ld_blt I hg hm boot_range (mF (thn hA λus s1 ⟨vs,H1,I1,r1,F1,R1,sm1,b1⟩=>?_) hs Ry))
 have fin:∀(r:ae) (h1:Heap) (Yk:Nat) (a b c:Int) (t u v:Tok) (n:Nat),(∀b o,s1.heap.get? b=some o->h1.get? b=some o)->IsRange h1 r a b c t u v->Builtin.Range.small a b c=true->Builtin.Range.rangeSize a b c=n->n<=3000->ns=rangeInts a c n ->
   wpAny (model X.prog X.w) X.A (call (.type "list") [.ref r]) (EP X ag σ Q) X.xe {s1 with heap:=h1,toks:=Yk}:=λr h1 Yk a b c t u v n hk hr Yd hn Js Oy=>by
  refine call_list_range (s:={s1 with heap:=h1,toks:=Yk}) hh hr Yd hn (by lia) λh' tk acc c' hk2 hS u0=>?_
  have I2:Inv X ag σ H1 {s1 with heap:=h1,toks:=Yk}:=I1.kept (t':=Yk) hk
  have hz:H1 h1.objs.size=none:=I2.hok.fresh (bc _);have hv:=DM u0;rw[<-Oy]at hv;refine⟨.ref h1.objs.size,upd H1 h1.objs.size (.ao (ns.map V.int)),I2.laid (t':=tk) hk2 (bc _) ⟨?_,acc.toList,c',hv,hS⟩,rfl,q _ _ H1 F1 R1 sm1 (pS ns) hz⟩;rw[aB,Oy,rangeInts_length];exact cG Js (by decide)
 unfold UE at f2;split at f2
 ·rename_i n _;obtain⟨⟨h0,h1⟩,e1⟩:=aK f2;obtain⟨v,rfl,bv⟩:=eX b1;rw[aM.mp bv]at r1;obtain⟨u,rfl,ru⟩:=kj r1;obtain⟨tk0,rfl⟩:=ru;refine call_range_1 ?_;refine fin _ _ _ 0 n 1 _ _ _ n.toNat (λb o e=>cD _ e) (xi ..) ?_ ?_ (by lia) e1.symm
  ·exact small_one (by decide) (by decide) (by lia) (by lia)
  ·unfold Builtin.Range.rangeSize;rw[if_pos (by decide)]
   split<;>lia
 ·rename_i a b _;obtain⟨⟨h0,h1,h2⟩,e1⟩:=aK f2;obtain⟨v1,v2,rfl,bv1,bv2⟩:=FD b1;rw[aM.mp bv1,aM.mp bv2]at r1;obtain⟨u1,u2,rfl,XY,ru2⟩:=Km r1;obtain⟨k1,rfl⟩:=XY;obtain⟨k2,rfl⟩:=ru2;refine call_range_2 ?_;refine fin _ _ _ a b 1 _ _ _ (b-a).toNat (λb o e=>cD _ e) (xi ..) (small_one (by lia) (by lia) (by lia) (by lia)) (rangeSize_nat a b) (by lia) e1.symm
 ·rename_i a b c _;obtain⟨⟨h0,h1,h2,h3,rfl⟩,e1⟩:=aK f2;obtain⟨v1,r,rfl,bv1,b1'⟩:=b1.cb;obtain⟨v2,v3,rfl,bv2,bv3⟩:=FD b1';rw[aM.mp bv1,aM.mp bv2,aM.mp bv3]at r1;cases r1 with
  | cons XY r1 =>
   obtain⟨u2,u3,rfl,ru2,ru3⟩:=Km r1;obtain⟨k1,rfl⟩:=XY;obtain⟨k2,rfl⟩:=ru2;obtain⟨k3,rfl⟩:=ru3;refine call_range_3 (by decide) ?_ (Or.inl (PyProof.noPylong_small (by lia)))
   refine fin _ _ _ a b (-1) _ _ _ (a-b).toNat (λb o e=>cD _ e) (xi ..) (W.small_down (by lia) (by lia) (by lia) (by lia)) (W.rangeSize_downNat a b) (by lia) e1.symm
 ·cases f2
end
abbrev V7:=aG->Option Ob
def tO(K:aj)(H₀ ab:Hp)(f:V7):TE:=λσ H Q=>∃F ρ o,cY K H₀ ab F ρ σ H/\f ρ=some o/\∀a H' F',cY K H₀ ab F' ρ σ H'->Same F F'->xE K F' o a->Q (.ref a) H'
section
variable {X:Cx} {H₀ ab:Hp} {e ke:au} {es:List au} {fo:V7} {fe fk:FE} {ts:bP} {pos p sp:Pos} {x:Str} {k n:Nat} {f:ae} {fd:dN} {ps:List Str} {g:Ob->ay->cH}
def rdO(i:Nat):V7:=λρ=>match ρ[i]? with | some (.ob o)=>some o | _=>none
def HX(n:Nat)(g:Ob->ay->cH):Ob->ay->cH:=λo ps=>if ps.length=n then g o ps else none
def DN(K:aj)(mg:dQ)(P:Params)(T:Str)(b8:List (Str×PV)):Prop :=
 ∃a es n,mg T=some (.ref a)/\K.lookup a=some ⟨.type "dict",none,.dict es n,#[]⟩/\W.KeysLit P es.toList/\∀k p,b8.lookup k=some p->∃u v,W.nsIn K a k=some (some u)/\RelV v u/\∀F,dh K F p v
def PK(i:Nat)(ρ:aG)(k:PV):bU:=match ρ[i]? with
 | some (.own ps)=>(match k with | .int n=>atI ps n | _=>none)
 | some (.val p)=>aH p k
 | _=>none
def Yl(i:Nat)(fk:FE):FE:=λρ=>(fk ρ).bind (PK i ρ)
theorem Ln{i:Nat}(hx:PE X (.Name x p) (jY i))(hk:PE X ke (tE X.K H₀ ab fk))(hs:lM ke):PE X (.Subscript (.Name x p) ke sp) (tE X.K H₀ ab (Yl i fk)):=by
 rintro ag s σ H Q I ⟨F,ρ,pr,R,hf,q⟩;obtain⟨k,h1,h2⟩:=ax hf;unfold PK at h2;split at h2
 ·rename_i ps hp;split at h2
  ·rename_i n;obtain⟨a,vs,e1,e2,e3,e4,e5⟩:=R.own i ps hp;refine Ab xA hx hk hs ag s σ H Q I ⟨.ref a,e1,F,ρ,.int n,R,h1,λw H1 F1 R1 s1 b1=>?_⟩
   obtain⟨a',TU,g1,g2,g3,g4,g5⟩:=R1.own i ps hp;rw[e1]at g1;cases g1;obtain⟨v,hv,bv⟩:=g5.atI h2;exact⟨a,TU,n,v,rfl,aM.mp b1,l8.of g2,hv,q v H1 F1 R1 s1 bv⟩
  ·cases h2
 ·rename_i p' hp;refine XU (vR (H₀:=H₀) (ab:=ab) i hx) hk hs ag s σ H Q I ⟨F,ρ,pr,R,?_,q⟩;have hr:rd i ρ=some p':=by unfold rd;rw[hp]
  show(rd i ρ).bind (λa=>(fk ρ).bind λb=>aH a b)=_
  rw[hr,aQ,h1];exact h2
 ·cases h2
def spI(K:aj)(n:Nat)(mk:ay->Option (List (Str×Fd))):Sp:=λvs H Q _=>∃F C dx x us ps fs,vs=.ref x::us/\H x=some (.SF C dx [])/\VX K C/\F x=none/\Same F H/\bj K F ps us/\ps.length=n/\mk ps=some fs/\(∀f∈fs,pB K C f.1)/\fs.length<=900 /\
 ∀F' H',(∃ws,F' x=some (.SF C dx ws)/\Dt K F' fs ws)->Same F' H'->Same F F'->(∀b o,H b=some o->b≠x->H' b=some o)->(∀b o,F' b=some o->b≠x->F b=some o\/H b=none)->Q .cE H'
end
def mW:cf->PV
 | .inl i=>.int i
 | .inr x=>.str x
noncomputable def HY:PV->Option cf
 | .int i=>some (.inl i)
 | .str x=>some (.inr x)
 | _=>none
def HZ:ay->Option (List cf)
 | []=>some []
 | p::r=>(HY p).bind λk=>(HZ r).map λks=>k::ks
def mx:PV->Option (List cf)
 | .aC ps=>if ps.length<1000 then HZ ps else none
 | _=>none
def fK(ks:List cf):PV:=.aC (ks.map mW)
def factsOf:ay->Option (List (List cf))
 | []=>some []
 | p::r=>(mx p).bind λk=>(factsOf r).map λks=>k::ks
theorem xV{p:PV}{k:cf}(h:HY p=some k):p=mW k:=by
 cases p<;>first | (cases h;rfl) | cases h
theorem FL:∀{ps:ay} {ks:List cf},HZ ps=some ks->ps=ks.map mW
 | [],_,h=>by cases h;rfl
 | p::r,ks,h=>by
  obtain⟨k,h1,h⟩:=ax h;obtain⟨l,h2,rfl⟩:=jS.mp h;rw[xV h1,FL h2];rfl
theorem AJ{p:PV}{ks:List cf}(h:mx p=some ks):p=fK ks/\ks.length<1000:=by
 cases p with
 | aC ps =>
  obtain⟨hl,h⟩:=aF (show(if ps.length<1000 then HZ ps else none)=some ks from h)
  have e:=FL h;subst e;rw[aB]at hl;exact⟨rfl,hl⟩
 | _=>cases h
theorem mY:∀{ps:ay} {ks:List (List cf)},factsOf ps=some ks->ps=ks.map fK/\∀k∈ks,k.length<1000
 | [],_,h=>by cases h;exact⟨rfl,λ_ z=>nomatch z⟩
 | p::r,ks,h=>by
  obtain⟨k,h1,h⟩:=ax h;obtain⟨l,h2,rfl⟩:=jS.mp h;obtain⟨e1,l1⟩:=AJ h1;obtain⟨e2,l2⟩:=mY h2;rw[e1,e2];exact⟨rfl,λz hz=>(aZ.mp hz).elim (λq=>q▸l1) (l2 z)⟩
section
variable {K:aj} {F F' H H':Hp}
theorem tX{k:cf}{v:V}:dh K F (mW k) v↔v=kV k:=by
 cases k with
 | inl i=>exact aM
 | inr x=>exact cI
theorem pU:∀{ks:List cf} {vs:List V},bj K F (ks.map mW) vs->vs=ks.map kV
 | [],_,h=>h.b9
 | k::ks,_,h=>by
  obtain⟨v,r,rfl,h1,h2⟩:=h.cb;rw[tX.mp h1,pU h2];rfl
theorem FN{ks:List cf}{v:V}(h:dh K F (fK ks) v):∃a,v=.ref a/\iA K F a (ks.map kV):=by
 obtain⟨a,vs,rfl,h1,h2⟩:=bH.mp h;rw[pU h2]at h1;exact⟨a,rfl,h1⟩
end
abbrev fD:=List (List cf×Int)
noncomputable def Lo(ks:List (List cf))(k:List cf):Bool:=ks.any λj=>decide (j=k)
def fG(told:fD)(c:Int)(f:List cf):fD:=if Lo (told.map (·.1)) f=true then told else told++[(f,c)]
def dr(told:fD)(c:Int):List (List cf)->fD
 | []=>told
 | f::r=>dr (fG told c f) c r
theorem wa(c:Int)(f:List cf):∀(l:List (List cf)) (told:fD),dr told c (l++[f])=fG (dr told c l) c f
 | [],_=>rfl
 | g::l,told=>wa c f l (fG told c g)
theorem H9(told:fD)(c:Int)(f:List cf):(fG told c f).length<=told.length+1:=by
 unfold fG;split
 ·lia
 ·rw[bF];exact bc _
theorem lQ(c:Int):∀(l:List (List cf)) (told:fD),(dr told c l).length<=told.length+l.length
 | [],_=>bc _
 | g::l,told=>by
  have h1:=lQ c l (fG told c g);have h2:=H9 told c g;show(dr (fG told c g) c l).length<=_;rw[bt]
  lia
def toldP(t:List cf×Int):PV:=.aC (t.1.map mW++[.int t.2])
def gi(out:List cf->Option (List (List cf))):Nat->Nat->fD->Option fD
 | 0,_,_=>none
 | n+1,k,told=>match told[k]? with
  | none=>some told
  | some t=>(out t.1).bind λfs=>if told.length+fs.length<gH then gi out n (k+1) (dr told k fs)else none
theorem ou{K:aj}{F H:Hp}{ρ:aG}{σ:St}(hs:Same F H)(hn:∀e∈ρ,(∀ps,e≠.own ps)/\∀m,e≠.cn m)(hv:∀(i:Nat) (p:PV),ρ[i]?=some (.val p)->∃v,σ[i]?=some (some v)/\dh K F p v)
  (ho:∀(i:Nat) (o:Ob),ρ[i]?=some (.ob o)->∃a,σ[i]?=some (some (.ref a))/\xE K F o a) (hl:ρ.length=σ.length):cY K H F F ρ σ H where
 sub:=hs
 keep:=Same.refl H
 base:=Same.refl F
 fresh:=λ_ _ e=>.inl e
 val:=hv
 own:=λi ps e=>absurd rfl ((hn _ (cS e)).1 ps)
 apart:=λi j ps qs a e=>absurd rfl ((hn _ (cS e)).1 ps)
 obs:=ho
 cn:=λi m e=>absurd rfl ((hn _ (cS e)).2 m)
 len:=hl
def tEx(K:aj)(f:FE):TE:=λσ H Q=>∃H₀ ab,tE K H₀ ab f σ H Q
theorem Ym{X:Cx}{e:au}{f:FE}(h:∀H₀ ab,PE X e (tE X.K H₀ ab f)):PE X e (tEx X.K f):=λag s σ H Q I ⟨H₀,ab,q⟩=>h H₀ ab ag s σ H Q I q
section
variable {X:Cx}
def rKn(K:aj):R2:=λx y H Q=>∃b d xs k,x=.ref b/\y=.ref d/\Rd H d (.dT xs)/\jw K H xs/\iA K H b (k.map kV)/\Q (.bl (!(atKey xs k).isSome)) H
theorem R8(hu:X.A.units+1<cLine):OpR X (compareOp .NotIn) (rKn X.K):=by
 rintro ag s σ H x y v u Q I rx ry ⟨b,d,xs,k,ex,ey,h1,h2,h3,q⟩;subst ex ey;cases rx;cases ry;exact Xk hu I h1 h2 h3 λs' I'=>⟨.bl (!(atKey xs k).isSome),H,I',rfl,q⟩
def R9(K:aj)(td ty tv:TE):TS:=λD σ H=>tv σ H λv H1=>td σ H1 λx H2=>ty σ H2 λy H3=>∃a b xs k,x=.ref a/\y=.ref b/\H3 a=some (.dT xs)/\jw K H3 xs/\iA K H3 b (k.map kV)/\xs.length<sizeLine /\
 ∀r,RelV v r->D.nx σ (upd H3 a (.dT (storedH xs k b r)))
theorem FP{o i value:au}{td ty tv:TE}{pos ib:Pos}(hu:X.A.units+1<cLine)(ho:PE X o td)(hi:PE X i ty)(hv:PE X value tv)(hs:swapsWith value (some (.Subscript o i ib)) pos.line X.env=pure false) :
  PS X (.Assign [.Subscript o i ib] value pos) (R9 X.K td ty tv):=by
 intro ag s σ H D I h;refine wpAny_Assign_Subscript (thn (hv ag s σ H _ I h) λr s1 ⟨v,H1,I1,rv,q1⟩=>thn (ho ag s1 σ H1 _ I1 q1) λu s2 ⟨x,H2,I2,rx,q2⟩=>thn (hi ag s2 σ H2 _ I2 q2) λiv s3 ⟨y,H3,I3,ry,a,b,xs,k,ex,ey,e1,e2,e3,e4,q3⟩=>?_) hs
 subst ex ey;cases rx;cases ry;exact TK hu I3 e1 e2 e3 e4 λs4 I4=>⟨σ,_,I4,q3 r rv⟩
end
noncomputable def tY(p:Nat->Pos):aE :=
 .FunctionDef (name:="tell_new")
  (args:={posonlyargs:=[],args:=[{arg:="told",annotation:=none,pos:=p 0},{arg:="known",annotation:=none,pos:=p 1},{arg:="facts",annotation:=none,pos:=p 2},{arg:="came",annotation:=none,pos:=p 3}],vararg:=none,kwonlyargs:=[],kw_defaults:=[],kwarg:=none,defaults:=[]})
  (body:=[.For (.Name "fact" (p 4)) (.Name "facts" (p 5)) [.If (.Compare (.Name "fact" (p 6)) [.NotIn] [.Name "known" (p 7)] (p 8))
   [.Assign [.Subscript (.Name "known" (p 9)) (.Name "fact" (p 10)) (p 11)] (.Constant (.bool true) 0 (p 12)) (p 13),
   .Expr (.Call (.Attribute (.Name "told" (p 14)) "append" (p 15)) [.BinOp (.Name "fact" (p 16)) .Add (.Tuple [.Name "came" (p 17)] 0 (p 18)) (p 19)] [] (p 20)) (p 21)] [] (p 22)] [] (p 23)])
  (decorator_list:=[]) (returns:=none) (type_params:=[])
  (scope:={kind:=.function,names:=[(Str.ofString "told",.local),(Str.ofString "known",.local),(Str.ofString "facts",.local),(Str.ofString "came",.local),(Str.ofString "fact",.local)],isGenerator:=false,isCoroutine:=false,more:=[]})
  (tscope:=none) (bind:="tell_new") (pos:=p 24)
noncomputable def iK(p:Nat->Pos):aE :=
 .FunctionDef (name:="spread")
  (args:={posonlyargs:=[],args:=[{arg:="firsts",annotation:=none,pos:=p 0},{arg:="outcomes",annotation:=none,pos:=p 1}],vararg:=none,kwonlyargs:=[],kw_defaults:=[],kwarg:=none,defaults:=[]})
  (body:=[.Assign [.Name "told" (p 2)] (.List [] (p 3)) (p 4),.Assign [.Name "known" (p 5)] (.Dict [] [] (p 6)) (p 7),
   .Expr (.Call (.Name "tell_new" (p 8)) [.Name "told" (p 9),.Name "known" (p 10),.Name "firsts" (p 11),.UnaryOp .USub (.Constant (.int 1) 0 (p 12)) (p 13)] [] (p 14)) (p 15),
   .Assign [.Name "k" (p 16)] (.Constant (.int 0) 0 (p 17)) (p 18),
   .While (.Compare (.Name "k" (p 19)) [.Lt] [.Call (.Name "len" (p 20)) [.Name "told" (p 21)] [] (p 22)] (p 23))
    [.Expr (.Call (.Name "tell_new" (p 24)) [.Name "told" (p 25),.Name "known" (p 26),.Call (.Name "outcomes" (p 27)) [.Subscript (.Subscript (.Name "told" (p 28)) (.Name "k" (p 29)) (p 30)) (.Slice none (some (.UnaryOp .USub (.Constant (.int 1) 0 (p 31)) (p 32))) none (p 33)) (p 34)] [] (p 35),.Name "k" (p 36)] [] (p 37)) (p 38),
    .AugAssign (.Name "k" (p 39)) .Add (.Constant (.int 1) 0 (p 40)) (p 41)] [] (p 42),
   .Return (some (.Name "told" (p 43))) (p 44)])
  (decorator_list:=[]) (returns:=none) (type_params:=[])
  (scope:={kind:=.function,names:=[(Str.ofString "firsts",.local),(Str.ofString "outcomes",.local),(Str.ofString "told",.local),(Str.ofString "known",.local),(Str.ofString "k",.local),(Str.ofString "tell_new",.globalImplicit),(Str.ofString "len",.globalImplicit)],isGenerator:=false,isCoroutine:=false,more:=[]})
  (tscope:=none) (bind:="spread") (pos:=p 45)
abbrev Sa:List Str:=["told","known","facts","came","fact"]
abbrev rz:List Str:=["firsts","outcomes","told","known","k"]
structure AK (K:aj) (F H:Hp) (l d:ae) (told:fD) (ws:List V) (xs:List (List cf×ae×aq)):Prop where
 hl:H l=some (.ao ws)
 b:bj K F (told.map toldP) ws
 hd:H d=some (.dT xs)
 ks:xs.map (·.1)=told.map (·.1)
 at_:jw K F xs
 fl:F l=none
 fd:F d=none
theorem AK.to{K:aj}{F H F' H':Hp}{l d:ae}{told:fD}{ws:List V}{xs:List (List cf×ae×aq)}(B:AK K F H l d told ws xs)(f:Same F F')(h:Same H H')(n:∀b o,F' b=some o->F b=some o\/H b=none):AK K F' H' l d told ws xs where
 hl:=h _ _ B.hl
 b:=B.b.mono f
 hd:=h _ _ B.hd
 ks:=B.ks
 at_:=λx hx=>bg f (B.at_ x hx)
 fl:=by
  cases q:F' l with
  | none=>rfl
  | some o =>
   rcases n l o q with z | z
   ·rw[B.fl]at z;cases z
   ·rw[B.hl]at z;cases z
 fd:=by
  cases q:F' d with
  | none=>rfl
  | some o =>
   rcases n d o q with z | z
   ·rw[B.fd]at z;cases z
   ·rw[B.hd]at z;cases z
structure lj (ab H₀ F H:Hp) (l d:ae):Prop where
 f:Same ab F
 s:Same F H
 k:∀b o,b≠l->b≠d->H₀ b=some o->H b=some o
 n:∀b o,F b=some o->ab b=some o\/H₀ b=none
def FQ(K:aj):Sp:=λvs H Q _=>∃F l d va c told fk ws xs,vs=[.ref l,.ref d,va,.int c]/\Same F H/\AK K F H l d told ws xs/\dh K F (.ao (fk.map fK)) va/\(∀k∈fk,k.length<1000)/\told.length+fk.length<gH /\
 ∀F' H' ws' xs',lj F H F' H' l d->AK K F' H' l d (dr told c fk) ws' xs'->Q .cE H'
theorem lj.refl{F H:Hp}{l d:ae}(h:Same F H):lj F H F H l d:=⟨Same.refl F,h,λ_ _ _ _ e=>e,λ_ _ e=>.inl e⟩
section
variable {prog:bK} {w:aW} {K:aj} {mg:dQ} {base:Heap} {p:Nat->Pos} {f:ae} {fd:dN}
set_option maxHeartbeats 1000000 in
theorem PM(Fn:C0 K "tell_new" "tell_new" (tY p) f fd)(S:dY Sa ["told","known","facts","came"] (aP (tY p)))(hp:((p 15).endLine==(p 20).line)=true)(k:Nat):FnOk prog w K mg base (kB prog w) (k+1) f fd ["told","known","facts","came"] (FQ K):=by
 refine Pl Fn S (λvs H Q E ⟨F,l,d,va,c,told,fk,ws,xs,e,_⟩=>by rw[e];rfl) λdI A outer s H vs Q E hr mQ=>?_
 obtain⟨F0,l,d,va,c,told,fk,ws,xs,rfl,hs,B0,hfa,hsz,Kv,hq⟩:=mQ;have hu:=Xf hr;refine⟨_,lK (Ke CG rfl (Fb (pv 2)) (E9 (i:=4) S.nd rfl (Or.inl rfl)) (lK (Rx (nO (R8 hu) (pv 4) (pv 1) rfl)
  (hZ (FP hu (pv 1) (pv 4) Rv rfl) (lK (g9 (Ae oS Cj Cg pI (pv 0)
   (dm (Ym λH₀ ab=>Xu xO nZ (vR 4 (pv 4)) (RO (pJ (vR 3 (pv 3)) vS rfl))) ir rfl) rfl rfl hp rfl rfl)))) E8))),?_⟩
 obtain⟨a,vs,rfl,ha,gX⟩:=bD.mp hfa;refine⟨_,rfl,a,rfl,⟨vs,(b0 hs ha).sq⟩,Kg (K:=K) (xs:=vs) (λi σ H1=>∃F x ws xs,σ=[some (.ref l),some (.ref d),some (.ref a),some (.int c),x]/\lj F0 H F H1 l d/\AK K F H1 l d (dr told c (fk.take i)) ws xs) ?_ ?_ ?_ ?_⟩
 ·exact⟨F0,none,ws,xs,rfl,lj.refl hs,B0⟩
 ·rintro i σ H1 hi ⟨F,x,NQ,DO,_,Pa,B⟩;exact(b0 Pa.s (b0 Pa.f ha)).sq
 ·rintro i x σ H1 hx ⟨F,y,NQ,DO,e,Pa,B⟩;subst e;obtain⟨pf,hpf,RM⟩:=gX.Xq hx;rw[cm]at hpf;obtain⟨fc,hf,rfl⟩:=jS.mp hpf;obtain⟨b,rfl,hb⟩:=FN RM;have tk:dr told c (fk.take (i+1))=fG (dr told c (fk.take i)) c fc:=by
   rw[List.take_add_one,hf];exact wa c fc _ _
  have hbF:iA K F b (fc.map kV):=bg Pa.f hb;refine⟨.ref b,rfl,.ref d,rfl,b,d,DO,fc,rfl,rfl,.inl B.hd,λz hz=>bg Pa.s (B.at_ z hz),bg Pa.s hbF,_,rfl,?_⟩
  have AL:=vP DO fc;rw[B.ks]at AL;by_cases hm:Lo ((dr told c (fk.take i)).map (·.1)) fc=true
  ·have Uz:(atKey DO fc).isSome=true:=AL.trans hm;rw[Uz];refine Xg ⟨F,some (.ref b),NQ,DO,rfl,Pa,?_⟩;rw[tk,fG,if_pos hm];exact B
  ·have Uz:(atKey DO fc).isSome=false:=by
    rw[AL];exact Bool.eq_false_iff.mpr hm
   rw[Uz];have Tu:atKey DO fc=none:=by
    cases z:atKey DO fc with
    | none=>rfl
    | some q=>rw[z]at Uz;cases Uz
   have dD:(dr told c (fk.take i)).length<=told.length+fk.length:=cG (lQ c _ told) (by rw[o8];lia)
   have hxl:DO.length<sizeLine:=by
    have e1:DO.length=(dr told c (fk.take i)).length:=by rw[<-aB (f:=(·.1)),B.ks,aB]
    rw[e1];exact cU (jT dD Kv) (fj (bc _))
   refine Xh ⟨.ref d,rfl,.ref b,rfl,d,b,DO,fc,rfl,rfl,B.hd,λz hz=>bg Pa.s (B.at_ z hz),bg Pa.s hbF,hxl,λr hr'=>?_⟩
   rw[storedH_new Tu];have HK:l≠d:=J4 B.hl B.hd (λz=>nomatch z)
   have sF:Same F (upd H1 d (.dT (DO++[(fc,b,r)]))):=λz o e=>by
    rw[upd_ne (ne_of_none e B.fd)];exact Pa.s _ _ e
   refine⟨.ref l,rfl,.inl ⟨rfl,NQ,l8.of ((upd_ne HK).trans B.hl)⟩,_,F,F,[.un,.un,.un,.val (.int c),.val (fK fc)],.aC (fc.map mW++[.int c]),ou sF (λe he=>?_) (λj q e=>?_) (λj o e=>?_) rfl,?_,λv H2 F2 R2 s2 b2=>?_⟩
   ·simp only[aZ,d3,d8]at he;rcases he with rfl | rfl | rfl | rfl | rfl<;>exact⟨(λ_ z=>by cases z),(λ_ z=>by cases z)⟩
   ·match j,e with
    | 3,e=>cases e;exact⟨_,rfl,aM.mpr rfl⟩
    | 4,e=>cases e;exact⟨_,rfl,RM.mono Pa.f⟩
   ·exact absurd (cS e) (by simp)
   ·have V8:=hsz fc (cS hf);have h1:bQ (fK fc) (.aC [.int c])=some (.aC (fc.map mW++[.int c])):=by
     show sizeOk ((fc.map mW).length+1) _=_;unfold sizeOk;rw[if_pos (by rw[aB];exact cG V8 (by decide))]
    show(if(1:Nat)<=gH then some (PV.aC [.int c])else none).bind (λy=>bQ (fK fc) y)=_
    rw[if_pos (by decide)]
    exact h1
   ·have nl:F2 l=none:=by
     cases q:F2 l with
     | none=>rfl
     | some o =>
      rcases R2.fresh l o q with z | z
      ·rw[B.fl]at z;cases z
      ·rw[upd_ne HK,B.hl]at z;cases z
    have nd:F2 d=none:=by
     cases q:F2 d with
     | none=>rfl
     | some o =>
      rcases R2.fresh d o q with z | z
      ·rw[B.fd]at z;cases z
      ·rw[aI]at z;cases z
    have OY:H2 l=some (.ao NQ):=R2.keep _ _ ((upd_ne HK).trans B.hl);have RE:NQ.length<sizeLine:=by
     have e1:NQ.length=(dr told c (fk.take i)).length:=by rw[<-B.b.length,aB]
     rw[e1];exact cU (jT dD Kv) (fj (bc _))
    refine⟨l,NQ,v,rfl,rfl,OY,RE,F2,some (.ref b),NQ++[v],DO++[(fc,b,r)],rfl,⟨Pa.f.trans R2.base,λz o e=>?_,λz o h1 h2 e=>?_,λz o e=>?_⟩,?_⟩
    ·rw[upd_ne (ne_of_none e nl)];exact R2.sub _ _ e
    ·rw[upd_ne h1];exact R2.keep _ _ (by rw[upd_ne h2];exact Pa.k z o h1 h2 e)
    ·rcases R2.fresh z o e with q | q
     ·exact Pa.n z o q
     ·refine .inr ?_;cases hz:H z with
      | none=>rfl
      | some o' =>
       have h1:z≠l:=λy=>by rw[y,nl]at e;cases e
       have h2:z≠d:=λy=>by rw[y,nd]at e;cases e
       rw[upd_ne h2,Pa.k z o' h1 h2 hz]at q;cases q
    ·rw[tk,fG,if_neg hm];refine⟨aI,?_,?_,?_,λz hz=>?_,nl,nd⟩
     ·rw[cM];exact(B.b.mono R2.base).append (.cons b2 .nil)
     ·rw[upd_ne (eE HK)];exact R2.keep _ _ aI
     ·rw[cM,cM,B.ks];rfl
     ·rcases cW.mp hz with hz | hz
      ·exact bg R2.base (B.at_ z hz)
      ·obtain rfl:z=(fc,b,r):=by simpa using hz
       exact bg R2.base hbF
 ·rintro σ H1 ⟨F,x,NQ,DO,_,Pa,B⟩;refine hq F H1 NQ DO Pa ?_;have e1:vs.length=fk.length:=by rw[<-gX.length,aB]
  rw[e1,List.take_length]at B;exact B
end
def Lp(X:Cx)(fQ:Hp)(fa:ae)(out:List cf->Option (List (List cf))):Prop:=∀(ag:List (ae×Obj)) (s:az) (σ:St) (H F:Hp) (b:ae) (f:List cf) (fk:List (List cf)) (Q:VK),Inv X ag σ H s->Same fQ F->Same F H->dh X.K F (fK f) (.ref b)->out f=some fk ->
 (∀v H' F',Same H H'->Same F F'->Same F' H'->(∀a o,F' a=some o->F a=some o\/H a=none)->dh X.K F' (.ao (fk.map fK)) v->Q v H')->wpAny (model X.prog X.w) X.A (call (.ref fa) [.ref b]) (EP X ag σ Q) X.xe s
def Yn(K:aj)(fQ:Hp)(out:List cf->Option (List (List cf)))(Q:VK):List V->Hp->Prop
 | [v],H1=>∃F b f fk,v=.ref b/\Same fQ F/\Same F H1/\dh K F (fK f) (.ref b)/\out f=some fk /\
  ∀v' H' F',Same H1 H'->Same F F'->Same F' H'->(∀a o,F' a=some o->F a=some o\/H1 a=none)->dh K F' (.ao (fk.map fK)) v'->Q v' H'
 | _,_=>False
def adu(K:aj)(fQ:Hp)(fa:ae)(out:List cf->Option (List (List cf)))(i:Nat)(te:TE):TE:=λσ H Q=>σ[i]?=some (some (.ref fa))/\te σ H λv H1=>Yn K fQ out Q [v] H1
theorem UG{X:Cx}{fQ:Hp}{fa:ae}{out:List cf->Option (List (List cf))}{i:Nat}{y:Str}{p pos:Pos}{e:au}{te:TE}{o:Obj}{u:HO}{UH:dN}(hy:PE X (.Name y p) (jY i))(ha:PE X e te)(V9:X.H₀ fa=some (.mj o u))(hfd:o.data=.func UH)(L:Lp X fQ fa out)
  (he:starEach [e] X.env=(false,eval e X.env)::starEach [] X.env:=by rfl):PE X (.Call (.Name y p) [e] [] pos) (adu X.K fQ fa out i te):=by
 rintro ag s σ H Q I ⟨e1,h⟩;refine mH (thn (hy ag s σ H (λv H1=>v=.ref fa/\H1=H) I ⟨_,e1,rfl,rfl⟩) λv s1 ⟨z,H1,I1,rx,ex,eh⟩=>?_)
 subst ex eh;cases rx;have hP:∀{c9:St} {H':Hp} {s':az},Inv X ag c9 H' s'->s'.heap.get? fa=some o:=λ{c9 H' s'} J=>(J.hok fa _ (J.base.frzs fa o u V9)).1
 have hk:∀h:Heap,h.get? fa=some o->∃k,(k=Keeper.frame\/k=Keeper.machine\/k=Keeper.boundFrame)/\W.Looks (model X.prog X.w) h (keeperOf (.ref fa)) k:=λh ho=>by
  obtain⟨c1,c2,c3,c4⟩:=o;cases hfd;exact⟨.frame,.inl rfl,(W.Looks.ld (part:=none) ho).andThen .now⟩
 have Sb:wpAny (model X.prog X.w) X.A (spliced (backTo pos (starEach [e] X.env))) (λus s2=>s2.heap.get? fa=some o/\wpAny (model X.prog X.w) X.A (call (.ref fa) ([]++us)) (EP X ag σ Q) X.xe s2) X.xe s1 :=
  thn ((dm ha ir he) pos ag s1 σ H1 (Yn X.K fQ out Q) I1 h) λus s2 ⟨vs,H2,I2,r,q⟩=>⟨hP I2,by
   match vs,r,q with
   | [v],r,⟨F,b,f,fk,ev,q1,q2,q3,q4,q5⟩ =>
    subst ev;obtain⟨u2,rfl,ru⟩:=kj r;cases ru;exact L ag s2 σ H2 F b f fk Q I2 q1 q2 q3 q4 q5⟩
 rw[he]at Sb ⊢;exact W.callWith_of (P:=λh=>h.get? fa=some o) rfl hk (PySem.Calls.evalArgs_plain Sb)
theorem lj.trans{F0 H0 F H F' H':Hp}{l d:ae}(P1:lj F0 H0 F H l d)(P2:lj F H F' H' l d)(nl:F' l=none)(nd:F' d=none):lj F0 H0 F' H' l d:=by
 refine⟨P1.f.trans P2.f,P2.s,λb o h1 h2 e=>P2.k b o h1 h2 (P1.k b o h1 h2 e),λb o e=>?_⟩
 rcases P2.n b o e with q | q
 ·exact P1.n b o q
 ·refine .inr ?_;cases hz:H0 b with
  | none=>rfl
  | some o' =>
   have h1:b≠l:=λy=>by rw[y,nl]at e;cases e
   have h2:b≠d:=λy=>by rw[y,nd]at e;cases e
   rw[P1.k b o' h1 h2 hz]at q;cases q
theorem lj.of{F H F' H':Hp}{l d:ae}(h1:Same H H')(h2:Same F F')(h3:Same F' H')(h4:∀b o,F' b=some o->F b=some o\/H b=none):lj F H F' H' l d:=⟨h2,h3,λb o _ _ e=>h1 b o e,h4⟩
def PN(H:Hp)(l:ae):Hp:=λb=>if b=l then none else H b
theorem xW{H:Hp}{l:ae}:PN H l l=none:=if_pos rfl
theorem jf{H:Hp}{l b:ae}(h:b≠l):PN H l b=H b:=if_neg h
theorem Lq(ps:ay)(c:PV):jz (ps++[c]) none (some (-1))=ps:=by
 have h0:HT.fy (ps++[c]).length 0 none=0:=by simp[HT.fy]
 have h1:HT.fy (ps++[c]).length (ps++[c]).length (some (-1))=ps.length:=by
  show(if(-1:Int)<0 then((-1:Int)+(((ps++[c]).length:Nat):Int)).toNat else min (-1:Int).toNat (ps++[c]).length)=_
  rw[if_pos (by decide),bF]
  show(-1+((ps.length+1:Nat):Int)).toNat=_
  lia
 unfold jz;rw[h0,h1,List.drop_zero,Nat.sub_zero,List.take_left]
section
variable {prog:bK} {w:aW} {K:aj} {mg:dQ} {base:Heap} {p:Nat->Pos} {f fT fa:ae} {FU:dN} {dI:aq} {A:bY} {outer:List Env} {s:az} {H:Hp} {E:XK} {k:Nat} {o:Obj} {u:HO} {UH:dN} {fQ:Hp} {out:List cf->Option (List (List cf))}
abbrev cxS(prog:bK)(w:aW)(K:aj)(mg:dQ)(base:Heap)(p:Nat->Pos)(f:ae)(dI:aq)(A:bY)(outer:List Env)(s:az)(H:Hp)(E:XK):Cx:=kq (kB prog w) prog w K mg base rz "spread" (aP (iK p)) f dI A outer s H E
set_option maxHeartbeats 1000000 in
theorem AM(S:dY rz ["firsts","outcomes"] (aP (iK p)))(FT:FnOk prog w K mg base (kB prog w) k fT FU ["told","known","facts","came"] (FQ K)) (hr:eJ k (A.deeper (envOfC "spread" (aP (iK p)) s.heap.objs.size f dI))) (mT:mg "tell_new"=some (.ref fT)) (kT:W.keepIn K (.ref fT)=true)
  (bT:fO K FU ["told","known","facts","came"] []) (mL:mg "len"=none) (V9:H fa=some (.mj o u)) (hfd:o.data=.func UH) (L:Lp (cxS prog w K mg base p f dI A outer s H E) fQ fa out) (hsz:∀f fk,out f=some fk->∀x∈fk,x.length<1000)
  {va:V} {UI:List (List cf)} {n:Nat} {res:fD} {Q:VK} (h1:Same fQ H) (h2:dh K fQ (.ao (UI.map fK)) va) (h3:∀x∈UI,x.length<1000) (h4:UI.length<gH) (h5:gi out n 0 (dr [] (-1) UI)=some res)
  (hq:∀l ws F' H',Same H H'->Same fQ F'->Same F' H'->(∀b o,F' b=some o->fQ b=some o\/H b=none)->H l=none->F' l=none->H' l=some (.ao ws)->bj K F' (res.map toldP) ws->Q (.ref l) H') :
  ∃t,qU (cxS prog w K mg base p f dI A outer s H E) (cy (iK p)) t/\t {nx:=λ_ H'=>Q .cE H',rt:=Q} (start rz [va,.ref fa]) H:=by
 refine⟨_,hZ (xq (i:=2) S.nd rfl (Or.inl rfl) (Kn ir)) (hZ (xq (i:=3) S.nd rfl (Or.inl rfl) Fm)
  (hZ (g9 (nQ FT hr rfl mT kT bT .nil qE (dm (pv 2) (dm (pv 3) (dm (pv 0) (dm (RA Kh xo) ir))))))
  (hZ (xq (i:=4) S.nd rfl (Or.inl rfl) xo)
  (hZ (Ka CG (nO RB (pv 4) (kR j0 rfl mL PySem.boot_len (dm (pv 2) ir)) rfl)
   (hZ (g9 (nQ FT hr rfl mT kT bT .nil qE (dm (pv 2) (dm (pv 3) (dm (UG (i:=1) (pv 1) (Ym λH₀ ab=>RU (Ln (i:=2) (pv 2) (vR 4 (pv 4)) (λ_ _=>rfl)) K1 (K2 (RV RN))) V9 hfd L) (dm (pv 4) ir))))))
    (lK (J9 (i:=4) (ti:=De λi j=>.int (i+j)) S.nd rfl (Or.inl rfl) xo (λag s σ H x y v u Q I r1 r2 t=>iop_add ag s σ H x y v u Q I r1 r2 t)))))
  (lK (C8 (pv 2))))))),?_⟩
 refine⟨gr _,λl hl=>?_⟩
 intro d hd;have hld:l≠d:=λz=>by rw[z,aI]at hd;cases hd
 have hHd:H d=none:=by rw[upd_ne (eE hld)]at hd;exact hd
 have sH2:Same H (upd (upd H l (.ao [])) d (.dT [])):=λb ob e=>by rw[upd_ne (ne_of_none e hHd),upd_ne (ne_of_none e hl)];exact e
 have fl:fQ l=none:=h1.free hl;have fdn:fQ d=none:=h1.free hHd;refine⟨_,rfl,_,rfl,_,rfl,1,rfl,fQ,l,d,va,-1,[],UI,[],[],rfl,h1.trans sH2,⟨?_,.nil,aI,rfl,(λ_ z=>by cases z),fl,fdn⟩,h2,h3,by rw[iG,jX];exact h4,λF2 H2 ws2 xs2 Pa2 B2=>?_⟩
 ·rw[upd_ne hld,aI]
 have P0:lj fQ H F2 H2 l d:=⟨Pa2.f,Pa2.s,λb ob e1 e2 e=>Pa2.k b ob e1 e2 (sH2 _ _ e),λb ob e=>by
  rcases Pa2.n b ob e with q | q
  ·exact .inl q
  ·exact .inr (sH2.free q)⟩
 have hl0:(dr [] (-1) UI).length<gH:=jT (lQ (-1) UI []) (by rw[iG,jX];exact h4)
 refine⟨λm σ H1=>∃(j:Nat) (told:fD) (F:Hp) (ws:List V) (xs:List (List cf×ae×aq)),σ=[some va,some (.ref fa),some (.ref l),some (.ref d),some (.int j)]/\gi out m j told=some res/\lj fQ H F H1 l d/\AK K F H1 l d told ws xs/\told.length<gH,
  ⟨n,0,_,F2,ws2,xs2,rfl,h5,P0,B2,hl0⟩,?_⟩
 rintro m σ H1 ⟨j,told,F,ws,xs,rfl,mQ,Pa,B,Kv⟩
 have RE:ws.length=told.length:=by rw[<-B.b.length,aB]
 refine⟨_,rfl,_,rfl,l,ws,rfl,.inl (l8.of B.hl),j,ws.length,rfl,rfl,_,rfl,?_⟩;cases m with
 | zero=>cases mQ
 | succ m =>
  cases ht:told[j]? with
  | none =>
   have mQ:(match told[j]? with | none=>some told | some t=>(out t.1).bind λfs=>if told.length+fs.length<gH then gi out m (j+1) (dr told j fs)else none)=some res:=mQ
   rw[ht]at mQ;cases mQ;have hjl:res.length<=j:=rM.mp ht;rw[gn (by rw[RE];lia)]
   refine Xg ⟨_,rfl,hq l ws F H1 (λb ob e=>Pa.k b ob (λz=>by rw[z,hl]at e;cases e) (λz=>by rw[z,hHd]at e;cases e) e) Pa.f Pa.s Pa.n hl B.fl B.hl B.b⟩
  | some t =>
   have mQ:(match told[j]? with | none=>some told | some t=>(out t.1).bind λfs=>if told.length+fs.length<gH then gi out m (j+1) (dr told j fs)else none)=some res:=mQ
   rw[ht]at mQ;obtain⟨fk,PQ,mQ⟩:=ax mQ;obtain⟨Sd,mQ⟩:=aF mQ;have hjl:j<told.length:=(dF.mp ht).1;rw[gp (by rw[RE];lia)]
   refine Xh ⟨_,λc9 H' z=>⟨m,CS m,z⟩,?_⟩
   have UJ:∀(i:Nat) (q:ay),([.un,.un,.own (told.map toldP),.un,.val (.int j)]:aG)[i]?=some (.own q)->i=2/\q=told.map toldP:=λi q e=>by
    match i,e with
    | 2,e=>cases e;exact⟨rfl,rfl⟩
    | i+3,e=>exact absurd (cS (show([.un,.val (.int j)]:aG)[i]?=some (.own q)from e)) (by simp)
   refine⟨_,rfl,_,rfl,rfl,PN H1 l,F,F,[.un,.un,.own (told.map toldP),.un,.val (.int j)],fK t.1,?_,?_,λv H3 F3 R3 s3 b3=>?_⟩
   ·exact {
     sub:=Pa.s
     keep:=λb ob e=>by
      by_cases z:b=l
      ·subst z;rw[xW]at e;cases e
      ·rw[jf z]at e;exact e
     base:=Same.refl F
     fresh:=λ_ _ e=>.inl e
     val:=λi q e=>by
      match i,e with
      | 4,e=>cases e;exact⟨_,rfl,aM.mpr rfl⟩
     own:=λi q e=>by
      obtain⟨rfl,rfl⟩:=UJ i q e;exact⟨l,ws,rfl,B.hl,xW,B.fl,B.b⟩
     apart:=λi1 i2 q1 q2 a e1 e2 _ _=>by
      rw[(UJ i1 q1 e1).1,(UJ i2 q2 e2).1]
     obs:=λi q e=>absurd (cS e) (by simp)
     cn:=λi q e=>absurd (cS e) (by simp)
     len:=rfl}
   ·show((PK 2 [.un,.un,.own (told.map toldP),.un,.val (.int j)] (.int j)).bind λq=>O9 none (some (-1)) q)=_
    have e1:PK 2 [.un,.un,.own (told.map toldP),.un,.val (.int j)] (.int j)=some (toldP t):=by
     show atI (told.map toldP) (j:Int)=_;exact dw (by rw[cm,ht];rfl)
    rw[e1];show some (PV.aC (jz (t.1.map mW++[.int t.2]) none (some (-1))))=_;rw[Lq];rfl
   ·obtain⟨b,rfl,hb⟩:=FN b3;obtain⟨l',ws3,g1,g2,_,g4,g5⟩:=R3.own 2 _ rfl;cases g1;have gd:H3 d=some (.dT xs):=R3.keep _ _ (by rw[jf (eE hld)];exact B.hd)
    have nd3:F3 d=none:=by
     cases q:F3 d with
     | none=>rfl
     | some ob =>
      rcases R3.fresh d ob q with z | z
      ·rw[B.fd]at z;cases z
      ·rw[jf (eE hld),B.hd]at z;cases z
    have B3:AK K F3 H3 l d told ws3 xs:=⟨g2,g5,gd,B.ks,λx hx=>bg R3.base (B.at_ x hx),g4,nd3⟩
    have P3:lj F H1 F3 H3 l d:=⟨R3.base,R3.sub,λb ob e1 _ e=>R3.keep _ _ (by rw[jf e1];exact e),λb ob e=>by
     rcases R3.fresh b ob e with q | q
     ·exact .inl q
     ·refine .inr ?_;have e1:b≠l:=λy=>by rw[y,g4]at e;cases e
      rw[jf e1]at q;exact q⟩
    refine⟨F3,b,t.1,fk,rfl,Pa.f.trans R3.base,R3.sub,b3,PQ,λv' H4 F4 z1 z2 z3 z4 z5=>?_⟩
    have B4:=B3.to z2 z1 z4;have P4:lj F3 H3 F4 H4 l d:=lj.of z1 z2 z3 z4;have Pa4:lj fQ H F4 H4 l d:=(Pa.trans P3 g4 nd3).trans P4 B4.fl B4.fd;refine⟨_,rfl,F4,l,d,v',j,told,fk,ws3,xs,rfl,z3,B4,z5,hsz _ _ PQ,Sd,λF5 H5 ws5 xs5 Pa5 B5=>?_⟩
    refine⟨_,rfl,j,1,rfl,rfl,j+1,dr told j fk,F5,ws5,xs5,rfl,mQ,Pa4.trans Pa5 B5.fl B5.fd,B5,jT (lQ j fk told) Sd⟩
end
def AN(fb:FE)(xX:aG)(f:List cf):Option (List (List cf)):=(fb (.val (fK f)::xX)).bind λq=>match q with
 | .ao fs=>factsOf fs
 | _=>none
theorem wb{fb:FE}{xX:aG}{f:List cf}{fk:List (List cf)}(h:AN fb xX f=some fk):fb (.val (fK f)::xX)=some (.ao (fk.map fK))/\∀x∈fk,x.length<1000:=by
 obtain⟨q,h1,h2⟩:=ax h;cases q with
 | ao fs =>
  obtain⟨e,l⟩:=mY h2;rw[e]at h1;exact⟨h1,l⟩
 | _=>cases h2
structure PR (K:aj) (F:Hp) (xX:aG) (τ:St):Prop where
 no:∀e∈xX,(∀ps,e≠.own ps)/\∀m,e≠.cn m
 val:∀(i:Nat) (p:PV),xX[i]?=some (.val p)->∃v,τ[i]?=some (some v)/\dh K F p v
 obs:∀(i:Nat) (o:Ob),xX[i]?=some (.ob o)->∃a,τ[i]?=some (some (.ref a))/\xE K F o a
 len:xX.length=τ.length
theorem PR.rep{K:aj}{fQ F H:Hp}{xX:aG}{τ:St}(C:PR K fQ xX τ)(f:Same fQ F)(h:Same F H){p:PV}{v:V}(b:dh K F p v):cY K H F F (.val p::xX) (some v::τ) H:=by
 refine ou h (λe he=>?_) (λi q e=>?_) (λi q e=>?_) ?_
 ·rcases aZ.mp he with rfl | he
  ·exact⟨(λ_ z=>by cases z),(λ_ z=>by cases z)⟩
  ·exact C.no e he
 ·cases i with
  | zero=>cases e;exact⟨v,rfl,b⟩
  | succ i =>
   obtain⟨x,h1,h2⟩:=C.val i q (by simpa using e)
   exact⟨x,by simpa using h1,h2.mono f⟩
 ·cases i with
  | zero=>cases e
  | succ i =>
   obtain⟨x,h1,h2⟩:=C.obs i q (by simpa using e)
   exact⟨x,by simpa using h1,h2.mono f⟩
 ·rw[bt,bt,C.len]
theorem UK{X:Cx}{fQ:Hp}{fa:ae}{qual x:Str}{params:Arguments}{body:au}{scope:Scope}{cl:List (Str×ae)}{N:List Str}{τ:St}{xX:aG}{fb:FE}{k:Nat}(hex:X.ex=[])(hL:KA X.H₀ fa qual params body scope cl)(hC:kX X.s₀.heap X.H₀ scope cl N τ)(hF:PR X.K fQ xX τ)(hr:eJ (k+1) X.A)
  (hb:∀(pm dI Hq u:aq),bindArgs (W.kla_fn "<lambda>" qual params body scope cl pm dI Hq) ⟨[u],[]⟩=pure [(x,u)]) (hk:scope.kind=.function) (TL:scope.isCoroutine=false) (TM:scope.isGenerator=false) (hx:scope.names.lookup x=some .local) (nc:∀y∈scope.names,y.2≠.cell)
  (hbody:∀(dI:aq) (s:az) (H H₀ ab:Hp),eJ k (X.A.deeper (W.envX qual scope s.heap.objs.size fa dI cl))->PE (V3 (kB X.prog X.w) X.prog X.w X.K X.mg X.base (x::N) qual scope fa dI cl X.A X.stack s H E0) body (tE X.K H₀ ab fb)):Lp X fQ fa (AN fb xX):=by
 intro ag s σ H F b f fk Q I s1 s2 bf ho q;obtain⟨h1,h2⟩:=wb ho;obtain⟨o,u,pm,dI,Hq,c,oc,uc,vs,t,k1,k2,rfl,k3,k4,k5⟩:=hL;have g1:s.heap.get? fa=some o:=(I.hok fa _ (I.base.frzs fa o u k1)).1;have g2:s.heap.get? c=some oc:=(I.hok c _ (I.base.frzs c oc uc k3)).1;have C:kX s.heap H scope cl N τ:=hC.un (by have:=I.base;rw[hex]at this;exact this)
 refine wpAny_call (mK (OB (CX:=kB X.prog X.w) (E:=E0) (x:=x) (N:=N) (τ:=τ) (v:=.ref b) g1 k2 ⟨c,oc,vs,t,rfl,g2,k4,k5⟩ hr I.Tr (hb _ _ _ _) rfl hk TL TM hx nc C ⟨_,hbody (.ref c) s H H F (hr.deeper _),F,.val (fK f)::xX,_,hF.rep s1 s2 bf,h1,λv H' F' R' s' b'=>q v H' F' R'.keep s' R'.sub R'.fresh b'⟩) λr s' hq=>?_)
 cases r with
 | error e=>exact qE ag σ H s e s' I hq
 | ok fl =>
  cases fl with
  | ret u=>exact I.after hq
  | next=>exact False.elim hq
  | brk=>exact False.elim hq
  | cont=>exact False.elim hq
def wc:Nat:=5000
def lU(fe fb:FE)(link:List (Option Nat)):bP:=λρ=>(fe ρ).bind λq=>match q with
 | .ao fs=>(factsOf fs).bind λfk=>if fk.length<gH then(gi (AN fb (bA link ρ)) wc 0 (dr [] (-1) fk)).map λtold=>told.map toldP else none
 | _=>none
theorem xY{fe fb:FE}{link:List (Option Nat)}{ρ:aG}{ps:ay}(h:lU fe fb link ρ=some ps):∃fk told,fe ρ=some (.ao (fk.map fK))/\(∀x∈fk,x.length<1000)/\fk.length<gH/\gi (AN fb (bA link ρ)) wc 0 (dr [] (-1) fk)=some told/\ps=told.map toldP:=by
 obtain⟨q,h1,h⟩:=ax h;cases q with
 | ao fs =>
  obtain⟨fk,h2,h⟩:=ax (show(factsOf fs).bind _=some ps from h)
  obtain⟨h3,h⟩:=aF h;obtain⟨told,h4,rfl⟩:=jS.mp h;obtain⟨e,l⟩:=mY h2;rw[e]at h1;exact⟨fk,told,h1,l,h3,h4,rfl⟩
 | _=>cases h
theorem PU{K:aj}{H₀ ab F H:Hp}{ρ:aG}{σ:St}(R:cY K H₀ ab F ρ σ H)(link:List (Option Nat)):PR K F (bA link ρ) (inner link σ):=by
 have R':=R.inner link;refine⟨λe he=>?_,R'.val,R'.obs,R'.len⟩
 obtain⟨i,hi⟩:=rN he;rcases dz hi with rfl | ⟨j,q,_,_,rfl⟩ | ⟨j,q,_,_,rfl⟩<;>exact⟨(λ_ z=>by cases z),(λ_ z=>by cases z)⟩
structure tZ (X:Cx) (x:Str) (N:List Str) (link:List (Option Nat)) (scope:Scope):Prop where
 kind:scope.kind=.function
 co:scope.isCoroutine=false
 gen:scope.isGenerator=false
 par:scope.names.lookup x=some .local
 cell:∀y∈scope.names,y.2≠.cell
 free:∀y∈scope.names,y.2=.free->(X.env.kindOf y.1=some .cell\/X.env.kindOf y.1=some .free)
 len:link.length=N.length
 link:∀(i j:Nat) (y:Str),link[i]?=some (some j)->N[i]?=some y->X.N[j]?=some y/\scope.names.lookup y=some .free
theorem PX{X:Cx}{ag:List (ae×Obj)}{σ:St}{H:Hp}{s:az}{x:Str}{N:List Str}{link:List (Option Nat)}{scope:Scope}(I:Inv X ag σ H s)(S:tZ X x N link scope):kX s.heap H scope (kr X.env scope.names []) N (inner link σ) where
 inj:=λy z c h1 h2=>I.ok.inj y z c (cZ h1) (cZ h2)
 has:=λy hy=>by
  have hm:=ez hy;obtain⟨c,hc⟩:=I.ok.has y (S.free _ hm rfl);obtain⟨c',h'⟩:=kY (env:=X.env) scope.names [] hm ⟨c,hc⟩;cases z:(kr X.env scope.names []).lookup y with
  | some c2=>exact⟨c2,rfl⟩
  | none=>exact absurd h' (by intro hh;have:=List.lookup_eq_none_iff.mp z (y,c') hh;simp at this)
 cell:=λy c h=>I.cell y c (cZ h)
 free:=λy c h=>I.freeC y c (cZ h)
 val:=λi y v h1 h2=>by
  unfold L2.PL.inner at h2;rw[cm]at h2;cases z:link[i]? with
  | none=>rw[z]at h2;cases h2
  | some o =>
   rw[z]at h2;cases o with
   | none=>cases h2
   | some j =>
    have h2:(σ[j]?).join=some v:=bM h2;have h3:σ[j]?=some (some v):=by
     cases w:σ[j]? with
     | none=>rw[w]at h2;cases h2
     | some q=>rw[w]at h2;exact dy some h2
    obtain⟨g1,g2⟩:=S.link i j y z h1;have hm:=ez g2;obtain⟨m,_,hl⟩:=I.loc;have hfk:X.env.kindOf y=some .cell\/X.env.kindOf y=some .free:=S.free _ hm rfl;obtain⟨u,ru,lk⟩:=hl j y v g1 h3 (by
     rcases hfk with q | q
     ·exact .inr (.inl q)
     ·exact .inr (.inr q))
    rcases lk with⟨q,_⟩ | ⟨_,c,hc,hi⟩
    ·rcases hfk with q' | q'<;>rw[q]at q'<;>cases q'
    ·obtain⟨c',h'⟩:=kY (env:=X.env) scope.names [] hm ⟨c,hc⟩;cases zz:(kr X.env scope.names []).lookup y with
     | none=>exact absurd h' (by intro hh;have:=List.lookup_eq_none_iff.mp zz (y,c') hh;simp at this)
     | some c2 =>
      have:=cZ zz;rw[hc]at this;cases this;exact⟨c,u,g2,rfl,hi,ru⟩
 len:=by unfold L2.PL.inner;rw[aB];exact S.len
structure Lr (K:aj) (mg:dQ) (p q:Nat->Pos) (fs fT:ae) (Ls FU:dN):Prop where
 S:C0 K "spread" "spread" (iK p) fs Ls
 mS:mg "spread"=some (.ref fs)
 bS:fO K Ls ["firsts","outcomes"] []
 scS:dY rz ["firsts","outcomes"] (aP (iK p))
 T:C0 K "tell_new" "tell_new" (tY q) fT FU
 mT:mg "tell_new"=some (.ref fT)
 bT:fO K FU ["told","known","facts","came"] []
 scT:dY Sa ["told","known","facts","came"] (aP (tY q))
 line:((q 15).endLine==(q 20).line)=true
 len:mg "len"=none
structure Se (X:Cx):Prop where
 ex:∃x c T,x∈d9/\W.tabIn X.K x=some (c,T)/\W.codeHdIn X.K c T=true/\X.env.code=.ref c/\X.env.qual++"<lambda>"=uN x
 blt:Aj X.mg X.base
def oneArg(x:Str)(ap:Pos):Arguments:={posonlyargs:=[],args:=[{arg:=x,annotation:=none,pos:=ap}],vararg:=none,kwonlyargs:=[],kw_defaults:=[],kwarg:=none,defaults:=[]}
theorem Ia{x:Str}{ap:Pos}{qual:Str}{body:au}{scope:Scope}{cl:List (Str×ae)}(pm dI Hq u:aq):bindArgs (W.kla_fn "<lambda>" qual (oneArg x ap) body scope cl pm dI Hq) ⟨[u],[]⟩=pure [(x,u)]:=by
 have hs:seqItems? Value.none=pure none:=rfl;unfold bindArgs;simp only[oneArg,r9,bX,gS,bt,iG,List.zip_cons_cons,List.zip_nil_right,hs,pure_bind,List.forIn_nil,CV];simp[List.lookup]
section
variable {X:Cx} {H₀ ab:Hp} {e body:au} {fe fb:FE} {scope:Scope} {x:Str} {ap lp p1 pos:Pos} {N:List Str} {link:List (Option Nat)} {p q:Nat->Pos} {fs fT:ae} {Ls FU:dN} {k:Nat}
def ady(X:Cx)(H₀ ab F:Hp)(ρ:aG)(σ:St)(fk:List (List cf))(qual:Str)(params:Arguments)(body:au)(scope:Scope)(cl:List (Str×ae)):List V->Hp->Prop
 | [va,vf],H1=>∃F1 fa,vf=.ref fa/\cY X.K H₀ ab F1 ρ σ H1/\Same F F1/\dh X.K F1 (.ao (fk.map fK)) va/\KA H1 fa qual params body scope cl
 | _,_=>False
theorem Lu(D:Lr X.K X.mg p q fs fT Ls FU)(L:Se X)(hg:Gl X "spread")(hr:eJ (k+2) X.A)(he:PE X e (tE X.K H₀ ab fe))(pH:starEach [e,.Lambda (oneArg x ap) body scope lp] X.env=(false,eval e X.env)::starEach [.Lambda (oneArg x ap) body scope lp] X.env)(S:tZ X x N link scope)
  (hbody:∀(qual:Str) (fa:ae) (dI:aq) (cl:List (Str×ae)) (A:bY) (stack:List Env) (s:az) (H PY fQ:Hp),eJ k (A.deeper (W.envX qual scope s.heap.objs.size fa dI cl))->PE (V3 (kB X.prog X.w) X.prog X.w X.K X.mg X.base (x::N) qual scope fa dI cl A stack s H E0) body (tE X.K PY fQ fb)) :
  PE X (.Call (.Name "spread" p1) [e,.Lambda (oneArg x ap) body scope lp] [] pos) (tF X.K H₀ ab (lU fe fb link)):=by
 rintro ag s σ H Q I ⟨F,ρ,ps,R,hf,hq⟩;obtain⟨fk,told,h1,h2,h3,h4,rfl⟩:=xY hf;obtain⟨⟨xn,c,T,l1,l2,l3,l4,l5⟩,hB⟩:=L;have hcl:closureFor scope X.env=pure (kr X.env scope.names []):=tH λy hy hy2=>I.ok.has y.1 (S.free y hy hy2)
 refine mH (ld_glob I hg D.mS ?_ rfl);refine W.callWith_K (h₀:=X.base) I.ok.mod.kin D.S.kp (thn ((dm he (dm (TN l1 l2 l3 l4 l5 hB rfl hcl) ir rfl) pH) pos ag s σ H (ady X H₀ ab F ρ σ fk (uN xn) (oneArg x ap) body scope (kr X.env scope.names [])) I ?_) λus s1 ⟨vs,H1,I1,r,q1⟩=>⟨I1.zj,?_⟩) pH rfl
 ·exact⟨F,ρ,_,R,h1,λva H1 F1 R1 s1 b1 fa H2 hn sm fr hL=>⟨F1,fa,rfl,R1.after sm (Same.refl F1) (R1.sub.trans sm) (λ_ _ e=>.inl e),s1,b1,hL⟩⟩
 ·match vs,r,q1 with
  | [va,vf],r,⟨F1,fa,ev,R1,V4,b1,hL⟩ =>
   subst ev;obtain⟨o,u,pm,ahq,Hq,c',oc,uc,TU,t,k1,k2,k3⟩:=id hL;have FT:=PM (prog:=X.prog) (w:=X.w) (mg:=X.mg) (base:=X.base) D.T D.scT D.line k;refine wpAny_call (mK (Xo (CX:=kB X.prog X.w) (E:=E0) (Q:=Q) (k:=k+1) D.S D.scS hr I1.Tr (args:=⟨us,[]⟩) (us:=us++[]) (D.bS s1 us I1.zj (by rw[gG,<-r.length];rfl)) (by rw[gG];exact r) rfl (λdI =>
    AM D.scS FT (hr.deeper _) D.mT D.T.kp D.bT D.len k1 k2
     (UK (x:=x) (N:=N) (τ:=inner link σ) (k:=k) rfl hL (PX I1 S) (PU R1 link) (hr.deeper _) Ia S.kind S.co S.gen S.par S.cell (λdI s H PY fQ hr'=>hbody _ _ _ _ _ _ _ _ _ _ hr'))
     (λf fk' ho=>(wb ho).2) R1.sub b1 h2 h3 h4 (λl ws F' H' g1 g2 g3 g4 g5 g6 g7 g8=>?_))) λr s' NR=>?_)
   ·have e1:upd (PN H' l) l (.ao ws)=H':=by
     funext b
     by_cases z:b=l
     ·subst z;rw[aI,g7]
     ·rw[upd_ne z,jf z]
    rw[<-e1];refine hq l ws _ F' (R1.after (λb ob e=>?_) g2 (λb ob e=>?_) g4) (V4.trans g2) g8 xW
    ·rw[jf (ne_of_none e g5)];exact g1 _ _ e
    ·rw[jf (ne_of_none e g6)];exact g3 _ _ e
   ·cases r with
    | error e=>exact qE ag σ H1 s1 e s' I1 NR
    | ok fl =>
     cases fl with
     | ret u=>exact I1.after NR
     | next=>exact False.elim NR
     | brk=>exact False.elim NR
     | cont=>exact False.elim NR
end
end L2.PL
namespace L2
open PySem PySem.Spec PyProof.Rows
section
variable {X:Cx}
theorem Lv{pos:Pos}:PE X (.Dict [] [] pos) (Fl (.dK [])):=λag s σ H Q I h =>
 wpAny_Dict_empty ⟨.ref s.heap.objs.size,_,I.laid (a:=s.heap.objs.size) (o:=.dK []) (t':=s.toks) (λ_ _ q=>cD _ q) (bc _)
  ⟨gr _,rO.mpr (eE (cX (Ai I))),[],.nil,Heap.DictOf.new s.heap⟩,rfl,h _ (I.hok.fresh (bc _))⟩
theorem UL{v:V}{o:mP}(h:He (some v) o):∃u,o=some u/\RelV v u:=by
 cases o with
 | none=>exact h.elim
 | some u=>exact⟨u,rfl,h⟩
def adz:R2:=λx y H Q=>∃a kvs k v,x=.ref a/\y=kV k/\Rd H a (.dK kvs)/\l9 kvs k=some v/\Q v H
theorem Yo:RD X adz:=by
 intro value slice ag s σ H x y v u Q I rx ry h hs;obtain⟨a,kvs,k,z,rfl,rfl,hr,hv,q⟩:=h;cases rx;obtain⟨_,hd,vs,Wa,dd⟩:=RG I.hok hr;obtain⟨w',hw,Tw⟩:=UL (o:=valueAt vs k) (by rw[<-hv];exact Wa.val k)
 exact tail_any dd.typeIs PySem.F.slot_dict_getitem.lookup (wpAny_getItem_of (Kx ry) dd.mapOf hw ⟨z,H,I.tok _,Tw,q⟩) hs
def Yp:V->List V->Hp->VK->Prop:=λx vs H Q=>∃a kvs k y,x=.ref a/\vs=[kV k,y]/\H a=some (.dK kvs)/\kvs.length<sizeLine/\(∀v,l9 kvs k=some v->Q v H)/\(l9 kvs k=none->Q y (upd H a (.dK (kvs++[(k,y)]))))
theorem UM:MtR X "dict.setdefault" Yp:=by
 intro ag s σ H x xs v us Q I rx rv h;obtain⟨a,kvs,k,y,rfl,rfl,e,hl,h1,h2⟩:=h;cases rx;obtain⟨u1,u2,rfl,r1,r2⟩:=rv.two;obtain⟨z,hd,vs,Wa,dd⟩:=Xi I.hok e;refine call_meetsIn Jz dd.typeIs PySem.F.entry_dict_setdefault (PySem.F.args_dict_setdefault_3 _ _ _) (kt_meets_setdefault (gf X.prog X.w) a (Kx r1) hd u2) ⟨vs,dd,by rw[<-Wa.length];exact z,λw hw=>?_,λhn h' dd' hs=>?_⟩
 ·have rk:=Wa.val k;rw[hw]at rk;cases hv:l9 kvs k with
  | none=>rw[hv]at rk;exact rk.elim
  | some v0=>rw[hv]at rk;exact⟨v0,H,I.tok _,rk,h1 v0 hv⟩
 ·have rk:=Wa.val k;rw[hn]at rk;have hv:l9 kvs k=none:=by
   cases hv:l9 kvs k with
   | none=>rfl
   | some v0=>rw[hv]at rk;exact rk.elim
  have Yq:=Wa.put k r2;rw[Kw y hv]at Yq;have he:∃q,h'.get? a=some q:=let ⟨q,_,_,hq,_⟩:=dd';⟨q,hq⟩
  exact⟨y,_,I.write (x:=a) (e:=a) (o:=.dK (kvs++[(k,y)])) (by rw[e];exact True.intro) (.inl rfl) (λc q' hc z=>(hs.2 c hc).trans z) he ⟨by rw[bF];exact hl,hd,_,Yq,dd'⟩,r2,h2 hv⟩
def FV:V->List V->Hp->VK->Prop:=λx vs H Q=>∃(l:ae) (xs:List V) (i:Int) (y:V),x=.ref l/\vs=[.int i,y]/\H l=some (.ao xs)/\xs.length<sizeLine/\0<=i/\i<=1000000/\Q .cE (upd H l (.ao (xs.take i.toNat++y::xs.drop i.toNat)))
theorem UN{i:Int}(h0:0<=i)(hi:i<=1000000):¬(!Builtin.List.listFitsIndex i)=true:=by
 unfold Builtin.List.listFitsIndex;have h1:decide (-(2^63:Int)<=i)=true:=gp (Int.le_trans (by decide) h0)
 have h2:decide (i<2^63)=true:=gp (Int.lt_of_le_of_lt hi (by decide))
 rw[h1,h2];simp
def UO(i:Int)(u:aq):Array aq->Array aq:=λxs=>have k:=if i<0 then(i+((xs.size:Nat):Int)).toNat else min i.toNat xs.size;(xs.extract 0 k).push u++xs.extract k
theorem PZ{i:Int}(h0:0<=i)(aX:cg)(u:aq):UO i u aX.toArray=(aX.take i.toNat++u::aX.drop i.toNat).toArray:=by
 unfold UO;have h1:¬i<0:=by lia
 simp only[h1,pA,bI];apply Array.ext';simp only[Array.toList_append,Array.toList_push,Array.toList_extract,List.extract_eq_drop_take];by_cases hb:i.toNat<=aX.length
 ·rw[CZ hb];have h2:List.take (aX.length-i.toNat) (List.drop i.toNat aX)=List.drop i.toNat aX:=oT (by rw[rX];exact bc _)
  simp[h2]
 ·rw[CL (by lia)]
  have h1:aX.take i.toNat=aX:=oT (by lia)
  have h2:aX.drop i.toNat=[]:=List.drop_of_length_le (by lia)
  simp[h1,h2]
theorem Ib:Xb X "list.insert" FV:=by
 intro ag s σ H x vs v us Q I rx rv h;obtain⟨l,xs,i,y,rfl,rfl,hH,hz,h0,hi,q⟩:=h;cases rx;obtain⟨u1,u2,rfl,⟨t,rfl⟩,r2⟩:=rv.two;obtain⟨z,aX,n,r,hl,e⟩:=I.Ow hH;have hsz:aX.toArray.size<=sizeLine:=by rw[bI];lia
 have Js:=r.length;have J:=I.Ov (t':=s.toks) (f:=UO i u2) (its':=aX.take i.toNat++u2::aX.drop i.toNat) hH e (PZ h0 aX u2) ((r.take i.toNat).append (.cons r2 (r.drop i.toNat))) (by rw[bF,bt,o8,rX];lia)
 exact pz F.slot_list_insert ⟨_,e,rfl⟩ F.entry_list_insert (F.args_list_insert_3 _ _ _) (@PySem.AutoListH.list_insert_list_int_val_1 l aX.toArray n i t u2 (UN h0 hi) hsz) ⟨e,.cE,_,J,rfl,q⟩
end
end L2
namespace L2.PL
open PySem PySem.Spec PyProof.Rows
def P5:ay->Option ay:=λps=>some ps.reverse
theorem P6{K:aj}:RT K Af P5:=by
 intro H₀ ab F ρ σ H a ps qs vs Q hg R ha b1 k;cases hg;exact⟨a,vs,rfl,rfl,ha,k _ b1.reverse⟩
def xZ:ay->ay->Option ay:=λps as=>match as with
 | [.int i,p]=>if(0<=i/\i<=1000000/\ps.length<gH)then some (ps.take i.toNat++p::ps.drop i.toNat)else none
 | _=>none
theorem P7{K:aj}:OU K FV xZ:=by
 intro H₀ ab F ρ σ H a ps as qs vs ws Q hg R ha b1 b2 k;unfold xZ at hg;split at hg
 ·rename_i i p;obtain⟨⟨h1,h2,h3⟩,rfl⟩:=aK hg;obtain⟨w1,r1,rfl,bw1,br1⟩:=b2.cb;obtain⟨w2,r2,rfl,bw2,br2⟩:=br1.cb;rw[br2.b9];rw[aM.mp bw1];exact⟨a,vs,i,w2,rfl,rfl,ha,cU (by rw[<-b1.length];exact h3) (fj (bc _)),h1,h2,k _ ((b1.take _).append (.cons bw2 (b1.drop _)))⟩
 ·cases hg
def FW:Ent->Bool
 | .cn _=>false
 | _=>true
noncomputable def FX:Dk->Bool
 | .l _=>true
 | _=>false
def fu(b:Bool):Ent->Bool
 | .cn m=>FX m != b
 | _=>true
theorem P8{b:Bool}{ρ:aG}(h:ρ.all FW=true):ρ.all (fu b)=true:=eU.mpr λe he=>by
 have:=eU.mp h e he;cases e with
 | cn m=>cases this
 | _=>rfl
noncomputable def dW(kvs:List (cf×PV))(k:cf):bU:=(kvs.find? λkv=>decide (kv.1=k)).map (·.2)
section
variable {K:aj} {H₀ ab F H:Hp} {ρ:aG} {σ:St}
theorem ya{kvs:List (cf×PV)}{vs:List (cf×V)}(h:Ak K F kvs vs)(k:cf):(∀p,dW kvs k=some p->∃v,l9 vs k=some v/\dh K F p v)/\(dW kvs k=none->l9 vs k=none):=by
 unfold Ak at h;induction h with
 | nil=>exact⟨(λp e=>by cases e),λ_=>rfl⟩
 | @cons p q ps qs hq t ih =>
  obtain⟨h1,h2⟩:=hq;by_cases e:p.1=k
  ·have l1:dW (p::ps) k=some p.2:=by simp[dW,o9,e]
   rw[l1,tf (h1.symm.trans e)];exact⟨(λx z=>by cases z;exact⟨_,rfl,h2⟩),(λz=>by cases z)⟩
  ·have l1:dW (p::ps) k=dW ps k:=by simp[dW,o9,e]
   rw[l1,tj (λz=>e (h1.trans z))]
   exact ih
theorem cY.DP(R:cY K H₀ ab F ρ σ H){i:Nat}(hi:i<ρ.length){a:ae}{m:Dk}(hm:jx K F H (Nw H₀ F) a m)(h0:H₀ a=none)(hF:F a=none):cY K H₀ ab F (ρ.set i (.cn m)) (σ.set i (some (.ref a))) H where
 sub:=R.sub
 keep:=R.keep
 base:=R.base
 fresh:=R.fresh
 val:=λj q e=>by
  by_cases h:i=j
  ·subst h;rw[b7 hi]at e;cases e
  ·rw[bE h]at e ⊢;exact R.val j q e
 own:=λj q e=>by
  by_cases h:i=j
  ·subst h;rw[b7 hi]at e;cases e
  ·rw[bE h]at e ⊢;exact R.own j q e
 apart:=λj k ps qs a h1 h2 h3 h4=>by
  by_cases hj:i=j
  ·subst hj;rw[b7 hi]at h1;cases h1
  ·by_cases hk:i=k
   ·subst hk;rw[b7 hi]at h2;cases h2
   ·rw[bE hj]at h1 h3;rw[bE hk]at h2 h4;exact R.apart j k ps qs a h1 h2 h3 h4
 obs:=λj q e=>by
  by_cases h:i=j
  ·subst h;rw[b7 hi]at e;cases e
  ·rw[bE h]at e ⊢;exact R.obs j q e
 cn:=λj q e=>by
  by_cases h:i=j
  ·subst h;rw[b7 hi]at e;cases e;exact⟨a,b7 (by rw[<-R.len];exact hi),hm,h0,hF⟩
  ·rw[bE h]at e ⊢;exact R.cn j q e
 len:=by rw[iq,iq];exact R.len
theorem cY.putD(R:cY K H₀ ab F ρ σ H){i:Nat}{a:ae}{m m':Dk}{H':Hp}(hi:ρ[i]?=some (.cn m))(ha:σ[i]?=some (some (.ref a)))(sub:Same F H')(keep:Same H₀ H')(oth:∀b o,H b=some o->tu m o=false->H' b=some o)
  (hm:jx K F H' (Nw H₀ F) a m') (ho:(ρ.set i .un).all (fu (FX m))=true):cY K H₀ ab F (ρ.set i (.cn m')) σ H':=by
 have fg:i<ρ.length:=(dF.mp hi).1;obtain⟨a',e1,e2,h3,h4⟩:=R.cn i m hi;rw[ha]at e1;cases e1;exact {
  sub:=sub
  keep:=keep
  base:=R.base
  fresh:=R.fresh
  val:=λj q e=>by
   by_cases h:i=j
   ·subst h;rw[b7 fg]at e;cases e
   ·rw[bE h]at e;exact R.val j q e
  own:=λj ls e=>by
   by_cases h:i=j
   ·subst h;rw[b7 fg]at e;cases e
   ·rw[bE h]at e;obtain⟨b,us,q1,q2,q3⟩:=R.own j ls e;exact⟨b,us,q1,oth b _ q2 (by cases m<;>rfl),q3⟩
  apart:=λj k l1 l2 b e1 e2 e3 e4=>by
   by_cases hj:i=j
   ·subst hj;rw[b7 fg]at e1;cases e1
   ·by_cases hk:i=k
    ·subst hk;rw[b7 fg]at e2;cases e2
    ·rw[bE hj]at e1;rw[bE hk]at e2;exact R.apart j k l1 l2 b e1 e2 e3 e4
  obs:=λj q e=>by
   by_cases h:i=j
   ·subst h;rw[b7 fg]at e;cases e
   ·rw[bE h]at e;exact R.obs j q e
  cn:=λj q e=>by
   by_cases h:i=j
   ·subst h;rw[b7 fg]at e;cases e;exact⟨a,ha,hm,h3,h4⟩
   ·rw[bE h]at e;have hk:=eU.mp ho (.cn q) (cS (i:=j) (by rw[bE h];exact e))
    obtain⟨b,q1,q2,q3,q4⟩:=R.cn j q e;refine⟨b,q1,q2.to (Same.refl F) (λc o z d _=>oth c o z ?_) (λ_ _ _ z=>z),q3,q4⟩
    cases m<;>cases q<;>cases o<;>first | rfl | (cases d;done) | (cases hk;done)
  len:=by rw[iq];exact R.len}
theorem cY.Lw(R:cY K H₀ ab F ρ σ H){i:Nat}{a:ae}{m m':Dk}{o:HO}(hi:ρ[i]?=some (.cn m))(ha:σ[i]?=some (some (.ref a)))(hd:FX m=false)(hm:jx K F (upd H a o) (Nw H₀ F) a m')(ho:(ρ.set i .un).all (fu (FX m))=true):cY K H₀ ab F (ρ.set i (.cn m')) σ (upd H a o):=by
 obtain⟨a',e1,e2,h3,h4⟩:=R.cn i m hi;rw[ha]at e1;cases e1;have sub:∀{G:Hp},G a=none->Same G H->Same G (upd H a o):=λ{G} hg s b ob e=>by
  rw[upd_ne (ne_of_none e hg)];exact s _ _ e
 refine R.putD hi ha (sub h4 R.sub) (sub h3 R.keep) (λb ob e d=>?_) hm ho
 rw[upd_ne]
 ·exact e
 ·rintro rfl
  cases m with
  | t kvs=>obtain⟨xs,q,_⟩:=e2;rw[e]at q;cases q;cases d
  | k kvs=>obtain⟨xs,q,_⟩:=e2;rw[e]at q;cases q;cases d
  | l eI=>cases hd
end
section
variable {X:Cx} {H₀ ab:Hp} {ke a b:au} {fk fa fb:FE} {x:Str} {p pos sp:Pos} {i:Nat}
def UP(i:Nat):FS:=λρ=>if i<ρ.length then some (.nx (ρ.set i (.cn (.k []))))else none
theorem Lx{D:kO}{σ:St}{H:Hp}(h:tS X H₀ ab (UP i) D σ H):nN (Fl (.dK [])) (gName i) D σ H:=by
 obtain⟨F,ρ,o,R,hf,q⟩:=h;obtain⟨hi,rfl⟩:=aK hf;intro d hd;exact q F _ _ ((R.Fo (.dK []) hd).DP hi ⟨[],aI,.nil⟩ (R.keep.free hd) (R.sub.free hd)) (Same.refl F)
def getD(i:Nat)(fk:FE):FE:=λρ=>(fk ρ).bind λq=>match ρ[i]? with
 | some (.ob (.dct (.k kvs)))=>(HY q).bind λk=>dW kvs k
 | _=>none
theorem UQ(hx:PE X (.Name x p) (jY i))(hk:PE X ke (tE X.K H₀ ab fk))(hs:lM ke):PE X (.Subscript (.Name x p) ke sp) (tE X.K H₀ ab (getD i fk)):=by
 rintro ag s σ H Q I ⟨F,ρ,pr,R,hf,q⟩;obtain⟨qk,h1,h2⟩:=ax hf;split at h2
 ·rename_i kvs hp;obtain⟨k,h3,h4⟩:=ax h2;obtain⟨a,e1,vs,e2,e3⟩:=R.obs i _ hp;refine Ab Yo hx hk hs ag s σ H Q I ⟨.ref a,e1,F,ρ,qk,R,h1,λw H1 F1 R1 s1 b1=>?_⟩
  obtain⟨v,g1,g2⟩:=(ya e3 k).1 pr h4;rw[xV h3]at b1;exact⟨a,vs,k,v,rfl,tX.mp b1,.inl (R1.sub _ _ (s1 _ _ e2)),g1,q v H1 F1 R1 s1 (g2.mono s1)⟩
 ·cases h2
def UR(i:Nat)(fk fv:FE):FS:=λρ=>(fk ρ).bind λqk=>(fv ρ).bind λqv=>match ρ[i]? with
 | some (.cn (.k kvs))=>(HY qk).bind λk=>if(kvs.length<gH/\(ρ.set i .un).all FW=true)then(match dW kvs k with
  | some _=>some (.nx ρ)
  | none=>some (.nx (ρ.set i (.cn (.k (kvs++[(k,qv)]))))))else none
 | _=>none
theorem FY{K:aj}{F:Hp}:∀{kvs:List (cf×PV)} {vs:List (cf×V)},Ak K F kvs vs->∀{k:cf} {p:PV} {v:V},dh K F p v->Ak K F (kvs++[(k,p)]) (vs++[(k,v)])
 | _,_,.nil,_,_,_,b=>.cons ⟨rfl,b⟩ .nil
 | _,_,.cons r t,_,_,_,b=>.cons r (FY t b)
theorem P9{D:kO}{σ:St}{H:Hp}(h:tS X H₀ ab (UR i fa fb) D σ H):tDrop (tBM X.K "dict" Yp (jY i) (tA X.K H₀ ab (aa fa (aa fb ai)))) D σ H:=by
 obtain⟨F,ρ,o,R,hf,q⟩:=h;obtain⟨qk,h1,hf⟩:=ax hf;obtain⟨qv,h2,hf⟩:=ax hf;split at hf
 ·rename_i kvs hp;obtain⟨k,h3,hf⟩:=ax hf;obtain⟨⟨h4,h5⟩,hf⟩:=aF hf;obtain⟨a,e1,⟨vs,e2,e3⟩,e4,e5⟩:=R.cn i _ hp;refine⟨.ref a,e1,.inr (.inr (.inl ⟨rfl,.inl ⟨vs,e2⟩⟩)),F,ρ,[qk,qv],R,?_,λws H1 F1 R1 s1 b1=>?_⟩
  ·show(fa ρ).bind _=_;rw[h1];show((aa fb ai) ρ).map _=_;show(((fb ρ).bind λx=>(ai ρ).map λxs=>x::xs).map _)=_
   rw[h2];rfl
  ·obtain⟨w1,r1,rfl,bw1,br1⟩:=b1.cb;obtain⟨w2,r2,rfl,bw2,br2⟩:=br1.cb;rw[br2.b9];rw[xV h3]at bw1;rw[tX.mp bw1];obtain⟨a',g1,⟨vs1,g2,g3⟩,g4,g5⟩:=R1.cn i _ hp;rw[e1]at g1;cases g1;have hl:vs1.length<sizeLine:=by
    rw[<-xc g3];exact cU h4 (fj (bc _))
   refine⟨a,vs1,k,w2,rfl,rfl,g2,hl,λv hv=>?_,λhv=>?_⟩
   ·cases hk:dW kvs k with
    | none=>rw[(ya g3 k).2 hk]at hv;cases hv
    | some pv =>
     rw[hk]at hf;cases hf;exact q F1 σ H1 R1 s1
   ·cases hk:dW kvs k with
    | some pv =>
     obtain⟨v,z,_⟩:=(ya g3 k).1 pv hk;rw[z]at hv;cases hv
    | none =>
     rw[hk]at hf;cases hf;exact q F1 σ _ (R1.Lw hp e1 rfl ⟨_,aI,FY g3 bw2⟩ (P8 h5)) s1
 ·cases hf
end
section
variable {K:aj} {H₀ ab F F' H H':Hp} {ρ:aG} {σ c9:St} {a:ae} {bs:List ae} {acc:List (List Int)}
theorem Qa{i:Nat}{p:PV}{v:V}(hs:Same F H)(h:σ[i]?=some (some v))(b:dh K F p v):cY K H F F ((List.replicate σ.length Ent.un).set i (.val p)) σ H:=by
 have no:∀(j:Nat) (e:Ent),((List.replicate σ.length Ent.un).set i (.val p))[j]?=some e->e=.un\/j=i/\e=.val p:=λj e q=>by
  by_cases z:i=j
  ·subst z;rw[b7 (by rw[jn];exact(dF.mp h).1)]at q
   exact .inr ⟨rfl,(bM q).symm⟩
  ·rw[bE z,jm]at q;split at q
   ·exact .inl (bM q).symm
   ·cases q
 refine ou hs (λe he=>?_) (λj q e=>?_) (λj q e=>?_) (by rw[iq,jn])
 ·obtain⟨j,hj⟩:=rN he;rcases no j e hj with rfl | ⟨_,rfl⟩<;>exact⟨(λ_ z=>by cases z),λ_ z=>by cases z⟩
 ·rcases no j _ e with z | ⟨rfl,z⟩
  ·cases z
  ·cases z;exact⟨v,h,b⟩
 ·rcases no j _ e with z | ⟨_,z⟩<;>cases z
def Qb(K:aj)(fi:bP):TI:=λσ H R=>∃b:Hp×Hp,tI K b.1 b.2 fi σ H R
theorem US{X:Cx}{tg iter:au}{fi:bP}(h:∀H₀ ab,PI X tg iter (tI X.K H₀ ab fi)):PI X tg iter (Qb X.K fi):=λag s σ H R I ⟨b,hw⟩=>h b.1 b.2 ag s σ H R I hw
end
section
variable {X:Cx} {H₀ ab:Hp} {i f x y o:Nat}
def UT(K:aj)(g:fz)(fl:bP):TB:=λv σ H Q=>∃b:Hp×Hp,tG K b.1 b.2 g v σ H λjI H1=>tF K b.1 b.2 fl jI H1 λy H2=>Q (some y) jI H2
theorem AO{link:List (Option Nat)}{ρ:aG}{e:Ent}(h:e∈bA link ρ):(∀ps,e≠.own ps)/\∀m,e≠.cn m:=by
 obtain⟨j,hj⟩:=rN h;rcases dz hj with rfl | ⟨_,_,_,_,rfl⟩ | ⟨_,_,_,_,rfl⟩<;>exact⟨(λ_ z=>by cases z),λ_ z=>by cases z⟩
theorem cY.now{K:aj}{H₀ ab F H:Hp}{ρ:aG}{σ:St}(R:cY K H₀ ab F ρ σ H)(hn:∀e∈ρ,(∀ps,e≠.own ps)/\∀m,e≠.cn m):cY K H F F ρ σ H:=ou R.sub hn R.val R.obs R.len
theorem Ly{link:List (Option Nat)}{g:fz}{fl:bP}{L:List Nat}{F H:Hp}{ρ:aG}{σ:St}{ps qs:ay}{Q:VK}(hg:KG L g)(hL:∀i∈L,link[i]?=some none)(V8:∀ρ,fl ρ=some [])(R:cY X.K H₀ ab F ρ σ H)(hf:ρ[f]?=some (.val (.ao ps)))
  (hc:dB link (cF (rd f)) g (λ_=>some .cE) ρ=some qs) (Tu:∀e∈ρ,(∀ps,e≠.own ps)/\∀m,e≠.cn m) (q:∀(F' H':Hp) (a:ae) (bs:List ae),bs.length=ps.length->Same F F'->Same F' H'->Same H H'->(∀b u,F' b=some u->F b=some u\/H b=none)->H' a=none->bs.Nodup->(∀b∈bs,H' b=some (.ao [])/\H b=none/\F' b=none)->Q (.ref a) (upd H' a (.ao (bs.map .ref)))) :
  qG link (Qb X.K (cF (rd f))) (UT X.K g fl) σ H Q:=by
 have hsq:cF (rd f) ρ=some ps:=by
  unfold cF rd;rw[hf];rfl
 unfold dB at hc;rw[hsq,aQ]at hc;obtain⟨dD,hm⟩:=aF hc;have Yr:∀(k:Nat) (p:PV),ps[k]?=some p->∃eM,g p (bA link ρ)=some eM:=λk p hk=>by
  clear dD hsq hf q hc;induction ps generalizing k qs with
  | nil=>cases hk
  | cons p0 r ih =>
   obtain⟨o1,e1,e2⟩:=ax (show((g p0 (bA link ρ)).bind λ_=>some PV.cE).bind (λy=>(iI (λp=>(g p (bA link ρ)).bind λ_=>some PV.cE) r).map λys=>y::ys)=some qs from by rw[<-hm];rfl)
   cases k with
   | zero=>cases hk;obtain⟨eM,e3,_⟩:=ax e1;exact⟨eM,e3⟩
   | succ k =>
    cases w:iI (λp=>(g p (bA link ρ)).bind λ_=>some PV.cE) r with
    | none=>rw[w]at e2;cases e2
    | some ys=>exact ih w k hk
 refine⟨(H,F),F,ρ,ps,R.now Tu,hsq,λJ H1 F1 R1 s1 wk=>?_⟩
 refine⟨λk m acc c9 H'=>m=ps.length-k/\k<=ps.length/\∃F' bs,acc=bs.map .ref/\bs.length=k/\bs.Nodup/\cY X.K H' F' F' (bA link ρ) c9 H'/\Same F1 F'/\Same H1 H'/\(∀b u,F' b=some u->F1 b=some u\/H1 b=none)/\∀b∈bs,H' b=some (.ao [])/\H1 b=none/\F' b=none,
  ⟨ps.length,rfl,gr _,F1,[],rfl,rfl,.nil,(R1.inner link).now λe he=>AO he,Same.refl _,Same.refl _,(λ_ _ e=>.inl e),λb hb=>by cases hb⟩,?_⟩
 rintro k m acc c9 H' ⟨rfl,hk,F',bs,rfl,Dw,Qc,R',sF,sH,fr,hb⟩
 obtain⟨wg,XJ⟩:=wk H' F' F' (bA link ρ) c9 H' R' sF k;by_cases fg:k<ps.length
 ·obtain⟨go,wy⟩:=wg ps[k] (dG fg);have hsz:k<sizeLine:=cU fg (fj dD);refine .inr ⟨go,by rw[aB,Dw];exact hsz,λu H2 yl=>?_⟩
  obtain⟨F2,R2,s2,b2⟩:=wy u H2 yl;obtain⟨eM,e1⟩:=Yr k _ (dG fg);obtain⟨l1,k1⟩:=hg _ _ _ e1;refine⟨(H',F'),F2,bA link ρ,ps[k],eM,R2,b2,e1,λrh H3 F3 R3 s3=>⟨F3,eM,[],R3,V8 _,λa vs H4 F4 R4 s4 b4 hn=>⟨ps.length-(k+1),by lia,rfl,fg,F4,bs++[a],?_,by rw[bF,Dw];rfl,?_,?_,sF.trans R4.base,sH.trans (R4.keep.trans (eK hn)),?_,?_⟩⟩⟩
  ·rw[cM];rfl
  ·refine CI.mpr ⟨Qc,eA.mpr ⟨by simp,.nil⟩,λx hx z hz=>?_⟩
   rw[cu]at hz;subst hz;exact ne_of_none (R4.keep _ _ (hb x hx).1) hn
  ·rw[b4.b9];exact((R4.cL l1 k1 hL).Fo (.ao []) hn).now λe he=>AO he
  ·intro b u e;rcases R4.fresh b u e with z | z
   ·exact fr b u z
   ·exact .inr (sH.free z)
  ·intro b hbm;rcases cW.mp hbm with z | z
   ·obtain⟨h1,h2,h3⟩:=hb b z;refine⟨eK hn _ _ (R4.keep _ _ h1),h2,?_⟩;cases w:F4 b with
    | none=>rfl
    | some u =>
     rcases R4.fresh b u w with z | z
     ·have z:F' b=some u:=z;rw[h3]at z;cases z
     ·have z:H' b=none:=z;rw[h1]at z;cases z
   ·rw[cu]at z;subst z;refine⟨by rw[b4.b9];exact aI,sH.free (R4.keep.free hn),R4.sub.free hn⟩
 ·have e:k=ps.length:=by lia
  subst e;refine .inl ⟨XJ (mG (bc _)),by rw[aB,Dw];exact fj dD,λD hn=>?_⟩
  refine q F' H' D bs Dw (s1.trans sF) R'.sub (R1.keep.trans sH) (λb u e=>?_) hn Qc λb hbm=>?_
  ·rcases fr b u e with z | z
   ·exact R1.fresh b u z
   ·exact .inr (R1.keep.free z)
  ·obtain⟨h1,h2,h3⟩:=hb b hbm;exact⟨h1,R1.keep.free h2,h3⟩
end
section
variable {X:Cx} {ag:List (ae×Obj)} {σ:St} {H:Hp} {s:az} {b:ae} {vs:List V}
theorem UU{P:bK}{w:aW}{h:Heap}(x:ee P w H h b (.ao vs))(H':Hp):ee P w H' h b (qD b vs):=by
 obtain⟨z,aX,n,r,e⟩:=x;exact⟨⟨z,aX,n,r,e⟩,⟨_,e⟩,λh1 h2 ⟨z,aX,n,r,e⟩ k=>⟨z,aX,n,r,k _ e⟩⟩
theorem UW{P:bK}{w:aW}{h:Heap}(x:ee P w H h b (qD b vs))(H':Hp):ee P w H' h b (.ao vs):=x.1
theorem Inv.toLs(I:Inv X ag σ H s)(h:H b=some (.ao vs)):Inv X ag σ (upd H b (qD b vs)) s:=by
 have ok:=I.hok b _ h;obtain⟨_,_,_,_,e⟩:=id ok;exact I.write (t':=s.toks) (h':=s.heap) (e:=b) (by rw[h];trivial) (.inl rfl) (λ_ _ _ e=>e) ⟨_,e⟩ (UU ok _)
theorem Inv.Lz(I:Inv X ag σ H s)(h:H b=some (qD b vs)):Inv X ag σ (upd H b (.ao vs)) s:=by
 have ok:=I.hok b _ h;obtain⟨_,⟨_,e⟩,_⟩:=id ok;exact I.write (t':=s.toks) (h':=s.heap) (e:=b) (by rw[h];trivial) (.inl rfl) (λ_ _ _ e=>e) ⟨_,e⟩ (UW ok _)
theorem UX{o:HO}(h:H b=some o):upd H b o=H:=by
 funext c
 unfold upd;split
 ·rename_i e;rw[e,h]
 ·rfl
def Sf:R2:=λx y H Q=>∃p xs i v,x=.ref p/\y=.int i/\H p=some (qD p xs)/\atI xs i=some v/\Q v H
theorem Ys:RD X Sf:=by
 intro value slice ag s σ H x y v u Q I rx ry h hs;obtain⟨p,xs,i,z,rfl,rfl,hq,he,q⟩:=h;refine thn (xA value slice ag s σ (upd H p (.ao xs)) _ _ v u (λz' H'=>z'=z/\H'=upd H p (.ao xs)) (Inv.Lz I hq) rx ry ⟨p,xs,i,z,rfl,rfl,l8.of aI,he,rfl,rfl⟩ hs) λv' s' ⟨z',H',I',r',e1,e2⟩=>?_
 subst e1 e2;have I2:=Inv.toLs I' aI;rw[xl,UX hq]at I2;exact⟨z',H,I2,r',q⟩
def LB:V->List V->Hp->VK->Prop:=λx vs H Q=>∃l xs y,x=.ref l/\vs=[y]/\H l=some (qD l xs)/\xs.length<sizeLine/\Q .cE (upd H l (qD l (xs++[y])))
theorem LC:Xb X "list.append" LB:=by
 intro ag s σ H x vs v us Q I rx rv h;obtain⟨l,xs,y,rfl,rfl,hH,hz,q⟩:=h;refine thn (pI ag s σ (upd H l (.ao xs)) _ _ v us (λz' H'=>z'=.cE/\H'=upd H l (.ao (xs++[y]))) (Inv.Lz I hH) rx rv ⟨l,xs,y,rfl,rfl,aI,hz,rfl,by rw[xl]⟩) λv' s' ⟨z',H',I',r',e1,e2⟩=>?_
 subst e1 e2;have I2:=Inv.toLs I' aI;rw[xl]at I2;exact⟨_,_,I2,r',q⟩
end
section
variable {X:Cx} {o e:au} {to:TE} {t:TA} {xj kW:Pos}
def LD(to:TE)(t:TA):TE:=λσ H Q=>to σ H λx H1=>(∃p xs,x=.ref p/\H1 p=some (qD p xs))/\t σ H1 λxs H2=>LB x xs H2 Q
theorem LF(ho:PE X o to)(ha:PA X [e] t)
  (Ac:attributeBase o "append" X.env (eval o X.env)=eval o X.env)
  (Ou:((backTo kW (starEach [e] X.env)).all (λx=>!x.1)&&(backToKw kW (keywordEach [] X.env)).all (λx=>x.1.isSome)
   && decide ([e].length+([]:List Keyword).length+(if([]:List Keyword).isEmpty then 0 else 1)<30))=true)
  (Ad:(xj.endLine==kW.line)=true) (hs:starEach [e] X.env=(false,eval e X.env)::starEach [] X.env) (Dp:(backTo kW (starEach [] X.env)).any (·.1)=false) :
  PE X (.Call (.Attribute o "append" xj) [e] [] kW) (LD to t):=by
 intro ag s σ H Q I h;refine wpAny_Call_method_late Ac Ou Ad rfl (thn (ho ag s σ H _ I h) λv s1 ⟨x,H1,I1,r1,⟨p,xs,ex,hp⟩,q1⟩=>?_)
 subst ex;obtain⟨h1,h2⟩:=Dn (Inv.Lz I1 hp) r1 (T:="list") (.inl ⟨rfl,xs,l8.of aI⟩);refine⟨"list","list.append",oS,Cj,Cg,h1,h2,?_⟩;have hA:=ha kW ag s1 σ H1 _ I1 q1;rw[hs]at hA ⊢;refine Cr (by show(false || (backTo kW (starEach [] X.env)).any (·.1))=false;rw[Dp]<;>rfl) (Calls.evalArgs_plain ?_)
 exact thn hA λus s2 ⟨vs,H2,I2,r2,q2⟩=>LC ag s2 σ H2 _ vs v us Q I2 r1 r2 q2
end
section
variable {X:Cx} {H₀ ab:Hp} {i f:Nat}
def my(H:Hp):List ae->Hp
 | []=>H
 | b::r=>upd (my H r) b (qD b [])
theorem lV{H:Hp}{c:ae}:∀{bs:List ae},c∉bs->my H bs c=H c
 | [],_=>rfl
 | b::r,h=>by
  rw[my,upd_ne (λz=>h (by rw[z];exact bo))]
  exact lV λz=>h (bz _ z)
theorem we{H:Hp}{c:ae}:∀{bs:List ae},c∈bs->my H bs c=some (qD c [])
 | [],h=>nomatch h
 | b::r,h=>by
  rw[my];by_cases z:c=b
  ·subst z;exact aI
  ·rw[upd_ne z];exact we ((aZ.mp h).resolve_left z)
theorem wj{ag:List (ae×Obj)}{σ:St}{s:az}{H:Hp}:∀{bs:List ae},bs.Nodup->(∀b∈bs,H b=some (.ao []))->Inv X ag σ H s->Inv X ag σ (my H bs) s
 | [],_,_,I=>I
 | b::r,hn,h,I=>by
  rw[eA]at hn;exact Inv.toLs (wj hn.2 (λc hc=>h c (bz _ hc)) I) (by rw[lV hn.1];exact h b bo)
theorem Qd{st:aE}{t t':TS}(h:PS X st t)(hi:∀D σ H,t' D σ H->t {D with nx:=λjI H1=>∃H2,(∀ag s,Inv X ag jI H1 s->Inv X ag jI H2 s)/\D.nx jI H2} σ H):PS X st t':=by
 intro ag s σ H D I hw;refine thn (h ag s σ H _ I (hi D σ H hw)) λfl s1 q=>?_
 cases fl with
 | next =>
  obtain⟨jI,H1,I1,H2,v,q⟩:=q;exact⟨jI,H2,v _ _ I1,q⟩
 | _=>exact q
theorem LG{st:aE}{t t':TS}(h:PS X st t)(hi:∀D σ H,t' D σ H->∃H1,(∀ag s,Inv X ag σ H s->Inv X ag σ H1 s)/\t D σ H1):PS X st t':=by
 intro ag s σ H D I hw;obtain⟨H1,v,q⟩:=hi D σ H hw;exact h ag s σ H1 D (v _ _ I) q
def yb(link:List (Option Nat))(g:fz)(i f:Nat):FS:=λρ=>match ρ[f]? with
 | some (.val (.ao ps))=>if((dB link (cF (rd f)) g (λ_=>some .cE) ((List.replicate ρ.length Ent.un).set f (.val (.ao ps)))).isSome&&decide (i<ρ.length))=true then some (.nx (ρ.set i (.cn (.l (List.replicate ps.length [])))))else none
 | _=>none
theorem LH{K:aj}{F H:Hp}{N:ae->Prop}:∀{bs:List ae},(∀b∈bs,N b/\H b=some (qD b []))->iX K F H N (List.replicate bs.length []) bs
 | [],_=>.nil
 | b::r,h=>.cons ⟨(h b bo).1,[],(h b bo).2,.nil⟩ (LH λc hc=>h c (bz _ hc))
theorem UY{st:aE}{link:List (Option Nat)}{g:fz}{fl:bP}{L:List Nat}(hg:KG L g)(hL:∀i∈L,link[i]?=some none)(V8:∀ρ,fl ρ=some [])
  (h:PS X st (nN (qG link (Qb X.K (cF (rd f))) (UT X.K g fl)) (gName i))):PS X st (tS X H₀ ab (yb link g i f)):=by
 refine Qd h λD σ H ⟨F,ρ,o,R,hf,q⟩=>?_
 unfold yb at hf;split at hf
 ·rename_i ps hp;obtain⟨hc,rfl⟩:=aK hf;rw[aO,jo]at hc;obtain⟨hcm,hi⟩:=hc;obtain⟨qs,hcm⟩:=Ck.mp hcm;obtain⟨v,v1,v2⟩:=R.val f _ hp;have adD:f<σ.length:=(dF.mp v1).1;rw[R.len]at hcm;have R0:=Qa (K:=X.K) R.sub v1 v2;have Tu:∀e∈(List.replicate σ.length Ent.un).set f (.val (.ao ps)),(∀ps,e≠.own ps)/\∀m,e≠.cn m:=λe he=>by
   rcases List.mem_or_eq_of_mem_set he with z | z
   ·rw[(Cy.mp z).2];exact⟨(λ_ z=>by cases z),λ_ z=>by cases z⟩
   ·subst z;exact⟨(λ_ z=>by cases z),λ_ z=>by cases z⟩
  refine Ly hg hL V8 R0 (b7 (by rw[jn];exact adD)) hcm Tu λF' H' a bs Dw sF sub sH fr hn Qc hb=>?_
  have hab:∀b∈bs,b≠a:=λb j2=>ne_of_none (hb b j2).1 hn
  have ha:a∉bs:=λz=>hab a z rfl
  refine⟨upd (my (upd H' a (.ao (bs.map .ref))) bs) a (qD a (bs.map .ref)),λag s I=>?_,?_⟩
  ·exact Inv.toLs (wj Qc (λb j2=>by rw[upd_ne (hab b j2)];exact(hb b j2).1) I) (by rw[lV ha];exact aI)
  ·have at1:∀c o,H' c=some o->c∉bs->upd (my (upd H' a (.ao (bs.map .ref))) bs) a (qD a (bs.map .ref)) c=some o:=λc o e hc=>by
    rw[upd_ne (ne_of_none e hn),lV hc,upd_ne (ne_of_none e hn)];exact e
   have at2:∀c∈bs,upd (my (upd H' a (.ao (bs.map .ref))) bs) a (qD a (bs.map .ref)) c=some (qD c []):=λc hc=>by
    rw[upd_ne (hab c hc),we hc]
   have R1:cY X.K H₀ ab F' ρ σ (upd (my (upd H' a (.ao (bs.map .ref))) bs) a (qD a (bs.map .ref))):=R.after (λc o e=>at1 c o (sH _ _ e) λhc=>by rw[(hb c hc).2.1]at e;cases e) sF (λc o e=>at1 c o (sub _ _ e) λhc=>by rw[(hb c hc).2.2]at e;cases e) fr
   refine q F' _ _ (R1.DP hi (m:=.l (List.replicate ps.length [])) (a:=a) ⟨bs,aI,eA.mpr ⟨ha,Qc⟩,?_⟩ (R.keep.free (sH.free hn)) (sub.free hn)) sF;rw[<-Dw];exact LH λb j2=>⟨⟨R.keep.free (hb b j2).2.1,(hb b j2).2.2⟩,at2 b j2⟩
 ·cases hf
theorem jx.add{K:aj}{F F' H:Hp}{a:ae}{m:Dk}(h:jx K F H (Nw H₀ F) a m)(e:Same F F')(k:∀b o,H b=some o->tu m o=true->F b=none->F' b=none):jx K F' H (Nw H₀ F') a m:=by
 cases m with
 | t kvs=>obtain⟨xs,h1,h2⟩:=h;exact⟨xs,h1,h2.mono e⟩
 | k kvs=>obtain⟨xs,h1,h2⟩:=h;exact⟨xs,h1,h2.mono e⟩
 | l eI=>obtain⟨bs,h1,h2,h3⟩:=h;exact⟨bs,h1,h2,Paired.J5 h3 λps b ⟨⟨g0,g1⟩,vs,g2,g3⟩=>⟨⟨g0,k _ _ g2 rfl g1⟩,vs,g2,g3.mono e⟩⟩
theorem cY.adE{K:aj}{F H:Hp}{ρ:aG}{σ:St}(R:cY K H₀ ab F ρ σ H){c:ae}{o:HO}(hc:H c=some o)(ho:∀xs,o≠.ao xs)(hd:∀m,tu m o=false)(fr:ab c=some o\/H₀ c=none):∃F',cY K H₀ ab F' ρ σ H/\Same F F'/\F' c=some o/\∀b u,F' b=some u->F b=some u\/∀m,tu m u=false:=by
 have sm:Same F (upd F c o):=λb u e=>by
  by_cases z:b=c
  ·subst z;rw[aI];rw[R.sub _ _ e]at hc;exact hc.symm
  ·rw[upd_ne z];exact e
 refine⟨upd F c o,?_,sm,aI,λb u e=>?_⟩
 case refine_2 =>
  by_cases z:b=c
  ·subst z;rw[aI]at e;cases e;exact .inr hd
  ·rw[upd_ne z]at e;exact .inl e
 exact {
  sub:=λb u e=>by
   by_cases z:b=c
   ·subst z;rw[aI]at e;rw[hc];exact e
   ·rw[upd_ne z]at e;exact R.sub _ _ e
  keep:=R.keep
  base:=R.base.trans sm
  fresh:=λb u e=>by
   by_cases z:b=c
   ·subst z;rw[aI]at e;cases e;exact fr
   ·rw[upd_ne z]at e;exact R.fresh _ _ e
  val:=λi p e=>let ⟨v,h1,h2⟩:=R.val i p e;⟨v,h1,h2.mono sm⟩
  own:=λi ps e=>by
   obtain⟨a,vs,h1,h2,h3,h4,h5⟩:=R.own i ps e;exact⟨a,vs,h1,h2,h3,by rw[upd_ne (J4 h2 hc λz=>ho _ z.symm)];exact h4,h5.mono sm⟩
  apart:=R.apart
  obs:=λi o e=>let ⟨a,h1,h2⟩:=R.obs i o e;⟨a,h1,h2.mono sm⟩
  cn:=λi m e=>by
   obtain⟨a,h1,h2,h3,h4⟩:=R.cn i m e;have key:∀b u,H b=some u->tu m u=true->F b=none->upd F c o b=none:=λb u e1 e2 e3=>by
    rw[upd_ne]
    ·exact e3
    ·rintro rfl
     rw[hc]at e1;cases e1;rw[hd m]at e2;cases e2
   refine⟨a,h1,h2.add sm key,h3,?_⟩;cases m with
   | t kvs=>obtain⟨xs,g,_⟩:=h2;exact key a _ g rfl h4
   | k kvs=>obtain⟨xs,g,_⟩:=h2;exact key a _ g rfl h4
   | l eI=>obtain⟨bs,g,_⟩:=h2;exact key a _ g rfl h4
  len:=R.len}
def FZ:PV->Bool
 | .aC ps=>ps.all k8
 | p=>k8 p
theorem pV{K:aj}{F F':Hp}:∀{ps:ay} {vs:List V},ps.all k8=true->bj K F ps vs->bj K F' ps vs
 | [],_,_,h=>by rw[h.b9];exact .nil
 | p::r,_,hp,h=>by
  rw[fI,aO]at hp;obtain⟨v,w,rfl,h1,h2⟩:=h.cb;exact .cons (iJ hp.1 h1) (pV hp.2 h2)
theorem cY.Yt{K:aj}{F F2 H:Hp}{ρ rl:aG}{σ B6:St}(R:cY K H₀ ab F ρ σ H)(R2:cY K H₀ ab F2 rl B6 H){p:PV}{v:V}(hp:FZ p=true)(hb:dh K F2 p v):∃F',cY K H₀ ab F' ρ σ H/\Same F F'/\dh K F' p v/\∀b u,F' b=some u->F b=some u\/∀m,tu m u=false:=by
 cases p with
 | aC ps =>
  obtain⟨c,vs,rfl,hs,Dw⟩:=bH.mp hb;have add:∀o,F2 c=some o->(∀xs,o≠.ao xs)->(∀m,tu m o=false)->(∀F',F' c=some o->iA K F' c vs)->∃F',cY K H₀ ab F' ρ σ H/\Same F F'/\dh K F' (.aC ps) (.ref c)/\∀b u,F' b=some u->F b=some u\/∀m,tu m u=false:=λo h1 h2 h3 h4=>by
   obtain⟨F',g1,g2,g3,g4⟩:=R.adE (R2.sub _ _ h1) h2 h3 (R2.fresh _ _ h1);exact⟨F',g1,g2,bH.mpr ⟨c,vs,rfl,h4 _ g3,pV hp Dw⟩,g4⟩
  rcases hs with(h | ⟨o,h⟩) | h
  ·exact add _ h (λ_ z=>nomatch z) (λm=>by cases m<;>rfl) λF' e=>.inl (.inl e)
  ·exact add _ h (λ_ z=>nomatch z) (λm=>by cases m<;>rfl) λF' e=>.inl (.inr ⟨o,e⟩)
  ·exact⟨F,R,Same.refl F,bH.mpr ⟨c,vs,rfl,.inr h,pV hp Dw⟩,λ_ _ z=>.inl z⟩
 | ao _=>cases hp
 | cE=>exact⟨F,R,Same.refl F,iJ rfl hb,λ_ _ z=>.inl z⟩
 | bl _=>exact⟨F,R,Same.refl F,iJ rfl hb,λ_ _ z=>.inl z⟩
 | int _=>exact⟨F,R,Same.refl F,iJ rfl hb,λ_ _ z=>.inl z⟩
 | str _=>exact⟨F,R,Same.refl F,iJ rfl hb,λ_ _ z=>.inl z⟩
section
variable {K:aj} {F F' H:Hp} {N N':ae->Prop}
theorem Sg:∀{eI:List ay} {bs:List ae},iX K F H N eI bs->∀{j:Nat} {ps:ay},eI[j]?=some ps->∃b,bs[j]?=some b/\N b/\∃vs,H b=some (qD b vs)/\bj K F ps vs
 | _,_,.nil,_,_,h=>nomatch h
 | _,_,.cons r t,0,_,h=>by cases h;exact⟨_,rfl,r⟩
 | _,_,.cons r t,j+1,_,h=>Sg (show iX K F H N _ _ from t) (j:=j) h
theorem yc{H':Hp}:∀{eI:List ay} {bs:List ae},iX K F H N eI bs->Same F F'->(∀b∈bs,H' b=H b)->(∀b∈bs,N b->N' b)->iX K F' H' N' eI bs
 | _,_,.nil,_,_,_=>.nil
 | _,_,.cons ⟨h1,vs,h2,h3⟩ t,e,k,n=>.cons ⟨n _ bo h1,vs,(k _ bo).trans h2,h3.mono e⟩ (yc (show iX K F H N _ _ from t) e (λb hb=>k b (bz _ hb)) λb hb=>n b (bz _ hb))
theorem LJ{q:PV}{w:V}(hq:dh K F q w):∀{eI:List ay} {bs:List ae},iX K F H N eI bs->bs.Nodup->∀{j:Nat} {ps:ay} {b:ae} {vs:List V},eI[j]?=some ps->bs[j]?=some b->bj K F ps vs->iX K F (upd H b (qD b (vs++[w]))) N (eI.set j (ps++[q])) bs
 | _,_,.nil,_,_,_,_,_,h,_,_=>nomatch h
 | _,_,.cons ⟨h1,us,h2,h3⟩ t,hn,0,_,_,vs,e1,e2,hb=>by
  cases e1;cases e2;rw[eA]at hn;exact .cons ⟨h1,_,aI,hb.append (.cons hq .nil)⟩ (yc (show iX K F H N _ _ from t) (Same.refl F) (λc hc=>upd_ne λz=>hn.1 (by rw[<-z];exact hc)) λ_ _ z=>z)
 | _,_,.cons ⟨h1,us,h2,h3⟩ t,hn,j+1,_,b,vs,e1,e2,hb=>by
  rw[eA]at hn;exact .cons ⟨h1,us,by rw[upd_ne λz=>hn.1 (by rw[z];exact cS (show _=some b from e2))];exact h2,h3⟩ (LJ hq (show iX K F H N _ _ from t) hn.2 (j:=j) e1 e2 hb)
end
def DQ(i:Nat)(fk fe:FE):FS:=λρ=>(fk ρ).bind λqk=>(fe (dX none ρ)).bind λqe=>match ρ[i]?,qk with
 | some (.cn (.l eI)),.int j=>if(0<=j/\FZ qe=true/\(ρ.set i .un).all (fu true)=true)then(eI[j.toNat]?).bind λps=>if ps.length<gH then some (.nx (ρ.set i (.cn (.l (eI.set j.toNat (ps++[qe]))))))else none else none
 | _,_=>none
theorem LM{fk fe:FE}{D:kO}{σ:St}{H:Hp}(h:tS X H₀ ab (DQ i fk fe) D σ H):tDrop (LD (V2 Sf (jY i) (tE X.K H₀ ab fk)) (tA X.K H₀ ab (aa fe ai))) D σ H:=by
 obtain⟨F,ρ,o,R,hf,q⟩:=h;obtain⟨qk,h1,hf⟩:=ax hf;obtain⟨qe,h2,hf⟩:=ax hf;split at hf
 ·rename_i eI j hp _;obtain⟨⟨c1,c2,c3⟩,hf⟩:=aF hf;obtain⟨ps,h3,hf⟩:=ax hf;obtain⟨c4,rfl⟩:=aK hf;obtain⟨a,e1,_⟩:=R.cn i _ hp;refine⟨.ref a,e1,F,ρ,.int j,R,h1,λv H1 F1 R1 s1 b1=>?_⟩
  obtain⟨a',g1,⟨bs,g2,g3,g4⟩,g5,g6⟩:=R1.cn i _ hp;rw[e1]at g1;cases g1;obtain⟨b,gb,⟨gn1,gn2⟩,vs,gv,gl⟩:=Sg g4 h3;have u4:atI (bs.map V.ref) j=some (.ref b):=by
   have:j=((j.toNat:Nat):Int):=by lia
   rw[this];exact dw (by rw[cm,gb];rfl)
  obtain⟨Ff,Rf,sf,kf⟩:=R1.mj none;refine⟨a,_,j,.ref b,rfl,aM.mp b1,g2,u4,⟨b,vs,rfl,gv⟩,Ff,dX none ρ,[qe],Rf,?_,λws H2 F2 R2 s2 b2=>?_⟩
  ·show(fe (dX none ρ)).bind _=_;rw[h2];rfl
  ·obtain⟨w,r,rfl,bw,br⟩:=b2.cb;rw[br.b9];have R3:=R1.OS Rf sf kf R2 s2;obtain⟨F4,R4,s4,b4,n4⟩:=R3.Yt R2 c2 bw;have up:∀c o,pK X.K H₀ F1 H1 none ρ σ c->H1 c=some o->H2 c=some o:=λc o z1 z2=>R2.sub _ _ (s2 _ _ (kf c o z1 z2))
   have B7:∀c∈bs,pK X.K H₀ F1 H1 none ρ σ c:=λc hc=>.inr ⟨i,eI,bs,hp,g4,hc⟩
   have hbm:=cS gb;have hB:H2 b=some (qD b vs):=up b _ (B7 b hbm) gv;have hA:H2 a=some (qD a (bs.map .ref)):=up a _ (.inl ⟨i,_,hp,(λz=>by cases z),e1⟩) g2
   rw[eA]at g3;refine⟨b,vs,w,rfl,rfl,hB,cU (by rw[<-gl.length];exact c4) (fj (bc _)),?_⟩
   have f4:∀c∈bs,Nw H₀ F1 c->Nw H₀ F4 c:=λc hc ⟨z1,z2⟩=>⟨z1,by
    cases y:F4 c with
    | none=>rfl
    | some u =>
     rcases n4 c u y with y2 | y2
     ·rw[z2]at y2;cases y2
     ·obtain⟨_,us,y3⟩:=g4.mem hc;have y4:=up c _ (B7 c hc) y3;rw[R4.sub _ _ y]at y4;cases y4;cases y2 (.l [])⟩
   have L4:iX X.K F4 H2 (Nw H₀ F4) eI bs:=yc g4 (s4) (λc hc=>by
    obtain⟨_,us,z⟩:=g4.mem hc;rw[up c _ (B7 c hc) z,z]) f4
   have hnb:Nw H₀ F4 b:=f4 b hbm ⟨gn1,gn2⟩;have sub:∀{G:Hp},G b=none->Same G H2->Same G (upd H2 b (qD b (vs++[w]))):=λ{G} hg s c u e=>by rw[upd_ne (ne_of_none e hg)];exact s _ _ e
   refine q F4 σ _ (R4.putD (m:=.l eI) hp e1 (sub hnb.2 R4.sub) (sub hnb.1 R4.keep) (λc u z1 z2=>?_) ⟨bs,?_,eA.mpr g3,LJ b4 L4 g3.2 h3 gb (gl.mono s4)⟩ c3) (s1.trans s4)
   ·rw[upd_ne]
    ·exact z1
    ·rintro rfl
     rw[hB]at z1;cases z1;cases z2
   ·rw[upd_ne (λz=>g3.1 (by rw[z];exact hbm))]
    exact hA
 ·cases hf
theorem F6{K:aj}{F H:Hp}{N:ae->Prop}:∀{eI:List ay} {bs:List ae},iX K F H N eI bs->bs.Nodup->∃H1,(∀ag σ s,Inv X ag σ H s->Inv X ag σ H1 s)/\(∀c,c∉bs->H1 c=H c)/\Paired (λps b=>∃vs,H1 b=some (.ao vs)/\bj K F ps vs) eI bs
 | _,_,.nil,_=>⟨H,λ_ _ _ I=>I,λ_ _=>rfl,.nil⟩
 | _,_,.cons (b:=b) ⟨_,vs,h2,h3⟩ t,hn=>by
  rw[eA]at hn;obtain⟨H1,i1,i2,i3⟩:=F6 (show iX K F H N _ _ from t) hn.2
  have hb:H1 b=some (qD b vs):=(i2 b hn.1).trans h2;refine⟨upd H1 b (.ao vs),λag σ s I=>Inv.Lz (i1 ag σ s I) hb,λc hc=>?_,.cons ⟨vs,aI,h3⟩ ?_⟩
  ·rw[upd_ne (λz=>hc (by rw[z];exact bo))]
   exact i2 c λz=>hc (bz _ z)
  ·have:∀{eI:List ay} {bs:List ae},Paired (λps b=>∃vs,H1 b=some (.ao vs)/\bj K F ps vs) eI bs->b∉bs->Paired (λps c=>∃us,upd H1 b (.ao vs) c=some (.ao us)/\bj K F ps us) eI bs:=λ{eI bs} h=>by
    induction h with
    | nil=>intro _;exact .nil
    | @cons ps c eI bs r t ih =>
     intro hb;obtain⟨us,r1,r2⟩:=r;refine .cons ⟨us,?_,r2⟩ (ih λz=>hb (bz _ z))
     rw[upd_ne (λz=>hb (by rw[<-z];exact bo))]
     exact r1
   exact this i3 hn.1
def DR(i:Nat)(f:FS):FS:=λρ=>match ρ[i]? with
 | some (.cn (.l eI))=>if(ρ.set i .un).all (fu true)=true then f (ρ.set i (.val (.ao (eI.map .ao))))else none
 | _=>f ρ
open Classical in
theorem Yu{st:aE}{fs:FS}(h:PS X st (tS X H₀ ab fs)):PS X st (tS X H₀ ab (DR i fs)):=by
 refine LG h λD σ H ⟨F,ρ,o,R,hf,q⟩=>?_
 unfold DR at hf;split at hf
 ·rename_i eI hp;obtain⟨hc,hf⟩:=aF hf;have fg:i<ρ.length:=(dF.mp hp).1;obtain⟨a,e1,⟨bs,g2,g3,g4⟩,g5,g6⟩:=R.cn i _ hp;have g3':=eA.mp g3;obtain⟨H1,i1,i2,i3⟩:=F6 (X:=X) g4 g3'.2;have ha1:H1 a=some (qD a (bs.map .ref)):=(i2 a g3'.1).trans g2;have HW:∀c,c≠a->c∉bs->upd H1 a (.ao (bs.map .ref)) c=H c:=λc z1 z2=>by rw[upd_ne z1];exact i2 c z2
  have tag:∀c o,H c=some o->tu (.l []) o=false->c≠a/\c∉bs:=λc o z1 z2=>by
   constructor
   ·intro z;subst z;rw[g2]at z1;cases z1;cases z2
   ·intro z;obtain⟨_,us,y⟩:=g4.mem z;rw[y]at z1;cases z1;cases z2
  have frn:∀c o,F c=some o->c≠a/\c∉bs:=λc o z1=>by
   constructor
   ·intro z;subst z;rw[g6]at z1;cases z1
   ·intro z;obtain⟨⟨_,y⟩,_⟩:=g4.mem z;rw[y]at z1;cases z1
  have kpn:∀c o,H₀ c=some o->c≠a/\c∉bs:=λc o z1=>by
   constructor
   ·intro z;subst z;rw[g5]at z1;cases z1
   ·intro z;obtain⟨⟨y,_⟩,_⟩:=g4.mem z;rw[y]at z1;cases z1
  let F1:Hp:=λc=>if c=a\/c∈bs then upd H1 a (.ao (bs.map .ref)) c else F c
  have f1:∀c,c=a\/c∈bs->F1 c=upd H1 a (.ao (bs.map .ref)) c:=λc z=>if_pos z
  have f2:∀c,c≠a->c∉bs->F1 c=F c:=λc z1 z2=>if_neg λz=>z.elim z1 z2
  have sm:Same F F1:=λc o z=>by obtain⟨y1,y2⟩:=frn c o z;rw[f2 c y1 y2];exact z
  have hv:dh X.K F1 (.ao (eI.map .ao)) (.ref a):=by
   refine bD.mpr ⟨a,bs.map .ref,rfl,ql.of (by rw[f1 a (.inl rfl)];exact aI),?_⟩
   have:∀{eI:List ay} {cs:List ae},Paired (λps b=>∃vs,H1 b=some (.ao vs)/\bj X.K F ps vs) eI cs->(∀c∈cs,c∈bs)->bj X.K F1 (eI.map .ao) (cs.map .ref):=λ{eI cs} h=>by
    induction h with
    | nil=>intro _;exact .nil
    | @cons ps c eI cs r t ih =>
     intro hcs;obtain⟨us,r1,r2⟩:=r;have hcb:=hcs c bo;refine .cons (bD.mpr ⟨c,us,rfl,ql.of ?_,r2.mono sm⟩) (ih λd hd=>hcs d (bz _ hd))
     rw[f1 c (.inr hcb),upd_ne (λz=>g3'.1 (by rw[<-z];exact hcb))]
     exact r1
   exact this i3 λ_ z=>z
  refine⟨upd H1 a (.ao (bs.map .ref)),λag s I=>Inv.Lz (i1 ag σ s I) ha1,F1,_,o,?_,hf,q.mono sm⟩
  exact {
   sub:=λc o z=>by
    by_cases hc:c=a\/c∈bs
    ·rw[f1 c hc]at z;exact z
    ·have z1:c≠a:=λy=>hc (.inl y)
     have z2:c∉bs:=λy=>hc (.inr y)
     rw[f2 c z1 z2]at z;rw[HW c z1 z2];exact R.sub _ _ z
   keep:=λc o z=>by obtain⟨y1,y2⟩:=kpn c o z;rw[HW c y1 y2];exact R.keep _ _ z
   base:=R.base.trans sm
   fresh:=λc o z=>by
    by_cases hc:c=a\/c∈bs
    ·refine .inr ?_;rcases hc with rfl | hc
     ·exact g5
     ·exact(g4.mem hc).1.1
    ·rw[f2 c (λy=>hc (.inl y)) (λy=>hc (.inr y))]at z;exact R.fresh _ _ z
   val:=λj p z=>by
    by_cases hj:i=j
    ·subst hj;rw[b7 fg]at z;cases z;exact⟨_,e1,hv⟩
    ·rw[bE hj]at z;obtain⟨v,h1,h2⟩:=R.val j p z;exact⟨v,h1,h2.mono sm⟩
   own:=λj ps z=>by
    by_cases hj:i=j
    ·subst hj;rw[b7 fg]at z;cases z
    ·rw[bE hj]at z;obtain⟨c,vs,h1,h2,h3,h4,h5⟩:=R.own j ps z;obtain⟨y1,y2⟩:=tag c _ h2 rfl;exact⟨c,vs,h1,by rw[HW c y1 y2];exact h2,h3,by rw[f2 c y1 y2];exact h4,h5.mono sm⟩
   apart:=λj k ps qs c z1 z2 z3 z4=>by
    have old:∀(m:Nat) (l:ay),(ρ.set i (.val (.ao (eI.map .ao))))[m]?=some (.own l)->ρ[m]?=some (.own l):=λm l z=>by
     by_cases hm:i=m
     ·subst hm;rw[b7 fg]at z;cases z
     ·rw[bE hm]at z;exact z
    exact R.apart j k ps qs c (old j ps z1) (old k qs z2) z3 z4
   obs:=λj o z=>by
    by_cases hj:i=j
    ·subst hj;rw[b7 fg]at z;cases z
    ·rw[bE hj]at z;obtain⟨c,h1,h2⟩:=R.obs j o z;exact⟨c,h1,h2.mono sm⟩
   cn:=λj m z=>by
    by_cases hj:i=j
    ·subst hj;rw[b7 fg]at z;cases z
    ·rw[bE hj]at z;have hk:=eU.mp hc (.cn m) (cS (i:=j) (by rw[bE hj];exact z))
     obtain⟨c,h1,h2,h3,h4⟩:=R.cn j m z;have hm:∀eI,m≠.l eI:=λeI y=>by subst y;cases hk
     have ht:∃o,H c=some o/\tu (.l []) o=false:=by
      cases m with
      | t kvs=>obtain⟨xs,y,_⟩:=h2;exact⟨_,y,rfl⟩
      | k kvs=>obtain⟨xs,y,_⟩:=h2;exact⟨_,y,rfl⟩
      | l eI=>exact absurd rfl (hm eI)
     obtain⟨o,y1,y2⟩:=ht;obtain⟨y3,y4⟩:=tag c o y1 y2;exact⟨c,h1,h2.toT hm sm (HW c y3 y4),h3,by rw[f2 c y3 y4];exact h4⟩
   len:=by rw[iq];exact R.len}
 ·exact⟨H,λ_ _ I=>I,F,ρ,o,R,hf,q⟩
end
noncomputable def pW(kvs:List (List cf×PV))(k:List cf):Bool:=kvs.any λx=>decide (x.1=k)
def LN(kvs:List (List cf×PV))(k:List cf)(q:PV):List (List cf×PV):=if pW kvs k=true then kvs.map λx=>if x.1=k then(x.1,q)else x else kvs++[(k,q)]
section
variable {K:aj} {F:Hp}
theorem ov{kvs:List (List cf×PV)}{xs:List (List cf×ae×aq)}(h:tq K F kvs xs):jw K F xs/\kvs.length=xs.length/\∀k,(atKey xs k).isSome=pW kvs k:=by
 have:xs.map (·.1)=kvs.map (·.1)/\jw K F xs:=by
  unfold tq at h;induction h with
  | nil=>exact⟨rfl,λ_ z=>nomatch z⟩
  | @cons p q ps qs r t ih =>
   obtain⟨r1,r2,_⟩:=r;refine⟨by rw[bX,bX,ih.1,r1],λx hx=>?_⟩
   rcases aZ.mp hx with rfl | hx
   ·rw[<-r1];exact r2
   ·exact ih.2 x hx
 refine⟨this.2,by have:=dy List.length this.1;rw[aB,aB]at this;exact this.symm,λk=>?_⟩
 rw[vP,this.1];unfold pW;rw[xg];rfl
theorem UZ{kvs:List (List cf×PV)}{xs:List (List cf×ae×aq)}(h:tq K F kvs xs){k:List cf}{b:ae}(hb:iA K F b (k.map kV)){q:PV}{v:V}{r:aq}(hv:dh K F q v)(hr:RelV v r):tq K F (LN kvs k q) (storedH xs k b r):=by
 have hk:=(ov h).2.2 k;unfold LN;cases e:pW kvs k with
 | true =>
  rw[e]at hk;obtain⟨p,hp⟩:=Ck.mp hk;rw[if_pos rfl,storedH_old hp];clear hk hp e;unfold tq at h ⊢;induction h with
  | nil=>exact .nil
  | @cons p q' ps qs r' t ih =>
   obtain⟨r1,r2,r3⟩:=r';refine .cons ?_ ih;by_cases z:p.1=k
   ·have z1:(λx:List cf×PV=>if x.1=k then(x.1,q)else x) p=(p.1,q):=if_pos z
    have z2:putAt k r q'=(q'.1,q'.2.1,r):=if_pos (r1.symm.trans z);rw[z1,z2];exact⟨r1,r2,v,hv,hr⟩
   ·have z1:(λx:List cf×PV=>if x.1=k then(x.1,q)else x) p=p:=if_neg z
    have z2:putAt k r q'=q':=if_neg λy=>z (r1.trans y)
    rw[z1,z2];exact⟨r1,r2,r3⟩
 | false =>
  rw[e]at hk;rw[if_neg (by simp),storedH_new (by cases y:atKey xs k with | none=>rfl | some _=>rw[y]at hk;cases hk)]
  clear hk e;unfold tq at h ⊢;induction h with
  | nil=>exact .cons ⟨rfl,hb,v,hv,hr⟩ .nil
  | cons r' t ih=>exact .cons r' ih
end
section
variable {X:Cx} {H₀ ab:Hp} {e ke:au} {fk fv:FE} {x:Str} {p pos sp:Pos} {i:Nat}
def Qe(i:Nat):FS:=λρ=>if i<ρ.length then some (.nx (ρ.set i (.cn (.t []))))else none
theorem LO{D:kO}{σ:St}{H:Hp}(h:tS X H₀ ab (Qe i) D σ H):nN (Fl (.dT [])) (gName i) D σ H:=by
 obtain⟨F,ρ,o,R,hf,q⟩:=h;obtain⟨hi,rfl⟩:=aK hf;intro d hd;exact q F _ _ ((R.Fo (.dT []) hd).DP hi ⟨[],aI,.nil⟩ (R.keep.free hd) (R.sub.free hd)) (Same.refl F)
theorem yd{K:aj}{F:Hp}{qk:PV}{ks:List cf}{v:V}(h:mx qk=some ks)(b:dh K F qk v):∃c,v=.ref c/\iA K F c (ks.map kV):=by
 obtain⟨rfl,_⟩:=AJ h;obtain⟨c,vs,rfl,hs,hb⟩:=bH.mp b;rw[pU hb]at hs;exact⟨c,rfl,hs⟩
def Ic(i:Nat)(fk fv:FE):FS:=λρ=>(fv ρ).bind λqv=>(fk ρ).bind λqk=>match ρ[i]? with
 | some (.cn (.t kvs))=>(mx qk).bind λks=>if(kvs.length<gH/\(ρ.set i .un).all (fu false)=true)then some (.nx (ρ.set i (.cn (.t (LN kvs ks qv)))))else none
 | _=>none
theorem LP{D:kO}{σ:St}{H:Hp}(h:tS X H₀ ab (Ic i fk fv) D σ H):R9 X.K (jY i) (tE X.K H₀ ab fk) (tE X.K H₀ ab fv) D σ H:=by
 obtain⟨F,ρ,o,R,hf,q⟩:=h;obtain⟨qv,h1,hf⟩:=ax hf;obtain⟨qk,h2,hf⟩:=ax hf;split at hf
 ·rename_i kvs hp;obtain⟨ks,h3,hf⟩:=ax hf;obtain⟨⟨c1,c2⟩,rfl⟩:=aK hf;refine⟨F,ρ,qv,R,h1,λv H1 F1 R1 s1 b1=>?_⟩
  obtain⟨a,e1,_⟩:=R1.cn i _ hp;refine⟨.ref a,e1,F1,ρ,qk,R1,h2,λy H3 F3 R3 s3 b3=>?_⟩
  obtain⟨a',g1,⟨xs,g2,g3⟩,g4,g5⟩:=R3.cn i _ hp;rw[e1]at g1;cases g1;obtain⟨c,rfl,hs⟩:=yd h3 b3;obtain⟨k1,k2,_⟩:=ov g3;refine⟨a,c,xs,ks,rfl,rfl,g2,λz hz=>bg R3.sub (k1 z hz),bg R3.sub hs,by rw[<-k2];exact cU c1 (fj (bc _)),λr hr=>?_⟩
  exact q F3 σ _ (R3.Lw hp e1 rfl ⟨_,aI,UZ g3 hs (b1.mono s3) hr⟩ c2) (s1.trans s3)
 ·cases hf
noncomputable def AQ(ρ:aG)(i:Nat):Option (List (List cf×PV)):=match ρ[i]? with
 | some (.cn (.t kvs))=>some kvs
 | some (.ob (.dct (.t kvs)))=>some kvs
 | _=>none
theorem ye{K:aj}{F H:Hp}{ρ:aG}{σ:St}{kvs:List (List cf×PV)}(h:AQ ρ i=some kvs)(R:cY K H₀ ab F ρ σ H):∃a xs,σ[i]?=some (some (.ref a))/\Rd H a (.dT xs)/\tq K F kvs xs:=by
 unfold AQ at h;split at h
 ·rename_i hp;cases h;obtain⟨a,e1,⟨xs,e2,e3⟩,_⟩:=R.cn i _ hp;exact⟨a,xs,e1,.inl e2,e3⟩
 ·rename_i hp;cases h;obtain⟨a,e1,xs,e2,e3⟩:=R.obs i _ hp;exact⟨a,xs,e1,.inl (R.sub _ _ e2),e3⟩
 ·cases h
def inB(b:Bool)(i:Nat)(fk:FE):eY:=λρ=>(fk ρ).bind λqk=>(mx qk).bind λks=>(AQ ρ i).map λkvs=>if b=true then !pW kvs ks else pW kvs ks
def rKi(K:aj):R2:=λx y H Q=>∃b d xs k,x=.ref b/\y=.ref d/\Rd H d (.dT xs)/\jw K H xs/\iA K H b (k.map kV)/\Q (.bl (atKey xs k).isSome) H
theorem Yv(hu:X.A.units+1<cLine):OpR X (compareOp .In) (rKi X.K):=by
 rintro ag s σ H x y v u Q I rx ry ⟨b,d,xs,k,ex,ey,h1,h2,h3,q⟩;subst ex ey;cases rx;cases ry;exact Xj hu I h1 h2 h3 λs' I'=>⟨.bl (atKey xs k).isSome,H,I',rfl,q⟩
theorem AR{b:Bool}{ρ:aG}{r:Bool}(h:inB b i fk ρ=some r):∃qk ks kvs,fk ρ=some qk/\mx qk=some ks/\AQ ρ i=some kvs/\r=if b=true then !pW kvs ks else pW kvs ks:=by
 obtain⟨qk,h1,h⟩:=ax h;obtain⟨ks,h2,h⟩:=ax h;cases z:AQ ρ i with
 | none=>rw[z]at h;cases h
 | some kvs=>rw[z]at h;cases h;exact⟨qk,ks,kvs,h1,h2,rfl,rfl⟩
def Yw:CmpOp->Option Bool
 | .In=>some false
 | .NotIn=>some true
 | _=>none
theorem Yx{op:CmpOp}{b:Bool}(ho:Yw op=some b)(hu:X.A.units+1<cLine)(hk:PE X ke (tE X.K H₀ ab fk))(hx:PE X (.Name x p) (jY i)):PT X (.Compare ke [op] [.Name x p] pos) (tT X.K H₀ ab (inB b i fk)):=by
 cases op with
 | NotIn =>
  cases ho;refine(nO (R8 hu) hk hx rfl).imp λσ H Q ⟨F,ρ,r,R,hf,q⟩=>?_
  obtain⟨qk,ks,kvs,h1,h2,h3,rfl⟩:=AR hf;refine⟨F,ρ,qk,R,h1,λv H1 F1 R1 s1 b1=>?_⟩
  obtain⟨a,xs,e1,e2,e3⟩:=ye h3 R1;obtain⟨c,rfl,hs⟩:=yd h2 b1;obtain⟨k1,_,k3⟩:=ov e3;refine⟨.ref a,e1,c,a,xs,ks,rfl,rfl,e2,λz hz=>bg R1.sub (k1 z hz),bg R1.sub hs,_,rfl,?_⟩
  rw[k3];exact q H1 F1 R1 s1
 | In =>
  cases ho;refine(nO (Yv hu) hk hx rfl).imp λσ H Q ⟨F,ρ,r,R,hf,q⟩=>?_
  obtain⟨qk,ks,kvs,h1,h2,h3,rfl⟩:=AR hf;refine⟨F,ρ,qk,R,h1,λv H1 F1 R1 s1 b1=>?_⟩
  obtain⟨a,xs,e1,e2,e3⟩:=ye h3 R1;obtain⟨c,rfl,hs⟩:=yd h2 b1;obtain⟨k1,_,k3⟩:=ov e3;refine⟨.ref a,e1,c,a,xs,ks,rfl,rfl,e2,λz hz=>bg R1.sub (k1 z hz),bg R1.sub hs,_,rfl,?_⟩
  rw[k3];exact q H1 F1 R1 s1
 | _=>cases ho
theorem LQ{A:bY}{E:cQ}{s:az}{d:ae}{o:Obj}{es:Array DictEntry}{ep n:Nat}{Q:cQ}(hd:(d==sysModules)=false)(ho:s.heap.get? d=some o)(hc:o.ExactDict)(adG:o.data=.dict es ep)(hn:es.size=n)(ahy:(n:Int)<2^63)
  (h:Q (.int n (s.toks+1)) {s with toks:=s.toks+1+1}):wpAny (model X.prog X.w) A (call (.builtin "len") [.ref d]) Q E s:=by
 have ty:s.TypeIs (.ref d) "dict":=⟨o,ho,hc.1⟩;have hm:MeetsIn X.prog X.w (Builtin.«dict.__len__» ⟨[.ref d],[]⟩) (λ_ R s'=>s'.heap.get? d=some o/\R (.ok (.ret (.int n s'.toks))) {s' with toks:=s'.toks+1}):=.of_wp <| by
  rintro A R s' ⟨xm,hR⟩
  show wpAny _ _ (dictSize d >>= _) _ _ s';unfold dictSize;refine av (av (wpAny_dictEntries xm adG (aN ?_)));refine av (m:=Builtin.Dict.pendingCount d) (wpAny_pendingCount_other hd ?_);refine wpAny_ret_mkInt ?_;rw[Nat.add_zero,hn];exact hR
 refine Calls.call_function_entry kind_len plain_len entry_len (args_len1 _) ?_;unfold Builtin.«len»;refine av (m:=PySem.oneArg "len" _) (aN ?_);refine av (m:=callSpecial? (.ref d) (Str.ofString "__len__")) (kD (name:=Str.ofString "__len__") ty F.slot_dict_len (call_meetsIn F.slot_dict_len ty F.entry_dict_len (F.args_dict_len_1 _) hm ⟨ho,?_⟩));show wpAny _ _ _ _ _ {s with toks:=s.toks+1}
 refine av (jV (aN ?_));refine av (wpAny_letGo ?_);show wpAny _ _ (if((n:Nat):Int)<0 then _ else _) _ _ _
 rw[if_neg (by lia)]
 show wpAny _ _ (if((n:Nat):Int)>=2^63 then _ else _) _ _ _
 rw[if_neg (by lia)]
 exact av (wpAny_mkInt (aN ⟨_,rfl,h⟩))
theorem AS:kQ X (.builtin "len") (λxs H Q=>∃p ys,xs=[.ref p]/\Rd H p (.dT ys)/\Q (.int ys.length) H):=by
 rintro ag s σ H xs us Q I rs ⟨p,ys,e,h,q⟩;subst e;obtain⟨u,rfl,ru⟩:=kj rs;cases ru;obtain⟨z,y,o,es,ep,h1,h2,h3,h4,h5⟩:=(show ee X.prog X.w H s.heap p (.dT ys)from Ky I.hok h)
 have hn:es.size=ys.length:=by rw[<-oV,h4,aB]
 refine LQ (X:=X) y h1 h2 h3 hn ?_ ⟨.int ys.length,H,I.tok _,⟨_,rfl⟩,q⟩;have:ys.length<=2^62:=cG z (by decide)
 have h62:(2:Nat)^62=4611686018427387904:=by decide
 have h63:(2:Int)^63=9223372036854775808:=by decide
 lia
def LU(i:Nat):FE:=λρ=>(AQ ρ i).map λkvs=>.int kvs.length
theorem U0{cp:Pos}(hg:Gl X "len")(hm:X.mg "len"=none)(hx:PE X (.Name x p) (jY i)):PE X (.Call (.Name "len" sp) [.Name x p] [] cp) (tE X.K H₀ ab (LU i)):=(kR AS hg hm PySem.boot_len (dm hx ir)).imp <| by
 rintro σ H Q ⟨F,ρ,r,R,hf,q⟩
 unfold LU at hf;cases z:AQ ρ i with
 | none=>rw[z]at hf;cases hf
 | some kvs =>
  rw[z]at hf;cases hf;obtain⟨a,xs,e1,e2,e3⟩:=ye z R;refine⟨.ref a,e1,a,xs,rfl,e2,q _ H F R (Same.refl F) (aM.mpr ?_)⟩;rw[(ov e3).2.1]
noncomputable def wm(ts:bP):bP:=λρ=>(ts ρ).bind λps=>match ps with | [.int i,.int j]=>if(0<=i/\i<1000000/\0<=j/\j<1000000)then some ((List.range (j-i).toNat).map fun(k:Nat)=>.int (i+k))else none | _=>none
theorem LV{tg a b:au}{p pos:Pos}{ts:bP}(hg:Gl X "range")(hm:X.mg "range"=none)(ha:PA X [a,b] (tA X.K H₀ ab ts))(hs:starEach [a,b] X.env=[(false,eval a X.env),(false,eval b X.env)])(Ry:starEach [b] X.env=[(false,eval b X.env)]):PI X tg (.Call (.Name "range" p) [a,b] [] pos) (tI X.K H₀ ab (wm ts)) :=
 (Hk hg hm ha hs Ry).imp <| by
  rintro σ H Rr ⟨F,ρ,ps,R,hf,q⟩
  obtain⟨as,h1,h2⟩:=ax hf;refine⟨F,ρ,as,R,h1,λvs H1 F1 R1 s1 b1=>?_⟩
  match as,h2 with
  | [.int i,.int j],h2 =>
   obtain⟨⟨z1,z2,z3,z4⟩,rfl⟩:=aK h2;obtain⟨v,r,rfl,bv,br⟩:=b1.cb;obtain⟨v',r',rfl,bv',br'⟩:=br.cb;rw[br'.b9,aM.mp bv,aM.mp bv'];exact⟨i,j,rfl,⟨by lia,by lia,by lia,by lia⟩,q _ H1 F1 R1 s1 (tD i (j-i).toNat)⟩
def i0(K:aj)(n:Nat)(g:Ob->ay->cH):Sp:=λvs H Q E=>∃F o ps e a us,vs=us++[.ref a]/\Same F H/\xE K F o a/\bj K F ps us/\ps.length=n/\g o ps=some e/\RP K H F Q E e
abbrev adH(X:Cx)(fns:List (Str×Nat))(call:Str->Ob->ay->cH):Prop:=∀x n,fns.lookup x=some n->∃k f fd ps,FnOk X.prog X.w X.K X.mg X.base (kB X.prog X.w) k f fd ps (i0 X.K n (call x))/\eJ k X.A/\X.mg x=some (.ref f)/\W.keepIn X.K (.ref f)=true/\fO X.K fd ps []
def mZ(g:Ob->ay->cH)(i:Nat)(f1 f2:FE):FE:=λρ=>(f1 ρ).bind λp1=>(f2 ρ).bind λp2=>(rdO i ρ).bind λo=>(g o [p1,p2]).bind nU
theorem DS{f1 f2:FE}{n:Nat}{g:Ob->ay->cH}{σ:St}{H:Hp}{Q:VK}{E:XK}{K:aj}(h:tE K H₀ ab (mZ (HX n g) i f1 f2) σ H Q):zX (i0 K n g) [] E (Fc (tE K H₀ ab f1) (Fc (tE K H₀ ab f2) (Fc (jY i) W0))) σ H Q:=by
 obtain⟨F,ρ,p,R,hf,q⟩:=h;obtain⟨p1,h1,hf⟩:=ax hf;obtain⟨p2,h2,hf⟩:=ax hf;obtain⟨o,h0,hf⟩:=ax hf;obtain⟨en,h5,h4⟩:=ax hf;obtain⟨hl,h3⟩:=aF (show(if [p1,p2].length=n then g o [p1,p2]else none)=some en from h5)
 refine⟨F,ρ,p1,R,h1,λv1 H1 F1 R1 s1 b1=>⟨F1,ρ,p2,R1,h2,λv2 H2 F2 R2 s2 b2=>?_⟩⟩
 unfold rdO at h0;split at h0
 ·rename_i z;cases h0;obtain⟨a,g1,g2⟩:=R2.obs i _ z;refine⟨.ref a,g1,?_⟩;show i0 K n g [v1,v2,.ref a] H2 Q E;refine⟨F2,o,[p1,p2],en,a,[v1,v2],rfl,R2.sub,g2,.cons (b1.mono s2) (.cons b2 .nil),hl,h3,?_⟩;cases en with
  | un=>cases h4
  | ex C=>cases h4
  | ob _=>cases h4
  | cn _=>cases h4
  | val p' =>
   cases h4;exact λv F3 H3 P ff b3=>q v H3 F3 (R2.after P.keep P.base P.sub P.fresh) (s1.trans (s2.trans ff)) b3
  | own ps =>
   cases h4;intro a' XD F3 H3 P ff ha hn fn b3;obtain⟨z1,z2,z3,z4⟩:=Am P ha hn fn;exact q _ H3 _ (R2.after P.keep z1 z3 z4) (s1.trans (s2.trans z1)) (bD.mpr ⟨a',XD,rfl,ql.of aI,b3.mono z2⟩)
 ·cases h0
theorem LW{f1 f2:FE}{n k:Nat}{g:Ob->ay->cH}{e1 e2:au}{f:ae}{fd:dN}{ps:List Str}{y:Str}{yp:Pos}(F:FnOk X.prog X.w X.K X.mg X.base (kB X.prog X.w) k f fd ps (i0 X.K n g))(hr:eJ k X.A)(hg:Gl X x)(hm:X.mg x=some (.ref f))(hk:W.keepIn X.K (.ref f)=true)(hb:fO X.K fd ps [])
  (h1:PE X e1 (tE X.K H₀ ab f1)) (h2:PE X e2 (tE X.K H₀ ab f2)) (h3:PE X (.Name y yp) (jY i)) (Dj:(x==("__debug__":Str))=false) (s1:∀es,starEach (e1::es) X.env=(false,eval e1 X.env)::starEach es X.env) (s2:∀es,starEach (e2::es) X.env=(false,eval e2 X.env)::starEach es X.env) :
  PE X (.Call (.Name x p) [e1,e2,.Name y yp] [] pos) (tE X.K H₀ ab (mZ (HX n g) i f1 f2)):=(nQ F hr hg hm hk hb .nil qE (dm h1 (dm h2 (dm h3 ir) (s2 _)) (s1 _)) Dj (s1 _) (by rw[s2];rfl)).imp λ_ _ _ h=>DS h
theorem yf{K:aj}{F H:Hp}{o:Ob}{a:ae}{ps:ay}{vs:List V}{N:List Str}(hs:Same F H)(ho:xE K F o a)(hb:bj K F ps vs):cY K H F F (ps.map .val++.ob o::List.replicate (N.length-(ps.length+1)) .un) (start N (vs++[.ref a])) H:=by
 have hl:=hb.length;have no:∀(j:Nat) (e:Ent),(ps.map Ent.val++Ent.ob o::List.replicate (N.length-(ps.length+1)) Ent.un)[j]?=some e->(∃q,ps[j]?=some q/\e=.val q)\/(j=ps.length/\e=.ob o)\/e=.un:=λj e h=>by
  rcases Nat.lt_trichotomy j ps.length with z | z | z
  ·rw[gR (by simpa using z),cm]at h
   cases w:ps[j]? with
   | none=>rw[w]at h;cases h
   | some q=>rw[w]at h;cases h;exact .inl ⟨q,rfl,rfl⟩
  ·subst z;rw[iC (by simp),aB,Nat.sub_self]at h
   cases h;exact .inr (.inl ⟨rfl,rfl⟩)
  ·rw[iC (by rw[aB];lia),aB]at h
   obtain⟨m,hm⟩:∃m,j-ps.length=m+1:=⟨j-ps.length-1,by lia⟩
   rw[hm,Cn,jm]at h;split at h
   ·cases h;exact .inr (.inr rfl)
   ·cases h
 refine ou hs (λe he=>?_) (λj q e=>?_) (λj q e=>?_) ?_
 ·obtain⟨j,hj⟩:=rN he;rcases no j e hj with⟨_,_,rfl⟩ | ⟨_,rfl⟩ | rfl<;>exact⟨(λ_ z=>by cases z),λ_ z=>by cases z⟩
 ·rcases no j _ e with⟨q',h1,z⟩ | ⟨_,z⟩ | z
  ·cases z;obtain⟨v,g1,g2⟩:=hb.get h1;refine⟨v,?_,g2⟩;have hj:j<vs.length:=by rw[<-hl];exact(dF.mp h1).1
   unfold start;rw[cM,gk,gR (by rw[aB];exact hj),cm,g1]
   rfl
  ·cases z
  ·cases z
 ·rcases no j _ e with⟨_,_,z⟩ | ⟨rfl,z⟩ | z
  ·cases z
  ·cases z;refine⟨a,?_,ho⟩;unfold start;rw[cM,gk,iC (by rw[aB,hl];exact bc _),aB,hl,Nat.sub_self]
   rfl
  ·cases z
 ·unfold start;simp only[bt,bF,aB,jn,iG,hl]
  lia
end
structure Gm where
 sc:List (Str×NameKind)
 N:List Str
 fns:List (Str×Nat)
 cons:List (Str×PV)
 dR:List Str
 chg:List Str
 own:Bool
 call:eF
 exc:List Str
 sub:List ((Str×Str)×Bool)
 tabs:List (Str×List (Str×Str))
 Si:List Str
 AU:List (Str×Nat)
 nV:Str->Ob->ay->cH
 cls:List (Str×Nat)
 make:Str->ay->Option (List (Str×Fd))
 flds:List Str
 gz:List (Str×List (Str×PV))
 zm:Bool
 Ro:List Str
 dct:List Str
 NW:List Str
def slot(Γ:Gm)(x:Str):Option Nat:=Γ.N.findIdx? (· == x)
def vG(Γ:Gm)(x:Str):Bool:=match Γ.sc.lookup x with | some .local=>true | some .cell=>true | some .free=>true | _=>false
def B8(Γ:Gm)(x:Str):Bool:=match Γ.sc.lookup x with | some .local=>true | some .cell=>Γ.own | _=>false
noncomputable def zq(Γ:Gm)(x:Str):Bool:=match Γ.sc.lookup x with | some .globalImplicit=>true | _=>false
def di(x:Str):Bool:=!(x==("__debug__":Str))&&!(x==("__classdict__":Str))&&!(x==("__name__":Str))
structure LX (Γ:Gm) (X:Cx):Prop where
 ex:∃p q fs fT Ls FU k,Lr X.K X.mg p q fs fT Ls FU/\eJ (k+2) X.A /\
  (∀x n,Γ.fns.lookup x=some n->∃j f fd ps,j<=k/\FnOk X.prog X.w X.K X.mg X.base (kB X.prog X.w) j f fd ps (Dv X.K n (Γ.call x))/\X.mg x=some (.ref f)/\W.keepIn X.K (.ref f)=true/\fO X.K fd ps []) /\
  ∀x n,Γ.AU.lookup x=some n->∃j f fd ps,j<=k/\FnOk X.prog X.w X.K X.mg X.base (kB X.prog X.w) j f fd ps (i0 X.K n (Γ.nV x))/\X.mg x=some (.ref f)/\W.keepIn X.K (.ref f)=true/\fO X.K fd ps []
 lam:Se X
structure Yy (Γ:Gm) (X:Cx):Prop where
 AU:adH X Γ.AU Γ.nV
 ns:∀x a,W.nsIn X.K mainGlobals x=some (some (.ref a))->X.mg x=some (.ref a)
 cls:∀C n,Γ.cls.lookup C=some n->∃k Ca f fd ps,Mk X.K Ca f/\VX X.K Ca/\(∀f,Γ.flds.contains f=true->pB X.K Ca f)/\FnOk X.prog X.w X.K X.mg X.base (kB X.prog X.w) k f fd ps (spI X.K n (Γ.make C))/\eJ (k+1) X.A/\X.mg C=some (.ref Ca)/\fO X.K fd ps []
 gz:∀T b8,Γ.gz.lookup T=some b8->DN X.K X.mg X.w.params T b8
 zm:Γ.zm=true->LX Γ X
structure GOk (Γ:Gm) (X:Cx):Prop where
 names:X.env.scope.names=Γ.sc
 N:X.N=Γ.N
 nd:X.N.Nodup
 kind:X.env.scope.kind=.function
 calm:X.calm=true
 hd:X.A.handled=none
 un:X.A.units+1150<cLine
 own:Γ.own=true->∀x,X.fn x=true
 fns:∀x n,Γ.fns.lookup x=some n->∃k f fd ps,FnOk X.prog X.w X.K X.mg X.base (kB X.prog X.w) k f fd ps (Dv X.K n (Γ.call x))/\eJ k X.A/\X.mg x=some (.ref f)/\W.keepIn X.K (.ref f)=true/\fO X.K fd ps []
 cons:∀x p,Γ.cons.lookup x=some p->∃u v,X.mg x=some u/\RelV v u/\∀F,dh X.K F p v
 dR:∀x,Γ.dR.contains x=true->X.mg x=none
 excs:∀C,Γ.exc.contains C=true->vq X.K C
 subs:∀C D b,Γ.sub.lookup (C,D)=some b->Lb X.K X.mg C D b
 tabs:∀T b8,Γ.tabs.lookup T=some b8->FH X.K X.mg X.w.params T b8
 u6:Yy Γ X
def cw:au->Bool
 | .Starred _ _=>false
 | .Set _ _ _=>false
 | _=>true
def iu:au->Bool
 | .Slice _ _ _ _=>false
 | _=>true
def F7:au->Bool
 | .Tuple _ _ _=>false
 | .ListComp _ _ _ _=>false
 | .SetComp _ _ _ _=>false
 | .DictComp _ _ _ _ _=>false
 | _=>true
def pX:au->Bool
 | .ListComp _ _ _ _=>false
 | .SetComp _ _ _ _=>false
 | .DictComp _ _ _ _ _=>false
 | _=>true
theorem yg{e:au}(h:F7 e=true):pX e=true:=by
 cases e<;>first | rfl | cases h
def LY:au->Bool
 | .UnaryOp .Not _ _=>false
 | .BoolOp _ _ _=>false
 | .IfExp _ _ _ _=>false
 | .Compare _ _ _ _=>false
 | _=>true
theorem bh{e:au}(h:cw e=true)(es:List au)(env:Env):starEach (e::es) env=(false,eval e env)::starEach es env:=by
 cases e<;>first | rfl | cases h
theorem jg{e:au}(h:cw e=true)(op:CmpOp):behindInMarks op e=false:=by
 cases e<;>first | rfl | cases h
theorem DT{e:au}(h:cw e=true)(env:Env)(x:aq):foldedSetIterable e env x=pure x:=by
 cases e<;>first | rfl | cases h
theorem ll{e:au}(h:iu e=true):lM e:=by
 intro o i;cases e<;>first | rfl | cases h
theorem LZ{e:au}(h:LY e=true)(env:Env)(ja:Sem aq):isTrue e env ja=(do let v <-ja;standAt e.pos;holding [v] (truthy v)):=by
 cases e with
 | UnaryOp op a p=>cases op<;>first | rfl | cases h
 | BoolOp _ _ _=>cases h
 | IfExp _ _ _ _=>cases h
 | Compare _ _ _ _=>cases h
 | _=>rfl
theorem gB{e:au}(h:pX e=true)(t:Option au)(l:Nat)(env:Env):swapsWith e t l env=pure false:=by
 cases e<;>first | rfl | cases h
theorem ig{es:List au}(h:es.all cw=true)(env:Env)(pos:Pos):(backTo pos (starEach es env)).any (·.1)=false:=by
 induction es with
 | nil=>rfl
 | cons e es ih =>
  rw[fI,aO]at h;rw[bh h.1];exact ih h.2
noncomputable def qZ:Nat->Gm->au->Option (fz×List Nat)
 | 0,_,_=>none
 | n+1,Γ,e=>match e with
  | .Name x _=>if B8 Γ x=true then(slot Γ x).map λi=>(ak i,[i])else none
  | .Tuple es _ _=>(es.foldr (λe r=>(qZ n Γ e).bind λg=>r.map λgs=>(aw g.1 gs.1,g.2++gs.2)) (some (cx,[]))).map λgs=>(cC es.length gs.1,gs.2)
  | _=>none
theorem L0{Γ:Gm}{x:Str}{i:Nat}(h:slot Γ x=some i):Γ.N[i]?=some x:=by
 unfold slot at h;obtain⟨hi,hp,_⟩:=Jw.mp h;rw[dG hi];exact dy some (bO hp)
section
variable {Γ:Gm} {X:Cx} {x:Str} {pos:Pos}
theorem GOk.L1(G:GOk Γ X)(h:vG Γ x=true):VZ X.env.scope x:=by
 unfold vG at h;unfold VZ;rw[G.names];split at h<;>simp_all
theorem GOk.U1(G:GOk Γ X)(h:B8 Γ x=true):Rq X.env.scope x/\(X.fn x=true\/X.env.scope.names.lookup x=some .local):=by
 unfold B8 at h;unfold Rq;rw[G.names];split at h
 ·rename_i z;exact⟨.inl z,.inr z⟩
 ·rename_i z;exact⟨.inr z,.inl (G.own h x)⟩
 ·cases h
theorem GOk.kx(G:GOk Γ X)(h:zq Γ x=true):Gl X x:=by
 unfold zq at h;show X.env.scope.names.lookup x=_;rw[G.names];split at h
 ·assumption
 ·cases h
theorem GOk.jN(G:GOk Γ X){i:Nat}(h:slot Γ x=some i):X.N[i]?=some x:=by
 rw[G.N];exact L0 h
theorem j4(G:GOk Γ X):∀(n:Nat) (e:au) (g:fz×List Nat),qZ n Γ e=some g->(∀H₀ ab:Hp,PG X e (tG X.K H₀ ab g.1))/\KG g.2 g.1/\(∀env:Env,(assignEach [e] env).map (·.2)=[assign e env])/\∀(es:List au) (env:Env),assignEach (e::es) env=(false,assign e env)::assignEach es env
 | 0,_,_,h=>by cases h
 | n+1,e,g,h=>by
  cases e with
  | Name x p =>
   have h:(if B8 Γ x=true then(slot Γ x).map λi=>(ak i,[i])else none)=some g:=h
   obtain⟨hs,h⟩:=aF h;cases z:slot Γ x with
   | none=>rw[z]at h;cases h
   | some i =>
    rw[z]at h;cases h;obtain⟨h1,h2⟩:=G.U1 hs;exact⟨λH₀ ab=>T4 i (E9 G.nd (G.jN z) h1 h2),OP i,λ_=>rfl,λ_ _=>rfl⟩
  | Tuple es k p =>
   have all:∀(es:List au) (gs:(ay->aG->Option aG)×List Nat),es.foldr (λe r=>(qZ n Γ e).bind λg=>r.map λgs=>(aw g.1 gs.1,g.2++gs.2)) (some (cx,[]))=some gs ->
     (∀H₀ ab:Hp,Jo X es (XF X.K H₀ ab gs.1))/\XQ gs.2 gs.1/\∀env:Env,(assignEach es env).length=es.length/\(assignEach es env).findIdx? (·.1)=none:=by
    intro es;induction es with
    | nil =>
     intro gs h;cases h;exact⟨λH₀ ab=>T5,OQ,λenv=>⟨rfl,rfl⟩⟩
    | cons e es ih =>
     intro gs h;rw[List.foldr_cons]at h;obtain⟨g1,e1,h⟩:=ax h;cases z:es.foldr (λe r=>(qZ n Γ e).bind λg=>r.map λgs=>(aw g.1 gs.1,g.2++gs.2)) (some (cx,[]))with
     | none=>rw[z]at h;cases h
     | some g2 =>
      rw[z]at h;cases h;obtain⟨a1,a2,a3,a4⟩:=j4 G n e g1 e1;obtain⟨b1,b2,b3⟩:=ih g2 z;refine⟨λH₀ ab=>OL (a1 H₀ ab) (b1 H₀ ab) (by rw[a4];rfl),KO a2 b2,λenv=>?_⟩
      rw[a4];obtain⟨c1,c2⟩:=b3 env;exact⟨by rw[bt,bt,c1],by rw[List.findIdx?_cons];simp[c2]⟩
   have h:(es.foldr (λe r=>(qZ n Γ e).bind λg=>r.map λgs=>(aw g.1 gs.1,g.2++gs.2)) (some (cx,[]))).map (λgs=>(cC es.length gs.1,gs.2))=some g:=h
   cases z:es.foldr (λe r=>(qZ n Γ e).bind λg=>r.map λgs=>(aw g.1 gs.1,g.2++gs.2)) (some (cx,[]))with
   | none=>rw[z]at h;cases h
   | some gs =>
    rw[z]at h;cases h;obtain⟨b1,b2,b3⟩:=all es gs z;exact⟨λH₀ ab=>XG G.calm (b1 H₀ ab) (b3 _).1 (b3 _).2,T6 b2,λ_=>rfl,λ_ _=>rfl⟩
  | _=>cases h
end
def DU(x:Str):Option (ay->bU) :=
 if x==("len":Str)then some cJ
 else if x==("tuple":Str)then some mi
 else if x==("list":Str)then some K3
 else if x==("int":Str)then some xP
 else if x==("sum":Str)then some DB
 else if x==("str":Str)then some Az
 else none
noncomputable def yh(x:Str):List au->Option (Str×List au)
 | [.Call (.Name z _) [.List l _] [] _]=>if(x==("sorted":Str)&&z==("set":Str))=true then some (z,l)else none
 | _=>none
theorem yi{x:Str}{es:List au}{z:Str}{l:List au}(h:yh x es=some (z,l)):x="sorted"/\z="set"/\∃p lp pos,es=[.Call (.Name z p) [.List l lp] [] pos]:=by
 unfold yh at h;split at h
 ·split at h
  ·rename_i hc;cases h;rw[aO]at hc;exact⟨bO hc.1,bO hc.2,_,_,_,rfl⟩
  ·cases h
 ·cases h
noncomputable def yj(x:Str):List au->Option (Str×au×List au)
 | [.Call (.Name z _) (b::bs) [] _]=>if(x==("list":Str)&&z==("range":Str))=true then some (z,b,bs)else none
 | _=>none
theorem yk{x:Str}{es:List au}{z:Str}{b:au}{bs:List au}(h:yj x es=some (z,b,bs)):x="list"/\z="range"/\∃p pos,es=[.Call (.Name z p) (b::bs) [] pos]:=by
 unfold yj at h;split at h
 ·split at h
  ·rename_i hc;cases h;rw[aO]at hc;exact⟨bO hc.1,bO hc.2,_,_,rfl⟩
  ·cases h
 ·cases h
noncomputable def lq(scope:Scope):List Str:=(scope.names.filter λy=>match y.2 with | .local=>true | .free=>true | _=>false).map (·.1)
def fR(Γ:Gm)(scope:Scope):List (Option Nat):=(lq scope).map λx=>match scope.names.lookup x with | some .free=>slot Γ x | _=>none
noncomputable def DV(Γ:Gm)(scope:Scope):List (Str×NameKind):=scope.names.map fun(n,k)=>if(k==NameKind.free&&Γ.sc.lookup n==some .cell)then(n,NameKind.cell)else(n,k)
def qK(Γ:Gm)(scope:Scope):Gm:={Γ with sc:=DV Γ scope,N:=lq scope,chg:=[],own:=false,zm:=false}
def ym:ScopeKind->Bool
 | .function=>true
 | _=>false
def lr(Γ:Gm)(scope:Scope)(L:List Nat):Bool :=
 ym scope.kind&&scope.names.all (λy=>match y.2 with
  | .cell=>false
  | .local=>(match scope.names.lookup y.1 with | some .local=>true | _=>false)
  | .free=>(match Γ.sc.lookup y.1 with | some .cell=>true | some .free=>true | _=>false)
  | _=>true)&&decide (lq scope).Nodup&&L.all λi=>match(fR Γ scope)[i]? with | some none=>true | _=>false
noncomputable def yn:Arguments->Option (Str×Pos)
 | ⟨[],[⟨x,none,ap⟩],none,[],[],none,[]⟩=>some (x,ap)
 | _=>none
noncomputable def isFree(k:Option NameKind):Bool:=match k with | some .free=>true | _=>false
def yo(scope:Scope):List Str:=(scope.names.filter λy=>isFree (some y.2)).map (·.1)
def rA(Γ:Gm)(scope:Scope):List (Option Nat):=(yo scope).map (slot Γ)
def Yz(Γ:Gm)(x:Str)(scope:Scope):Gm:={Γ with sc:=scope.names,N:=x::yo scope,chg:=[],own:=false,zm:=false,cls:=[]}
def L3(Γ:Gm)(x:Str)(scope:Scope):Bool :=
 ym scope.kind&&!scope.isCoroutine&&!scope.isGenerator&&(match scope.names.lookup x with | some .local=>true | _=>false)&&scope.names.all (λy=>match y.2 with
  | .cell=>false
  | .free=>(match Γ.sc.lookup y.1 with | some .cell=>true | some .free=>true | _=>false)&&isFree (scope.names.lookup y.1)
  | _=>true)&&decide (x::yo scope).Nodup
def L5(Γ:Gm)(x:Str)(f:FE):FE:=if(x==("len":Str)&&!Γ.chg.isEmpty)=true then eV f else f
theorem Qf{Γ:Gm}{X:Cx}{x:Str}{e:au}{f:FE}{H₀ ab:Hp}(h:PE X e (tE X.K H₀ ab f)):PE X e (tE X.K H₀ ab (L5 Γ x f)):=by
 unfold L5;split
 ·exact KR h
 ·exact h
def isQ:au->Bool
 | .Attribute _ _ _=>true
 | .Call (.Name _ _) (_::_) [] _=>true
 | .Call (.Subscript _ _ _) (_::_) [] _=>true
 | .Subscript (.Name _ _) _ _=>true
 | _=>false
def F8:au->Option (Option au×Option au)
 | .Slice lo hi none _=>some (lo,hi)
 | _=>none
theorem yq{e:au}{lo hi:Option au}(h:F8 e=some (lo,hi)):∃p,e=.Slice lo hi none p:=by
 cases e<;>first | (cases h;done) | skip
 rename_i a b c p;cases c<;>first | (cases h;done) | skip
 cases h;exact⟨p,rfl⟩
def rB(Γ:Gm):au->Option Nat
 | .Name y _=>if(di y&&vG Γ y&&Γ.dct.contains y)=true then slot Γ y else none
 | _=>none
mutual
noncomputable def cP:Nat->Gm->au->Option FE
 | 0,_,_=>none
 | n+1,Γ,e=>match(match isQ e with | true=>Qg n Γ e | false=>none)with | some f=>some f | none=>match e with
  | .Constant (.int i) _ _=>some λ_=>some (.int i)
  | .Constant (.bool i) _ _=>some λ_=>some (.bl i)
  | .Constant .none _ _=>some λ_=>some .cE
  | .Constant (.str i) _ _=>some λ_=>some (.str i)
  | .Name x _=>if di x=true then(if vG Γ x=true then(slot Γ x).map rd else if zq Γ x=true then(Γ.cons.lookup x).map λp=>λ_=>some p else none)else none
  | .BinOp a op b _=>(T9 op).bind λg=>(cP n Γ a).bind λfa=>(cP n Γ b).map λfb=>af fa fb g
  | .UnaryOp .Not a _=>(cP n Γ a).map Hu
  | .UnaryOp .USub a _=>(cP n Γ a).map XW
  | .BoolOp op vs _=>L6 n Γ op vs
  | .Compare a [op] [b] _=>if cw b=true then(DA op).bind λg=>(cP n Γ a).bind λfa=>(cP n Γ b).map λfb=>af fa fb g else none
  | .Compare a [op,xu] [b,c] _=>if cw c=true then(DA op).bind λg=>(DA xu).bind λg'=>(cP n Γ a).bind λfa=>(cP n Γ b).bind λfb=>(cP n Γ c).map λfc=>chain fa fb fc g g' else none
  | .IfExp c a b _=>(u7 n Γ c).bind λgc=>(cP n Γ a).bind λfa=>(cP n Γ b).map λfb=>uT gc fa fb
  | .Tuple es _ _=>(m6 n Γ es).map aY
  | .List es _=>(m6 n Γ es).map λts=>bG (cB ts)
  | .Subscript a b _=>(match F8 b with
   | some (lo,hi)=>(cP n Γ a).bind λfa=>(Ie n Γ lo).bind λfl=>(Ie n Γ hi).map λfh=>cutE fa fl fh
   | none=>if iu b=true then(cP n Γ a).bind λfa=>(cP n Γ b).map λfb=>af fa fb aH else none)
  | .ListComp elt [⟨tg,iter,ifs,0⟩] scope _=>(L7 n Γ elt tg iter ifs scope).map bG
  | .Call (.Name x _) (a::es) [] _=>if(di x&&zq Γ x&&(a::es).all cw)=true then(match Γ.fns.lookup x with
    | some m=>(m6 n Γ (a::es)).map λts=>aD (aR m (Γ.call x)) ts
    | none=>if Γ.dR.contains x=true then(if x==("isinstance":Str)then L8 n Γ (a::es)else match yh x (a::es)with
     | some (z,l)=>if(zq Γ z&&Γ.dR.contains z)=true then(m6 n Γ l).map Lm else none
     | none=>match yj x (a::es)with
     | some (z,b,bs)=>if(zq Γ z&&Γ.dR.contains z&&(b::bs).all cw)=true then(m6 n Γ (b::bs)).map λts=>bG (lrg ts)else none
     | none=>(DU x).bind λg=>(m6 n Γ (a::es)).map λts=>L5 Γ x (b6 g ts))else none)else none
  | .Call (.Subscript (.Name T _) ke _) (a::es) [] _=>if(di T&&zq Γ T&&iu ke&&(a::es).all cw)=true then(Γ.tabs.lookup T).bind λb8=>(cP n Γ ke).bind λfk=>(m6 n Γ (a::es)).map λts=>HM b8 Γ.fns Γ.call fk ts else none
  | _=>none
noncomputable def Qg:Nat->Gm->au->Option FE
 | 0,_,_=>none
 | n+1,Γ,e=>match e with
  | .Call (.Name x _) (a::es) [] _=>F9 n Γ x a es
  | .Subscript (.Name T _) ke _=>if(di T&&iu ke)=true then(if(vG Γ T&&Γ.Ro.contains T)=true then(slot Γ T).bind λi=>(cP n Γ ke).map λfk=>getD i fk else if(vG Γ T&&Γ.chg.contains T)=true then(slot Γ T).bind λi=>(cP n Γ ke).map λfk=>Yl i fk else none)else none
  | _=>none
noncomputable def F9:Nat->Gm->Str->au->List au->Option FE
 | 0,_,_,_,_=>none
 | n+1,Γ,x,a,es=>match es with
  | [.Lambda args body scope _]=>if(x==("spread":Str)&&zq Γ x&&Γ.zm&&cw a)=true then(yn args).bind λxa=>if L3 Γ xa.1 scope=true then(cP n Γ a).bind λfe=>(cP n (Yz Γ xa.1 scope) body).map λfb=>bG (lU fe fb (rA Γ scope))else none else none
  | []=>if(x==("len":Str)&&zq Γ x&&Γ.dR.contains x)=true then(rB Γ a).map LU else none
  | [b,d]=>if(di x&&zq Γ x&&cw a&&cw b)=true then(Γ.AU.lookup x).bind λm=>(rB Γ d).bind λi=>(cP n Γ a).bind λf1=>(cP n Γ b).map λf2=>mZ (HX m (Γ.nV x)) i f1 f2 else none
  | _=>none
noncomputable def L9:Nat->Gm->au->Option V7
 | 0,_,_=>none
 | n+1,Γ,e=>none
noncomputable def u7:Nat->Gm->au->Option eY
 | 0,_,_=>none
 | n+1,Γ,e=>match e with
  | .UnaryOp .Not a _=>(u7 n Γ a).map gP
  | .BoolOp op vs _=>Ma n Γ op vs
  | .Compare a [op] [b] _=>match rB Γ b with
   | some i=>(Yw op).bind λq=>(cP n Γ a).map λfk=>inB q i fk
   | none=>if cw b=true then(DA op).bind λg=>(cP n Γ a).bind λfa=>(cP n Γ b).map λfb=>toB (af fa fb g)else none
  | .Compare a [op,xu] [b,c] _=>if cw c=true then(DA op).bind λg=>(DA xu).bind λg'=>(cP n Γ a).bind λfa=>(cP n Γ b).bind λfb=>(cP n Γ c).map λfc=>toB (chain fa fb fc g g')else none
  | e=>if LY e=true then(cP n Γ e).map toB else none
noncomputable def L6:Nat->Gm->BoolOp->List au->Option FE
 | 0,_,_,_=>none
 | n+1,Γ,op,[a]=>cP n Γ a
 | n+1,Γ,.And,a::b::r=>(cP n Γ a).bind λfa=>(L6 n Γ .And (b::r)).map λfb=>uS fa fb
 | n+1,Γ,.Or,a::b::r=>(cP n Γ a).bind λfa=>(L6 n Γ .Or (b::r)).map λfb=>X4 fa fb
 | _,_,_,_=>none
noncomputable def Ma:Nat->Gm->BoolOp->List au->Option eY
 | 0,_,_,_=>none
 | n+1,Γ,op,[a]=>u7 n Γ a
 | n+1,Γ,.And,a::b::r=>(u7 n Γ a).bind λfa=>(Ma n Γ .And (b::r)).map λfb=>gU fa fb
 | n+1,Γ,.Or,a::b::r=>(u7 n Γ a).bind λfa=>(Ma n Γ .Or (b::r)).map λfb=>Fq fa fb
 | _,_,_,_=>none
noncomputable def m6:Nat->Gm->List au->Option bP
 | 0,_,_=>none
 | n+1,Γ,[]=>some ai
 | n+1,Γ,e::es=>if cw e=true then(cP n Γ e).bind λf=>(m6 n Γ es).map λfs=>aa f fs else none
noncomputable def Ie:Nat->Gm->Option au->Option FO
 | 0,_,_=>none
 | n+1,Γ,none=>some Pb
 | n+1,Γ,some e=>(cP n Γ e).map kl
noncomputable def L8:Nat->Gm->List au->Option FE
 | 0,_,_=>none
 | n+1,Γ,[a,.Name t _]=>if(di t&&zq Γ t&&Γ.dR.contains t)=true then(FF t).bind λg=>(cP n Γ a).map λfa=>Jq g fa else none
 | _,_,_=>none
noncomputable def Mb:Nat->Gm->au->au->Option bP
 | 0,_,_,_=>none
 | n+1,Γ,tg,e=>match e with
  | .Call (.Name x _) [a] [] _=>if(x==("range":Str)&&zq Γ x&&Γ.dR.contains x&&cw a)=true then(m6 n Γ [a]).map gF
    else if(x==("enumerate":Str)&&zq Γ x&&Γ.dR.contains x&&cw a&&RY tg)=true then(cP n Γ a).map km
    else(cP n Γ e).map cF
  | .Call (.Name x _) [a,b] [] _=>if(x==("range":Str)&&zq Γ x&&Γ.dR.contains x&&cw a&&cw b)=true then(m6 n Γ [a,b]).map wm else(cP n Γ e).map cF
  | e=>if cw e=true then(cP n Γ e).map cF else none
noncomputable def L7:Nat->Gm->au->au->au->List au->Scope->Option bP
 | 0,_,_,_,_,_,_=>none
 | n+1,Γ,elt,tg,iter,ifs,scope=>if cw iter=true then(Mb n Γ tg iter).bind λfi=>(qZ n (qK Γ scope) tg).bind λg=>if lr Γ scope g.2=true then(match ifs with
   | []=>(cP n (qK Γ scope) elt).map λfe=>dB (fR Γ scope) fi g.1 fe
   | [c]=>(u7 n (qK Γ scope) c).bind λft=>(cP n (qK Γ scope) elt).map λfe=>er (fR Γ scope) fi g.1 ft fe
   | _=>none)else none else none
end
theorem fU{x:Str}(h:di x=true):(x==("__debug__":Str))=false/\(x==("__classdict__":Str))=false/\x≠"__name__":=by
 unfold di at h;simp only[aO,Bool.not_eq_true']at h;exact⟨h.1.1,h.1.2,by simpa using h.2⟩
theorem aA{α β:Type}{o:Option α}{f:α->β}{b:β}(h:o.map f=some b):∃a,o=some a/\f a=b:=by
 cases o with
 | none=>cases h
 | some a=>exact⟨a,rfl,bM h⟩
theorem t7{Γ:Gm}{X:Cx}{e:au}{i:Nat}(G:GOk Γ X)(h:rB Γ e=some i):∃y yp,e=.Name y yp/\∀p,PE X (.Name y p) (jY i):=by
 cases e<;>first | cases h;done | skip
 rename_i y yp;obtain⟨hc,h1⟩:=aF (show(if(di y&&vG Γ y&&Γ.dct.contains y)=true then slot Γ y else none)=some i from h)
 simp only[aO]at hc;exact⟨y,yp,rfl,λp=>pe_var (G.jN h1) (G.L1 hc.1.2) (fU hc.1.1).1 (fU hc.1.1).2.1⟩
structure Snd (n:Nat):Prop where
 e:∀Γ X e f,GOk Γ X->cP n Γ e=some f->∀H₀ ab,PE X e (tE X.K H₀ ab f)
 q:∀Γ X e f,GOk Γ X->Qg n Γ e=some f->∀H₀ ab,PE X e (tE X.K H₀ ab f)
 sp:∀Γ X x a es f p pos,GOk Γ X->F9 n Γ x a es=some f->∀H₀ ab,PE X (.Call (.Name x p) (a::es) [] pos) (tE X.K H₀ ab f)
 ob:∀Γ X e f,GOk Γ X->L9 n Γ e=some f->∀H₀ ab,PE X e (tO X.K H₀ ab f)
 t:∀Γ X e f,GOk Γ X->u7 n Γ e=some f->∀H₀ ab,PT X e (tT X.K H₀ ab f)
 b:∀Γ X op vs f pos,GOk Γ X->L6 n Γ op vs=some f->∀H₀ ab,PE X (.BoolOp op vs pos) (tE X.K H₀ ab f)
 w:∀Γ X op vs f pos,GOk Γ X->Ma n Γ op vs=some f->∀H₀ ab,PW X (.BoolOp op vs pos) (tT X.K H₀ ab f)
 a:∀Γ X es f,GOk Γ X->m6 n Γ es=some f->(∀H₀ ab,PA X es (tA X.K H₀ ab f))/\es.all cw=true
 o:∀Γ X e f,GOk Γ X->Ie n Γ e=some f->∀H₀ ab,PO X e (Au X.K H₀ ab f)
 is:∀Γ X es f p pos,GOk Γ X->L8 n Γ es=some f->zq Γ "isinstance"=true->Γ.dR.contains "isinstance"=true->es.all cw=true->∀H₀ ab,PE X (.Call (.Name "isinstance" p) es [] pos) (tE X.K H₀ ab f)
 i:∀Γ X tg e f,GOk Γ X->Mb n Γ tg e=some f->(∀H₀ ab,PI X tg e (tI X.K H₀ ab f))/\∀x,foldedSetIterable e X.env x=pure x
 c:∀Γ X elt tg iter ifs scope f,GOk Γ X->L7 n Γ elt tg iter ifs scope=some f->(∀H₀ ab pos,PE X (.ListComp elt [⟨tg,iter,ifs,0⟩] scope pos) (tF X.K H₀ ab f)) /\
  ∀H₀ ab i x pos ib uU,X.N[i]?=some x->X.env.scope.names.lookup x=some .local->swapsWith (.ListComp elt [⟨tg,iter,ifs,0⟩] scope pos) (some (.Name x ib)) uU.line X.env=pure true ->
   ∃t:TE,(∀σ H Q,tF X.K H₀ ab f σ H Q->t σ H Q)/\PS X (.Assign [.Name x ib] (.ListComp elt [⟨tg,iter,ifs,0⟩] scope pos) uU) (nN t (gName i))
set_option maxHeartbeats 4000000 in
theorem U2{X:Cx}{x:Str}{g:ay->bU}{a:au}{es:List au}{ts:bP}{p pos:Pos}{H₀ ab:Hp}(h:DU x=some g)(hc:X.calm=true)(hh:X.A.handled=none)(hg:Gl X x)(hm:X.mg x=none)(ha:PA X (a::es) (tA X.K H₀ ab ts))
  (he:starEach (a::es) X.env=(false,eval a X.env)::starEach es X.env) (pH:(backTo pos (starEach es X.env)).any (·.1)=false):PE X (.Call (.Name x p) (a::es) [] pos) (tE X.K H₀ ab (b6 g ts)):=by
 unfold DU at h;split at h
 ·rename_i e;cases h;have e:=bO e;subst e;exact(kR HF hg hm PySem.boot_len ha (by decide) (by decide) he pH).imp λ_ _ _ h=>lO h
 ·split at h
  ·rename_i e;cases h;have e:=bO e;subst e;exact(jJ (T:="tuple") HG hg hm (j3 .tuple) ha (by decide) (by decide) he pH).imp λ_ _ _ h=>lO h
  ·split at h
   ·rename_i e;cases h;have e:=bO e;subst e;exact(jJ (T:="list") HH hg hm (j3 .list) ha (by decide) (by decide) he pH).imp λ_ _ _ h=>lO h
   ·split at h
    ·rename_i e;cases h;have e:=bO e;subst e;exact(jJ (T:="int") HI hg hm (j3 .int) ha (by decide) (by decide) he pH).imp λ_ _ _ h=>lO h
    ·split at h
     ·rename_i e;cases h;have e:=bO e;subst e;exact(kR (id:="sum") (HJ hh) hg hm boot_sum ha (by decide) (by decide) he pH).imp λ_ _ _ h=>lO h
     ·split at h
      ·rename_i e;cases h;have e:=bO e;subst e;exact(jJ (T:="str") HR hg hm (j3 .str) ha (by decide) (by decide) he pH).imp λ_ _ _ h=>lO h
      ·cases h
section
variable {Γ:Gm} {X:Cx} {scope:Scope} {L:List Nat}
theorem lu(h:lr Γ scope L=true):scope.kind=.function/\(∀y∈scope.names,(match y.2 with
  | .cell=>false
  | .local=>(match scope.names.lookup y.1 with | some .local=>true | _=>false)
  | .free=>(match Γ.sc.lookup y.1 with | some .cell=>true | some .free=>true | _=>false)
  | _=>true)=true)/\(lq scope).Nodup/\∀i∈L,(fR Γ scope)[i]?=some none:=by
 unfold lr at h;simp only[aO,eU,jo]at h;obtain⟨⟨⟨h1,h2⟩,h3⟩,h4⟩:=h;refine⟨?_,h2,h3,λi hi=>?_⟩
 ·unfold ym at h1;split at h1
  ·assumption
  ·cases h1
 ·have:=h4 i hi;split at this
  ·assumption
  ·cases this
theorem t8(G:GOk Γ X)(h:lr Γ scope L=true):gV X (lq scope) (fR Γ scope) scope:=by
 obtain⟨h1,h2,h3,h4⟩:=lu h;refine⟨h1,λy hy z=>?_,λy hy z=>?_,λy hy z=>?_,by unfold fR;rw[aB],λi j x hl hx=>?_⟩
 ·have:=h2 y hy;rw[z]at this;cases this
 ·have:=h2 y hy;rw[z]at this;simp only at this;split at this
  ·assumption
  ·cases this
 ·have:=h2 y hy;rw[z]at this;simp only at this;show X.env.scope.names.lookup y.1=_\/X.env.scope.names.lookup y.1=_;rw[G.names];split at this
  ·exact .inl (by assumption)
  ·exact .inr (by assumption)
  ·cases this
 ·unfold fR at hl;rw[cm,hx]at hl;have hl:(match scope.names.lookup x with | some .free=>slot Γ x | _=>none)=some j:=bM hl
  split at hl
  ·exact⟨G.jN hl,by assumption⟩
  ·cases hl
theorem AV(G:GOk Γ X)(h:lr Γ scope L=true)(C:ae)(s:az)(H:Hp)(fp:List ae):GOk (qK Γ scope) (de X (lq scope) scope C s H fp) where
 names:=by
  show(relabel scope X.env).names=DV Γ scope;have e:∀n,X.env.kindOf n=Γ.sc.lookup n:=λn=>by show X.env.scope.names.lookup n=_;rw[G.names]
  unfold DV relabel;simp only[G.kind,e]
  congr 1
  funext y
  obtain⟨n,k⟩:=y;simp
 N:=rfl
 nd:=(lu h).2.2.1
 kind:=by
  show(relabel scope X.env).kind=_;exact(lu h).1
 calm:=G.calm
 hd:=G.hd
 un:=G.un
 own:=λz=>by cases z
 fns:=G.fns
 cons:=G.cons
 dR:=G.dR
 excs:=G.excs
 subs:=G.subs
 tabs:=G.tabs
 u6:=⟨G.u6.AU,G.u6.ns,G.u6.cls,G.u6.gz,λz=>by cases z⟩
end
theorem Mc:Snd 0 where
 e:=λ_ _ _ _ _ h=>by cases h
 q:=λ_ _ _ _ _ h=>by cases h
 sp:=λ_ _ _ _ _ _ _ _ _ h=>by cases h
 ob:=λ_ _ _ _ _ h=>by cases h
 t:=λ_ _ _ _ _ h=>by cases h
 b:=λ_ _ _ _ _ _ _ h=>by cases h
 w:=λ_ _ _ _ _ _ _ h=>by cases h
 a:=λ_ _ _ _ _ h=>by cases h
 o:=λ_ _ _ _ _ h=>by cases h
 is:=λ_ _ _ _ _ _ _ h=>by cases h
 i:=λ_ _ _ _ _ _ h=>by cases h
 c:=λ_ _ _ _ _ _ _ _ _ h=>by cases h
section
variable {n:Nat} (S:Snd n)
include S
theorem YA(Γ:Gm)(X:Cx)(op:BoolOp)(vs:List au)(f:FE)(pos:Pos)(G:GOk Γ X)(h:L6 (n+1) Γ op vs=some f)(H₀ ab:Hp):PE X (.BoolOp op vs pos) (tE X.K H₀ ab f):=by
 match op,vs,h with
 | op,[a],h=>exact S5 (S.e Γ X a f G h H₀ ab)
 | .And,a::b::r,h =>
  obtain⟨fa,h1,h⟩:=ax h;obtain⟨fb,h2,rfl⟩:=aA h;exact XB (S.e Γ X a fa G h1 H₀ ab) (S.b Γ X .And (b::r) fb pos G h2 H₀ ab)
 | .Or,a::b::r,h =>
  obtain⟨fa,h1,h⟩:=ax h;obtain⟨fb,h2,rfl⟩:=aA h;exact X5 (S.e Γ X a fa G h1 H₀ ab) (S.b Γ X .Or (b::r) fb pos G h2 H₀ ab)
theorem YB(Γ:Gm)(X:Cx)(op:BoolOp)(vs:List au)(f:eY)(pos:Pos)(G:GOk Γ X)(h:Ma (n+1) Γ op vs=some f)(H₀ ab:Hp):PW X (.BoolOp op vs pos) (tT X.K H₀ ab f):=by
 match op,vs,h with
 | .And,[a],h=>exact TV (S.t Γ X a f G h H₀ ab)
 | .Or,[a],h=>exact Xy (S.t Γ X a f G h H₀ ab)
 | .And,a::b::r,h =>
  obtain⟨fa,h1,h⟩:=ax h;obtain⟨fb,h2,rfl⟩:=aA h;exact Xz (S.t Γ X a fa G h1 H₀ ab) (S.w Γ X .And (b::r) fb pos G h2 H₀ ab)
 | .Or,a::b::r,h =>
  obtain⟨fa,h1,h⟩:=ax h;obtain⟨fb,h2,rfl⟩:=aA h;exact acI (S.t Γ X a fa G h1 H₀ ab) (S.w Γ X .Or (b::r) fb pos G h2 H₀ ab)
theorem YC(Γ:Gm)(X:Cx)(es:List au)(f:bP)(G:GOk Γ X)(h:m6 (n+1) Γ es=some f):(∀H₀ ab,PA X es (tA X.K H₀ ab f))/\es.all cw=true:=by
 match es,h with
 | [],h =>
  cases h;exact⟨λ_ _=>vS,rfl⟩
 | e::es,h =>
  obtain⟨hp,h⟩:=aF h;obtain⟨fa,h1,h⟩:=ax h;obtain⟨fb,h2,rfl⟩:=aA h;obtain⟨k1,k2⟩:=S.a Γ X es fb G h2;exact⟨λH₀ ab=>pJ (S.e Γ X e fa G h1 H₀ ab) (k1 H₀ ab) (bh hp _ _),by rw[fI,hp,k2];rfl⟩
theorem YD(Γ:Gm)(X:Cx)(e:Option au)(f:FO)(G:GOk Γ X)(h:Ie (n+1) Γ e=some f)(H₀ ab:Hp):PO X e (Au X.K H₀ ab f):=by
 match e,h with
 | none,h=>cases h;exact K1
 | some e,h =>
  obtain⟨fa,h1,rfl⟩:=aA h;exact K2 (S.e Γ X e fa G h1 H₀ ab)
theorem U3(Γ:Gm)(X:Cx)(es:List au)(f:FE)(p pos:Pos)(G:GOk Γ X)(h:L8 (n+1) Γ es=some f)(hg:zq Γ "isinstance"=true)(hb:Γ.dR.contains "isinstance"=true)(hp:es.all cw=true)(H₀ ab:Hp):PE X (.Call (.Name "isinstance" p) es [] pos) (tE X.K H₀ ab f):=by
 rcases es with _ | ⟨a,_ | ⟨b,_ | ⟨c,r⟩⟩⟩
 ·cases h
 ·cases h
 ·cases b<;>first | (cases h;done) | skip
  rename_i t p2;obtain⟨hc,h⟩:=aF h;obtain⟨g,h1,h⟩:=ax h;obtain⟨fa,h2,rfl⟩:=aA h;simp only[aO]at hc;rw[fI,aO]at hp;exact acZ h1 (G.kx hg) (G.dR _ hb) (G.kx hc.1.2) (G.dR _ hc.2) (S.e Γ X a fa G h2 H₀ ab) λes=>bh hp.1 es _
 ·cases b<;>cases h
theorem YE(Γ:Gm)(X:Cx)(elt tg iter:au)(ifs:List au)(scope:Scope)(f:bP)(G:GOk Γ X)(h:L7 (n+1) Γ elt tg iter ifs scope=some f):(∀H₀ ab pos,PE X (.ListComp elt [⟨tg,iter,ifs,0⟩] scope pos) (tF X.K H₀ ab f)) /\
  ∀H₀ ab i x pos ib uU,X.N[i]?=some x->X.env.scope.names.lookup x=some .local->swapsWith (.ListComp elt [⟨tg,iter,ifs,0⟩] scope pos) (some (.Name x ib)) uU.line X.env=pure true ->
   ∃t:TE,(∀σ H Q,tF X.K H₀ ab f σ H Q->t σ H Q)/\PS X (.Assign [.Name x ib] (.ListComp elt [⟨tg,iter,ifs,0⟩] scope pos) uU) (nN t (gName i)):=by
 obtain⟨hp,h⟩:=aF h;obtain⟨fi,h1,h⟩:=ax h;obtain⟨g,h2,h⟩:=ax h;obtain⟨hc,h⟩:=aF h;have SC:=t8 G hc;have hL:=(lu hc).2.2.2;have GK:=AV G hc;obtain⟨i1,i2⟩:=S.i Γ X tg iter fi G h1;have hg:∀(C:ae) (s:az) (H:Hp) (fp:List ae) (H₀ ab:Hp),PG (de X (lq scope) scope C s H fp) tg (tG X.K H₀ ab g.1):=λC s H fp H₀ ab=>(j4 (GK C s H fp) n tg g h2).1 H₀ ab
 have kg:KG g.2 g.1:=(j4 (GK 0 X.s₀ X.H₀ []) n tg g h2).2.1
 match ifs,h with
 | [],h =>
  obtain⟨fe,h3,rfl⟩:=aA h;have he:∀(C:ae) (s:az) (H:Hp) (fp:List ae) (H₀ ab:Hp),PE (de X (lq scope) scope C s H fp) elt (tE X.K H₀ ab fe):=λC s H fp H₀ ab=>S.e _ _ elt fe (GK C s H fp) h3 H₀ ab
  refine⟨λH₀ ab pos=>T7 G.calm SC (i1 H₀ ab) kg hL hg he i2,λH₀ ab i x pos ib uU hx hl hw=>⟨_,λσ H Q h=>k0 kg hL h,xJ G.calm G.nd hx hl SC (i1 H₀ ab) (λC s H fp=>tK λb:Hp×Hp=>tJ (hg C s H fp b.1 b.2) (he C s H fp b.1 b.2)) hw i2⟩⟩
 | [c],h =>
  obtain⟨ft,h4,h⟩:=ax h;obtain⟨fe,h3,rfl⟩:=aA h;have he:∀(C:ae) (s:az) (H:Hp) (fp:List ae) (H₀ ab:Hp),PE (de X (lq scope) scope C s H fp) elt (tE X.K H₀ ab fe):=λC s H fp H₀ ab=>S.e _ _ elt fe (GK C s H fp) h3 H₀ ab
  have ht:∀(C:ae) (s:az) (H:Hp) (fp:List ae) (H₀ ab:Hp),PT (de X (lq scope) scope C s H fp) c (tT X.K H₀ ab ft):=λC s H fp H₀ ab=>S.t _ _ c ft (GK C s H fp) h4 H₀ ab
  refine⟨λH₀ ab pos=>OR G.calm SC (i1 H₀ ab) kg hL hg ht he i2,λH₀ ab i x pos ib uU hx hl hw=>⟨_,λσ H Q h=>mr kg hL h,xJ G.calm G.nd hx hl SC (i1 H₀ ab) (λC s H fp=>tK λb:Hp×Hp=>Fx (hg C s H fp b.1 b.2) (ht C s H fp b.1 b.2) (he C s H fp b.1 b.2)) hw i2⟩⟩
theorem YF(Γ:Gm)(X:Cx)(e:au)(f:eY)(G:GOk Γ X)(h:u7 (n+1) Γ e=some f)(H₀ ab:Hp):PT X e (tT X.K H₀ ab f):=by
 unfold u7 at h;split at h
 ·obtain⟨fa,h1,rfl⟩:=aA h;exact XA (S.t Γ X _ fa G h1 H₀ ab)
 ·exact(S.w Γ X _ _ f _ G h H₀ ab).pt
 ·split at h
  ·rename_i i hi;obtain⟨q,h1,h⟩:=ax h;obtain⟨fk,h2,rfl⟩:=aA h;obtain⟨y,yp,rfl,hy⟩:=t7 G hi;exact Yx h1 (by have:=G.un;lia) (S.e Γ X _ fk G h2 H₀ ab) (hy yp)
  obtain⟨hp,h⟩:=aF h;obtain⟨g,h1,h⟩:=ax h;obtain⟨fa,h2,h⟩:=ax h;obtain⟨fb,h3,rfl⟩:=aA h;exact Xw (lN G.un h1) nZ (S.e Γ X _ fa G h2 H₀ ab) (S.e Γ X _ fb G h3 H₀ ab) (jg hp _)
 ·obtain⟨hp,h⟩:=aF h;obtain⟨g,h1,h⟩:=ax h;obtain⟨g',XM,h⟩:=ax h;obtain⟨fa,h2,h⟩:=ax h;obtain⟨fb,h3,h⟩:=ax h;obtain⟨fc,h4,rfl⟩:=aA h;exact OH (lN G.un h1) nZ (lN G.un XM) nZ (S.e Γ X _ fa G h2 H₀ ab) (S.e Γ X _ fb G h3 H₀ ab) (S.e Γ X _ fc G h4 H₀ ab) (jg hp _)
 ·obtain⟨hp,h⟩:=aF h;obtain⟨fa,h1,rfl⟩:=aA h;exact Xx (S.e Γ X _ fa G h1 H₀ ab) λja=>LZ hp _ ja
end
theorem yr{args:Arguments}{xa:Str×Pos}(h:yn args=some xa):args=oneArg xa.1 xa.2:=by
 unfold yn at h;split at h
 ·cases h;rfl
 ·cases h
theorem Md{scope:Scope}{i:Nat}{y:Str}(h:(yo scope)[i]?=some y):(y,NameKind.free)∈scope.names:=by
 have hm:=cS h;unfold yo at hm;obtain⟨z,hz,rfl⟩:=bN.mp hm;obtain⟨h1,h2⟩:=gT.mp hz;obtain⟨n,k⟩:=z;cases k<;>first | exact h1 | cases h2
theorem Ig{k:Option NameKind}(h:isFree k=true):k=some .free:=by
 unfold isFree at h;split at h
 ·rfl
 ·cases h
theorem Ih{Γ:Gm}{X:Cx}{x:Str}{scope:Scope}(G:GOk Γ X)(h:L3 Γ x scope=true):tZ X x (yo scope) (rA Γ scope) scope/\(x::yo scope).Nodup:=by
 unfold L3 at h;simp only[aO]at h;obtain⟨⟨⟨⟨⟨h1,h2⟩,h3⟩,h4⟩,h5⟩,h6⟩:=h;have nS:=eU.mp h5;refine⟨⟨?_,by simpa using h2,by simpa using h3,?_,λy hy z=>?_,λy hy z=>?_,?_,λi j y e1 e2=>?_⟩,rW h6⟩
 ·unfold ym at h1;split at h1
  ·assumption
  ·cases h1
 ·split at h4
  ·assumption
  ·cases h4
 ·have:=nS y hy;rw[z]at this;cases this
 ·have:=nS y hy;rw[z]at this;simp only[aO]at this;have hk:X.env.kindOf y.1=Γ.sc.lookup y.1:=by show X.env.scope.names.lookup y.1=_;rw[G.names]
  rw[hk];have t:=this.1;split at t
  ·rename_i q;exact .inl q
  ·rename_i q;exact .inr q
  ·cases t
 ·unfold rA;rw[aB]
 ·have hm:=Md e2;have:=nS _ hm;simp only[aO]at this;refine⟨?_,Ig this.2⟩;unfold rA at e1;rw[cm,e2]at e1;exact G.jN (bM e1)
theorem Qh{Γ:Gm}{X:Cx}{x:Str}{scope:Scope}{k:Nat}(G:GOk Γ X)(hk:scope.kind=.function)(hn:(x::yo scope).Nodup)
  (hf:∀y n,Γ.fns.lookup y=some n->∃j f fd ps,j<=k/\FnOk X.prog X.w X.K X.mg X.base (kB X.prog X.w) j f fd ps (Dv X.K n (Γ.call y))/\X.mg y=some (.ref f)/\W.keepIn X.K (.ref f)=true/\fO X.K fd ps [])
  (ho:∀y n,Γ.AU.lookup y=some n->∃j f fd ps,j<=k/\FnOk X.prog X.w X.K X.mg X.base (kB X.prog X.w) j f fd ps (i0 X.K n (Γ.nV y))/\X.mg y=some (.ref f)/\W.keepIn X.K (.ref f)=true/\fO X.K fd ps [])
  {qual:Str} {fa:ae} {dI:aq} {cl:List (Str×ae)} {A:bY} {stack:List Env} {s:az} {H:Hp} {E:XK} (hr:eJ k (A.deeper (W.envX qual scope s.heap.objs.size fa dI cl))) :
  GOk (Yz Γ x scope) (V3 (kB X.prog X.w) X.prog X.w X.K X.mg X.base (x::yo scope) qual scope fa dI cl A stack s H E) where
 names:=rfl
 N:=rfl
 nd:=hn
 kind:=hk
 calm:=rfl
 hd:=hr.hd
 un:=by
  have:=hr.un;show(A.deeper _).units+1150<cLine
  lia
 own:=λz=>by cases z
 fns:=λy n e=>let ⟨j,f,fd,ps,h1,h2,h3,h4,h5⟩:=hf y n e;⟨j,f,fd,ps,h2,hr.mono h1,h3,h4,h5⟩
 cons:=G.cons
 dR:=G.dR
 excs:=G.excs
 subs:=G.subs
 tabs:=G.tabs
 u6:=⟨λy n e=>let ⟨j,f,fd,ps,h1,h2,h3,h4,h5⟩:=ho y n e;⟨j,f,fd,ps,h2,hr.mono h1,h3,h4,h5⟩,G.u6.ns,(λC n e=>by cases e),G.u6.gz,(λz=>by cases z)⟩
theorem eH{α:Type}{f:α}{C:Prop}(h:(none:Option α)=some f):C:=by cases h
theorem orQ{b:Bool}{q r:Option FE}{f:FE}(h:(match(match b with | true=>q | false=>none)with | some f=>some f | none=>r)=some f):q=some f\/r=some f:=by
 cases b
 ·exact .inr h
 ·cases q
  ·exact .inr h
  ·exact .inl h
section
variable {n:Nat} (S:Snd n)
include S
set_option maxHeartbeats 4000000 in
theorem YG(Γ:Gm)(X:Cx)(e:au)(f:FE)(G:GOk Γ X)(h:cP (n+1) Γ e=some f)(H₀ ab:Hp):PE X e (tE X.K H₀ ab f):=by
 replace h:=orQ h;rcases h with hq | h
 ·exact S.q Γ X _ f G hq H₀ ab
 cases e<;>try exact eH h
 case BoolOp op vs p =>
  dsimp only at h
  exact S.b Γ X _ _ f _ G h H₀ ab
 case BinOp a op b p =>
  dsimp only at h
  obtain⟨g,h1,h⟩:=ax h;obtain⟨fa,h2,h⟩:=ax h;obtain⟨fb,h3,rfl⟩:=aA h;exact Xu (O6 h1) nZ (S.e Γ X _ fa G h2 H₀ ab) (S.e Γ X _ fb G h3 H₀ ab)
 case UnaryOp op a p =>
  cases op<;>first | exact eH h | dsimp only at h
  ·obtain⟨fa,h1,rfl⟩:=aA h;exact XC (S.e Γ X _ fa G h1 H₀ ab)
  ·obtain⟨fa,h1,rfl⟩:=aA h;exact RV (S.e Γ X _ fa G h1 H₀ ab)
 case IfExp c a b p =>
  dsimp only at h
  obtain⟨gc,h1,h⟩:=ax h;obtain⟨fa,h2,h⟩:=ax h;obtain⟨fb,h3,rfl⟩:=aA h;exact acJ (S.t Γ X _ gc G h1 H₀ ab) (S.e Γ X _ fa G h2 H₀ ab) (S.e Γ X _ fb G h3 H₀ ab)
 case Compare a ops bs p =>
  rcases ops with _ | ⟨op,_ | ⟨op2,_ | ⟨op3,r⟩⟩⟩<;>rcases bs with _ | ⟨b,_ | ⟨c,_ | ⟨d,r2⟩⟩⟩<;>first | exact eH h | dsimp only at h
  ·obtain⟨hp,h⟩:=aF h;obtain⟨g,h1,h⟩:=ax h;obtain⟨fa,h2,h⟩:=ax h;obtain⟨fb,h3,rfl⟩:=aA h;exact Xv (lN G.un h1) nZ (S.e Γ X _ fa G h2 H₀ ab) (S.e Γ X _ fb G h3 H₀ ab) (jg hp _)
  ·obtain⟨hp,h⟩:=aF h;obtain⟨g,h1,h⟩:=ax h;obtain⟨g',XM,h⟩:=ax h;obtain⟨fa,h2,h⟩:=ax h;obtain⟨fb,h3,h⟩:=ax h;obtain⟨fc,h4,rfl⟩:=aA h;exact OG (lN G.un h1) nZ (lN G.un XM) nZ (S.e Γ X _ fa G h2 H₀ ab) (S.e Γ X _ fb G h3 H₀ ab) (S.e Γ X _ fc G h4 H₀ ab) (jg hp _)
 case Call fn args Ga p =>
  cases fn<;>try exact eH h
  case Name x px =>
   rcases args with _ | ⟨a,es⟩<;>rcases Ga with _ | ⟨kw,Ga⟩<;>first | exact eH h | dsimp only at h
   obtain⟨hc,h⟩:=aF h;simp only[aO]at hc;obtain⟨⟨hn,hg⟩,hp⟩:=hc;obtain⟨n1,n2,n3⟩:=fU hn;have HB:=hp;rw[fI,aO]at HB;split at h
   ·rename_i m hm;obtain⟨ts,h1,rfl⟩:=aA h;obtain⟨k,fa,fd,ps,F,hr,q1,q2,q3⟩:=G.fns _ m hm;exact TY F hr (G.kx hg) q1 q2 q3 ((S.a Γ X _ ts G h1).1 H₀ ab) n1 (bh HB.1 _ _) (ig HB.2 _ _)
   ·obtain⟨hb,h5⟩:=aF h;clear h;split at h5
    ·rename_i ex;have ex:=bO ex;subst ex;exact S.is Γ X _ f _ _ G h5 hg hb hp H₀ ab
    split at h5
    ·rename_i z l hz;obtain⟨hc,h6⟩:=aF h5;clear h5;rw[aO]at hc;obtain⟨rfl,rfl,p1,lp,adI,he⟩:=yi hz;cases he;obtain⟨ts,h1,rfl⟩:=aA h6;exact UD G.hd (G.kx hg) (G.dR _ hb) (G.kx hc.1) (G.dR _ hc.2) ((S.a Γ X _ ts G h1).1 H₀ ab)
    split at h5
    ·rename_i z b bs hz;obtain⟨hc,h6⟩:=aF h5;clear h5;simp only[aO]at hc;obtain⟨⟨z1,z2⟩,z3⟩:=hc;obtain⟨rfl,rfl,p1,adI,he⟩:=yk hz;cases he;obtain⟨ts,h1,rfl⟩:=aA h6;rw[fI,aO]at z3;exact Fp (Yj G.hd (G.kx hg) (G.dR _ hb) (G.kx z1) (G.dR _ z2) ((S.a Γ X _ ts G h1).1 H₀ ab) (bh z3.1 _ _) (ig z3.2 _ _))
    ·obtain⟨g,h1,h⟩:=ax h5;obtain⟨ts,h2,rfl⟩:=aA h;refine Qf ?_;exact U2 h1 G.calm G.hd (G.kx hg) (G.dR _ hb) ((S.a Γ X _ ts G h2).1 H₀ ab) (bh HB.1 _ _) (ig HB.2 _ _)
  case Subscript te ke px =>
   cases te<;>try exact eH h
   rename_i T pt;rcases args with _ | ⟨a,es⟩<;>rcases Ga with _ | ⟨kw,Ga⟩<;>first | exact eH h | dsimp only at h
   obtain⟨hc,h⟩:=aF h;simp only[aO]at hc;obtain⟨⟨⟨hn,hg⟩,hk⟩,hp⟩:=hc;obtain⟨n1,n2,n3⟩:=fU hn;have HB:=hp;rw[fI,aO]at HB;obtain⟨b8,h1,h⟩:=ax h;obtain⟨fk,h2,h⟩:=ax h;obtain⟨ts,h3,rfl⟩:=aA h;exact XZ (G.tabs _ b8 h1) G.fns (G.kx hg) (S.e Γ X _ fk G h2 H₀ ab) (ll hk) ((S.a Γ X _ ts G h3).1 H₀ ab) n1 (bh HB.1 _ _) (ig HB.2 _ _)
 case Constant c k p =>
  cases c<;>first | exact eH h | dsimp only at h
  ·cases h;exact Xr
  ·cases h;exact acH
  ·cases h;exact RN
  ·cases h;exact Xs
 case Subscript a b p =>
  dsimp only at h
  split at h
  ·rename_i lo hi hs;obtain⟨ps,rfl⟩:=yq hs;obtain⟨fa,h1,h⟩:=ax h;obtain⟨fl,h2,h⟩:=ax h;obtain⟨fh,h3,rfl⟩:=aA h;exact RU (S.e Γ X _ fa G h1 H₀ ab) (S.o Γ X _ fl G h2 H₀ ab) (S.o Γ X _ fh G h3 H₀ ab)
  ·
   obtain⟨hp,h⟩:=aF h;obtain⟨fa,h2,h⟩:=ax h;obtain⟨fb,h3,rfl⟩:=aA h;exact XU (S.e Γ X _ fa G h2 H₀ ab) (S.e Γ X _ fb G h3 H₀ ab) (ll hp)
 case Name x p =>
  dsimp only at h
  obtain⟨hn,h⟩:=aF h;obtain⟨n1,n2,n3⟩:=fU hn;split at h
  ·rename_i hv;obtain⟨i,h1,rfl⟩:=aA h;exact vR i (pe_var (G.jN h1) (G.L1 hv) n1 n2)
  ·obtain⟨hg,h⟩:=aF h;obtain⟨p,h1,rfl⟩:=aA h;obtain⟨u,v,g1,g2,g3⟩:=G.cons _ p h1;exact Al (E7 (G.kx hg) g1 g2 n1) g3
 case List es p =>
  dsimp only at h
  obtain⟨ts,h1,rfl⟩:=aA h;exact Fp (Fs ((S.a Γ X _ ts G h1).1 H₀ ab))
 case Tuple es k p =>
  dsimp only at h
  obtain⟨ts,h1,rfl⟩:=aA h;exact RO ((S.a Γ X _ ts G h1).1 H₀ ab)
 case ListComp elt gens scope p =>
  rcases gens with _ | ⟨⟨tg,iter,ifs,(_ | k) | k⟩,_ | ⟨g2,r⟩⟩<;>first | exact eH h | change Option.map bG (L7 n Γ elt tg iter ifs scope)=some f at h
  obtain⟨fc,h1,rfl⟩:=aA h;exact Fp ((S.c Γ X _ _ _ _ _ fc G h1).1 H₀ ab _)
theorem U4(Γ:Gm)(X:Cx)(e:au)(f:V7)(G:GOk Γ X)(h:L9 (n+1) Γ e=some f)(H₀ ab:Hp):PE X e (tO X.K H₀ ab f):=by
 unfold L9 at h;cases h
theorem U5(Γ:Gm)(X:Cx)(x:Str)(a:au)(es:List au)(f:FE)(p pos:Pos)(G:GOk Γ X)(h:F9 (n+1) Γ x a es=some f)(H₀ ab:Hp):PE X (.Call (.Name x p) (a::es) [] pos) (tE X.K H₀ ab f):=by
 unfold F9 at h;split at h
 ·rename_i args body scope lp;obtain⟨hc,g⟩:=aF h;clear h;simp only[aO]at hc;obtain⟨⟨⟨c1,c2⟩,c3⟩,c4⟩:=hc;obtain rfl:=bO c1;obtain⟨xa,h1,g⟩:=ax g;obtain⟨c5,g⟩:=aF g;obtain⟨fe,h2,g⟩:=ax g;obtain⟨fb,h3,rfl⟩:=aA g;obtain rfl:=yr h1;obtain⟨S1,Qc⟩:=Ih G c5;obtain⟨⟨p',q',fs,fT,Ls,FU,k,D,hr,hf,ho⟩,L⟩:=G.u6.zm c3;exact Fp (Lu D L (G.kx c2) hr (S.e Γ X _ fe G h2 H₀ ab) (bh c4 _ _) S1 λqual fa dI cl A stack s H PY fQ hr'=>S.e _ _ _ fb (Qh G S1.kind Qc hf ho hr') h3 PY fQ)
 ·obtain⟨hc,g⟩:=aF h;simp only[aO]at hc;obtain⟨⟨c1,c2⟩,c3⟩:=hc;obtain rfl:=bO c1;obtain⟨i,hi,rfl⟩:=aA g;obtain⟨y,yp,rfl,hy⟩:=t7 G hi;exact U0 (G.kx c2) (G.dR _ c3) (hy yp)
 ·obtain⟨hc,g⟩:=aF h;simp only[aO]at hc;obtain⟨⟨⟨c1,c2⟩,c3⟩,c4⟩:=hc;obtain⟨m,hm,g⟩:=ax g;obtain⟨i,hi,g⟩:=ax g;obtain⟨f1,h1,g⟩:=ax g;obtain⟨f2,h2,rfl⟩:=aA g;obtain⟨y,yp,rfl,hy⟩:=t7 G hi;obtain⟨k,fa,fd,ps,F,hr,q1,q2,q3⟩:=G.u6.AU _ m hm;exact LW F hr (G.kx c2) q1 q2 q3 (S.e Γ X _ f1 G h1 H₀ ab) (S.e Γ X _ f2 G h2 H₀ ab) (hy yp) (fU c1).1 (λes=>bh c3 es _) (λes=>bh c4 es _)
 ·cases h
theorem YH(Γ:Gm)(X:Cx)(e:au)(f:FE)(G:GOk Γ X)(h:Qg (n+1) Γ e=some f)(H₀ ab:Hp):PE X e (tE X.K H₀ ab f):=by
 unfold Qg at h;split at h
 ·exact S.sp Γ X _ _ _ _ _ _ G h H₀ ab
 ·obtain⟨hc,h⟩:=aF h;rw[aO]at hc;obtain⟨hn,hk⟩:=hc;obtain⟨n1,n2,n3⟩:=fU hn;split at h
  ·rename_i hv;rw[aO]at hv;obtain⟨i,h1,h⟩:=ax h;obtain⟨fk,h2,rfl⟩:=aA h;exact UQ (pe_var (G.jN h1) (G.L1 hv.1) n1 n2) (S.e Γ X _ fk G h2 H₀ ab) (ll hk)
  ·obtain⟨hv,h⟩:=aF h;rw[aO]at hv;obtain⟨i,h1,h⟩:=ax h;obtain⟨fk,h2,rfl⟩:=aA h;exact Ln (pe_var (G.jN h1) (G.L1 hv.1) n1 n2) (S.e Γ X _ fk G h2 H₀ ab) (ll hk)
 ·cases h
theorem YI(Γ:Gm)(X:Cx)(tg e:au)(f:bP)(G:GOk Γ X)(h:Mb (n+1) Γ tg e=some f):(∀H₀ ab,PI X tg e (tI X.K H₀ ab f))/\∀x,foldedSetIterable e X.env x=pure x:=by
 unfold Mb at h;split at h
 ·split at h
  ·rename_i hc;obtain⟨ts,h1,rfl⟩:=aA h;simp only[aO]at hc;obtain⟨⟨⟨hx,hg⟩,hb⟩,hp⟩:=hc;have hx:=bO hx;subst hx;exact⟨λH₀ ab=>ON (G.kx hg) (G.dR _ hb) ((S.a Γ X _ ts G h1).1 H₀ ab) (bh hp _ _),λ_=>rfl⟩
  ·split at h
   ·rename_i hc;obtain⟨fa,h1,rfl⟩:=aA h;simp only[aO]at hc;obtain⟨⟨⟨⟨hx,hg⟩,hb⟩,hp⟩,ht⟩:=hc;have hx:=bO hx;subst hx;exact⟨λH₀ ab=>ac3 ht (G.kx hg) (G.dR _ hb) (S.e Γ X _ fa G h1 H₀ ab) (bh hp _ _),λ_=>rfl⟩
   obtain⟨fe,h1,rfl⟩:=aA h;exact⟨λH₀ ab=>Fv (S.e Γ X _ fe G h1 H₀ ab),λ_=>rfl⟩
 ·split at h
  ·rename_i hc;obtain⟨ts,h1,rfl⟩:=aA h;simp only[aO]at hc;obtain⟨⟨⟨⟨hx,hg⟩,hb⟩,hp⟩,hp2⟩:=hc;have hx:=bO hx;subst hx;exact⟨λH₀ ab=>LV (G.kx hg) (G.dR _ hb) ((S.a Γ X _ ts G h1).1 H₀ ab) (by rw[bh hp,bh hp2];rfl) (bh hp2 _ _),λ_=>rfl⟩
  obtain⟨fe,h1,rfl⟩:=aA h;exact⟨λH₀ ab=>Fv (S.e Γ X _ fe G h1 H₀ ab),λ_=>rfl⟩
 ·obtain⟨hp,h⟩:=aF h;obtain⟨fe,h1,rfl⟩:=aA h;exact⟨λH₀ ab=>Fv (S.e Γ X _ fe G h1 H₀ ab),λx=>DT hp _ x⟩
end
theorem snd:∀n:Nat,Snd n
 | 0=>Mc
 | n+1 =>
  have S:=snd n
  ⟨YG S,YH S,U5 S,U4 S,YF S,YA S,YB S,YC S,YD S,U3 S,YI S,YE S⟩
def Qi:PV->PV->bU
 | .int i,.int j=>some (.int (i+j))
 | _,_=>none
def YJ:PV->PV->bU
 | .int i,.int j=>some (.int (i-j))
 | _,_=>none
def Me:Operator->Option (PV->PV->bU)
 | .Add=>some Qi
 | .Sub=>some YJ
 | _=>none
noncomputable def fw:Nat->List Str->au->List Str
 | 0,_,_=>[]
 | n+1,M,e=>match e with
  | .Name x _=>if M.contains x then [x]else []
  | .BinOp a _ b _=>fw n M a++fw n M b
  | .UnaryOp _ a _=>fw n M a
  | .BoolOp _ vs _=>vs.flatMap (fw n M)
  | .Compare a _ bs _=>fw n M a++bs.flatMap (fw n M)
  | .IfExp c a b _=>fw n M c++fw n M a++fw n M b
  | .Tuple es _ _=>es.flatMap (fw n M)
  | .List es _=>es.flatMap (fw n M)
  | .Subscript a b _=>fw n M a++fw n M b
  | .Slice lo hi _ _=>(lo.toList++hi.toList).flatMap (fw n M)
  | .ListComp elt gens _ _=>fw n M elt++gens.flatMap λg=>fw n M g.iter++g.ifs.flatMap (fw n M)
  | .Call (.Name l _) [.Name x _] [] _=>if l==("len":Str)then []else if M.contains x then [x]else []
  | .Call f args Ga _=>fw n M f++args.flatMap (fw n M)++Ga.flatMap λk=>fw n M k.value
  | _=>[]
def gC:Nat->List Str->au->List Str
 | 0,_,_=>[]
 | n+1,M,e=>match e with
  | .Name x _=>if M.contains x then [x]else []
  | .BinOp a _ b _=>gC n M a++gC n M b
  | .UnaryOp _ a _=>gC n M a
  | .BoolOp _ vs _=>vs.flatMap (gC n M)
  | .Compare a _ bs _=>gC n M a++bs.flatMap (gC n M)
  | .IfExp c a b _=>gC n M c++gC n M a++gC n M b
  | .Tuple es _ _=>es.flatMap (gC n M)
  | .List es _=>es.flatMap (gC n M)
  | .Subscript (.Name _ _) (.Slice lo hi st sp) _=>fw n M e
  | .Subscript (.Name _ _) b _=>gC n M b
  | .Subscript a b _=>gC n M a++gC n M b
  | .Slice lo hi _ _=>(lo.toList++hi.toList).flatMap (gC n M)
  | .ListComp elt gens _ _=>fw n M elt++gens.flatMap λg=>gC n M g.iter++g.ifs.flatMap (fw n M)
  | .Call (.Name l _) [.Name x _] [] _=>if l==("len":Str)then []else if M.contains x then [x]else []
  | .Call f args Ga _=>gC n M f++args.flatMap (gC n M)++Ga.flatMap λk=>gC n M k.value
  | _=>[]
def dj(n:Nat)(Γ:Gm)(e:au):List Nat:=(gC n Γ.chg e).filterMap (slot Γ)
def jh(L:List Nat)(f:FS):FS:=match L with | []=>f | L=>me L f
theorem fE{X:Cx}{st:aE}{H₀ ab:Hp}{f:FS}{L:List Nat}(h:PS X st (tS X H₀ ab f)):PS X st (tS X H₀ ab (jh L f)):=by
 cases L with
 | nil=>exact h
 | cons i L=>exact XS (i::L) h
def DW(Γ:Gm)(g:eY):eY:=match Γ.chg with | []=>g | _=>fP g
theorem Mf{Γ:Gm}{X:Cx}{e:au}{H₀ ab:Hp}{g:eY}(h:PT X e (tT X.K H₀ ab g)):PT X e (tT X.K H₀ ab (DW Γ g)):=by
 unfold DW;split
 ·exact h
 ·exact XR h
def Gb(Γ:Gm):au->Option (Str×List au×Nat)
 | .Call (.Name x _) (a::es) [] _=>if(di x&&zq Γ x&&(a::es).all cw)=true then(Γ.fns.lookup x).map λm=>(x,a::es,m)else none
 | _=>none
def Sj:au->Option (au×au)
 | .BinOp a .Add b _=>some (a,b)
 | _=>none
def Sk:au->Option (au×Option au×Option au)
 | .Subscript a (.Slice lo hi none _) _=>some (a,lo,hi)
 | _=>none
def Sl(Γ:Gm):au->Option au
 | .Call (.Name x _) [a] [] _=>if(x==("list":Str)&&zq Γ x&&Γ.dR.contains x&&cw a)=true then some a else none
 | _=>none
noncomputable def U6(n:Nat)(Γ:Gm)(e:au):Option (aG->cH):=match Gb Γ e with
 | some (x,es,m)=>(m6 n Γ es).map λts=>Ay (aR m (Γ.call x)) ts
 | none=>match Sj e with
  | some (a,b)=>(cP n Γ a).bind λfa=>(cP n Γ b).map λfb=>Pn fa fb
  | none=>match Sk e with
   | some (a,lo,hi)=>(cP n Γ a).bind λfa=>(Ie n Γ lo).bind λfl=>(Ie n Γ hi).map λfh=>Pu fa fl fh
   | none=>match Sl Γ e with
    | some a=>(cP n Γ a).map Us
    | none=>(cP n Γ e).map DE
def YK(Γ:Gm):au->Bool
 | .Subscript (.Name y _) k _=>Γ.chg.contains y&&iu k&&Γ.chg.contains ("[thaw]":Str)
 | _=>false
noncomputable def YL(n:Nat)(Γ:Gm):aE->Option FS
 | .Assign [.Name x _] (.Dict [] [] _) _=>if(Γ.Ro.contains x&&B8 Γ x&&di x)=true then(slot Γ x).map UP else none
 | .Expr (.Call (.Attribute (.Name x _) m ap) [a,b] [] cp) _=>if(di x&&vG Γ x&&cw a&&cw b&&(ap.endLine==cp.line))=true then(slot Γ x).bind λi=>(cP n Γ a).bind λfa=>(cP n Γ b).bind λfb =>
   if(m==("setdefault":Str)&&Γ.Ro.contains x)=true then some (jh (dj n Γ a++dj n Γ b) (UR i fa fb))else if m==("insert":Str)then some (jh (dj n Γ a++dj n Γ b) (gI i (aa fa (aa fb ai)) xZ))else none else none
 | .Expr (.Call (.Attribute (.Name x _) m ap) [] [] cp) _=>if(di x&&vG Γ x&&(ap.endLine==cp.line)&&m==("reverse":Str))=true then(slot Γ x).map λi=>Aq i P5 else none
 | _=>none
noncomputable def YM(n:Nat)(Γ:Gm)(x:Str):au->Option FS
 | .ListComp (.List [] _) [⟨tg,.Name f _,[],0⟩] scope _=>if(Γ.NW.contains x&&B8 Γ x&&di f&&vG Γ f)=true then(slot Γ x).bind λi=>(slot Γ f).bind λj=>(qZ n (qK Γ scope) tg).bind λg=>if lr Γ scope g.2=true then some (yb (fR Γ scope) g.1 i j)else none else none
 | .Dict [] [] _=>if(Γ.dct.contains x&&B8 Γ x)=true then(slot Γ x).map Qe else none
 | _=>none
noncomputable def YN(n:Nat)(Γ:Gm):au->Option FS
 | .Call (.Attribute (.Subscript (.Name x _) k _) m ap) [a] [] cp=>if(di x&&vG Γ x&&iu k&&cw a&&(ap.endLine==cp.line)&&m==("append":Str)&&Γ.NW.contains x)=true then(slot Γ x).bind λi=>(cP n Γ k).bind λfk=>(cP n Γ a).map λfa=>DQ i fk fa else none
 | _=>none
noncomputable def Gd(n:Nat)(Γ:Gm):aE->Option FS
 | .Assign [.Name x _] e _=>YM n Γ x e
 | .Assign [.Subscript (.Name x _) k _] e _=>if(di x&&vG Γ x&&iu k&&pX e&&Γ.dct.contains x)=true then(slot Γ x).bind λi=>(cP n Γ k).bind λfk=>(cP n Γ e).map λfv=>Ic i fk fv else none
 | .Expr e _=>YN n Γ e
 | _=>none
def YO:aE->Bool
 | .For (.Name _ _) (.Call _ _ _ _) _ _ _=>true
 | .Return (some (.Name _ _)) _=>true
 | _=>false
def Ge(L:List Nat)(f:FS):FS:=match L with
 | []=>f
 | i::r=>DR i (Ge r f)
theorem Gf{X:Cx}{st:aE}{H₀ ab:Hp}{f:FS}(h:PS X st (tS X H₀ ab f)):∀L:List Nat,PS X st (tS X H₀ ab (Ge L f))
 | []=>h
 | _::r=>Yu (Gf h r)
def Sm(Γ:Gm)(st:aE):List Nat:=match YO st with | true=>Γ.NW.filterMap (slot Γ) | false=>[]
mutual
noncomputable def Qj:Nat->Gm->aE->Option FS
 | 0,_,_=>none
 | n+1,Γ,st=>some (Ge (Sm Γ st) (((Gd n Γ st).or (wq n Γ st)).getD λ_=>none))
noncomputable def wq:Nat->Gm->aE->Option FS
 | 0,_,_=>none
 | n+1,Γ,st=>match YL n Γ st with | some f=>some f | none=>match st with
  | .Return none _=>some λ_=>some (.rt (.val .cE))
  | .Return (some (.Name x _)) _=>if(di x&&vG Γ x&&Γ.chg.contains x)=true then(slot Γ x).map nW else(cP n Γ (.Name x ⟨0,0,0,0⟩)).map bC
  | .Return (some e) _=>(cP n Γ e).map λf=>jh (dj n Γ e) (bC f)
  | .If c a b _=>(u7 n Γ c).bind λgc=>(gD n Γ a).bind λf=>(gD n Γ b).map λg=>fJ (DW Γ gc) f g
  | .Expr (.Call (.Attribute (.Name x _) m ap) [a] [] cp) _=>if(di x&&vG Γ x&&cw a&&(ap.endLine==cp.line))=true then(slot Γ x).bind λi=>(m6 n Γ [a]).bind λts =>
    (if m==("append":Str)then some (jh (dj n Γ a) (gI i ts mR))else if m==("extend":Str)then some (jh (dj n Γ a) (gI i ts qW))else none)else none
  | .Expr e _=>if pX e=true then(cP n Γ e).map λf=>jh (dj n Γ e) (qF f)else none
  | .For tg iter body [] _=>(Mb n Γ tg iter).bind λfi=>(qZ n Γ tg).bind λg=>(gD n Γ body).map λf=>jh (dj n Γ iter) (eZ fi g.1 f)
  | .Assign [.Name x p] (.ListComp elt [⟨tg,iter,ifs,0⟩] scope cp) sp=>if(B8 Γ x&&di x)=true then(slot Γ x).bind λi=>(L7 n Γ elt tg iter ifs scope).map λfc =>
    (if(Γ.chg.contains ("[thaw]":Str)&&!Γ.chg.contains x)=true then bx (bG (R6 fc)) (ak i)else jh (dj n Γ (.ListComp elt [⟨tg,iter,ifs,0⟩] scope cp)) (if Γ.chg.contains x then iY i fc else bx (bG fc) (ak i)))else none
  | .Assign [.Name x p] (.List es lp) sp=>if(B8 Γ x&&di x)=true then(slot Γ x).bind λi=>(m6 n Γ es).map λts=>jh (dj n Γ (.List es lp)) (if Γ.chg.contains x then iY i (cB ts)else bx (bG (cB ts)) (ak i))else none
  | .Assign [.Name x p] e sp=>if(pX e&&B8 Γ x&&di x)=true then(slot Γ x).bind λi=>(if Γ.chg.contains x then(U6 n Γ e).map λfo=>jh (dj n Γ e) (Uq i fo)else(cP n Γ e).map λf=>if YK Γ e=true then bx (eV f) (ak i)else jh (dj n Γ e) (bx f (ak i)))else none
  | .AugAssign (.Name x p) op e sp=>if(B8 Γ x&&di x)=true then(slot Γ x).bind λi=>(Me op).bind λg=>(cP n Γ e).map λf=>jh (dj n Γ e) (bx (af (rd i) f g) (ak i))else none
  | .Assign [.Tuple ts k tp] e sp=>if F7 e=true then(qZ n Γ (.Tuple ts k tp)).bind λg=>(cP n Γ e).map λf=>jh (dj n Γ e) (bx f g.1)else none
  | _=>none
noncomputable def gD:Nat->Gm->List aE->Option FS
 | 0,_,_=>none
 | n+1,Γ,[]=>some λρ=>some (.nx ρ)
 | n+1,Γ,[st]=>Qj n Γ st
 | n+1,Γ,st::XE=>(Qj n Γ st).bind λf=>(gD n Γ XE).map λg=>aJ f g
end
structure Mg (Γ:Gm) (X:Cx):Prop extends GOk Γ X where
 never:PassesOwn (model X.prog X.w) X.A X.env X.xe
 stk:X.stack=X.env::X.outer/\X.env.frame=some X.env.locals
theorem yt{X:Cx}{a:au}{cp:Pos}(h:cw a=true):((backTo cp (starEach [a] X.env)).all (λx=>!x.1)&&(backToKw cp (keywordEach [] X.env)).all (λx=>x.1.isSome)
   && decide ([a].length+([]:List Keyword).length+(if([]:List Keyword).isEmpty then 0 else 1)<30))=true:=by
 rw[bh h];rfl
theorem Gg{X:Cx}{a b:au}{cp:Pos}(h:cw a=true)(h2:cw b=true):((backTo cp (starEach [a,b] X.env)).all (λx=>!x.1)&&(backToKw cp (keywordEach [] X.env)).all (λx=>x.1.isSome)
   && decide ([a,b].length+([]:List Keyword).length+(if([]:List Keyword).isEmpty then 0 else 1)<30))=true:=by
 rw[bh h,bh h2];rfl
theorem AW{X:Cx}{b:au}{cp:Pos}(h2:cw b=true):(backTo cp (starEach [b] X.env)).any (·.1)=false:=by
 rw[bh h2];rfl
structure YQ (n:Nat):Prop where
 s:∀Γ X st f,Mg Γ X->Qj n Γ st=some f->∀H₀ ab,PS X st (tS X H₀ ab f)
 s0:∀Γ X st f,Mg Γ X->wq n Γ st=some f->∀H₀ ab,PS X st (tS X H₀ ab f)
 ss:∀Γ X st f,Mg Γ X->gD n Γ st=some f->∀H₀ ab,qU X st (tS X H₀ ab f)
theorem gY{Γ:Gm}{X:Cx}{x:Str}{p:Pos}{i:Nat}(G:GOk Γ X)(hn:di x=true)(hv:vG Γ x=true)(hs:slot Γ x=some i):PE X (.Name x p) (jY i) :=
 pe_var (G.jN hs) (G.L1 hv) (fU hn).1 (fU hn).2.1
theorem Qk{X:Cx}{x:Str}{p sp:Pos}{e:au}{op:Operator}{i:Nat}{H₀ ab:Hp}{fe:FE}{g:PV->PV->bU}{h:Int->Int->Int}(hg:∀a b c,g a b=some c->∃i j,a=.int i/\b=.int j/\c=.int (h i j))(ho:OpR X (inplaceOp op) (De λi j=>.int (h i j)))
  (he:PE X e (tE X.K H₀ ab fe)) (hN:X.N.Nodup) (hi:X.N[i]?=some x) (hx:Rq X.env.scope x) (hf:X.fn x=true\/X.env.scope.names.lookup x=some .local):PS X (.AugAssign (.Name x p) op e sp) (tS X H₀ ab (bx (af (rd i) fe g) (ak i))):=by
 refine(J9 (ti:=De λi j=>.int (h i j)) hN hi hx he (λag s σ H x y v u Q I r1 r2 t=>ho ag s σ H x y v u Q I r1 r2 t) hf).imp λD σ H hh=>?_
 obtain⟨F,ρ,o,R,hf,q⟩:=hh;obtain⟨c,h1,h2⟩:=ax hf;obtain⟨a,ha,h1⟩:=ax h1;obtain⟨b,hb,h1⟩:=ax h1;obtain⟨ia,jb,rfl,rfl,rfl⟩:=hg a b c h1;cases z:ak i (.int (h ia jb)) ρ with
 | none=>rw[z]at h2;cases h2
 | some fA =>
  rw[z]at h2;cases h2;obtain⟨hl,rfl⟩:=aK z;have hr:ρ[i]?=some (.val (.int ia)):=by
   unfold rd at ha;split at ha
   ·rename_i e;cases ha;exact e
   ·cases ha
  obtain⟨v,hv,bv⟩:=R.val i _ hr;rw[aM.mp bv]at hv;refine⟨.int ia,hv,F,ρ,.int jb,R,hb,λy H1 F1 R1 s1 b1=>⟨ia,jb,rfl,aM.mp b1,?_⟩⟩
  exact q F1 _ H1 (R1.set hl (aM.mpr rfl)) s1
theorem AX{Γ:Gm}{X:Cx}{x:Str}{p sp:Pos}{e:au}{op:Operator}{i:Nat}{H₀ ab:Hp}{fe:FE}{g:PV->PV->bU}{h:Int->Int->Int}(G:GOk Γ X)(hs:slot Γ x=some i)(hx:B8 Γ x=true)(hg:∀a b c,g a b=some c->∃i j,a=.int i/\b=.int j/\c=.int (h i j))(ho:OpR X (inplaceOp op) (De λi j=>.int (h i j)))
  (he:PE X e (tE X.K H₀ ab fe)):PS X (.AugAssign (.Name x p) op e sp) (tS X H₀ ab (bx (af (rd i) fe g) (ak i))):=by
 obtain⟨h1,h2⟩:=G.U1 hx;exact Qk hg ho he G.nd (G.jN hs) h1 h2
theorem gK{Γ:Gm}{X:Cx}{x:Str}{p sp:Pos}{e:au}{i:Nat}{te:TE}(G:GOk Γ X)(hs:slot Γ x=some i)(hx:B8 Γ x=true)(he:PE X e te)(hsw:swapsWith e (some (.Name x p)) sp.line X.env=pure false):PS X (.Assign [.Name x p] e sp) (nN te (gName i)):=by
 obtain⟨h1,h2⟩:=G.U1 hx;exact xq G.nd (G.jN hs) h1 he hsw h2
theorem m7{Γ:Gm}{X:Cx}{x:Str}{elt:au}{gens:List Comprehension}{scope:Scope}{cp p sp:Pos}(G:GOk Γ X) :
  (swapsWith (.ListComp elt gens scope cp) (some (.Name x p)) sp.line X.env=pure true/\X.env.scope.names.lookup x=some .local)\/swapsWith (.ListComp elt gens scope cp) (some (.Name x p)) sp.line X.env=pure false:=by
 have e:swapsWith (.ListComp elt gens scope cp) (some (.Name x p)) sp.line X.env=pure (X.env.blockKind==.function&&X.env.kindOf x==some .local&&p.line==(Expr.ListComp elt gens scope cp).pos.line&&!(scope.names.any fun(n,k)=>n==x&&(k==.local || k==.cell))):=rfl
 rw[e];cases hb:(X.env.blockKind==.function&&X.env.kindOf x==some .local&&p.line==(Expr.ListComp elt gens scope cp).pos.line&&!(scope.names.any fun(n,k)=>n==x&&(k==.local || k==.cell)))with
 | true =>
  refine .inl ⟨rfl,?_⟩;simp only[aO]at hb;exact bO hb.1.1.2
 | false=>exact .inr rfl
theorem U7{n:Nat}(Γ:Gm)(X:Cx)(e:au)(f:aG->cH)(G:GOk Γ X)(h:U6 n Γ e=some f)(H₀ ab:Hp):PE X e (tR X.K H₀ ab f)/\∀ρ en,f ρ=some en->(∃p,en=.val p)\/∃ps,en=.own ps:=by
 unfold U6 at h;split at h
 ·rename_i x es m hd;obtain⟨ts,h1,rfl⟩:=aA h;unfold Gb at hd;split at hd
  ·obtain⟨hc,hd⟩:=aF hd;simp only[aO]at hc;obtain⟨⟨hn,hg⟩,hp⟩:=hc;obtain⟨n1,n2,n3⟩:=fU hn;rw[fI,aO]at hp;obtain⟨m',hm,he⟩:=aA hd;cases he;obtain⟨k,fa,fd,ps,F,hr,q1,q2,q3⟩:=G.fns _ m hm;exact⟨Pt (DF F hr (G.kx hg) q1 q2 q3 (((snd n).a Γ X _ ts G h1).1 H₀ ab) n1 (bh hp.1 _ _) (ig hp.2 _ _)),Ld _ _⟩
  ·cases hd
 ·split at h
  ·rename_i a b hs;obtain⟨fa,h1,h⟩:=ax h;obtain⟨fb,h2,rfl⟩:=aA h;unfold Sj at hs;split at hs
   ·cases hs;exact⟨X3 ((snd n).e Γ X _ fa G h1 H₀ ab) ((snd n).e Γ X _ fb G h2 H₀ ab),Pq _ _⟩
   ·cases hs
  ·split at h
   ·rename_i a lo hi hs;obtain⟨fa,h1,h⟩:=ax h;obtain⟨fl,h2,h⟩:=ax h;obtain⟨fh,h3,rfl⟩:=aA h;unfold Sk at hs;split at hs
    ·cases hs;exact⟨X6 ((snd n).e Γ X _ fa G h1 H₀ ab) ((snd n).o Γ X _ fl G h2 H₀ ab) ((snd n).o Γ X _ fh G h3 H₀ ab),Pw _ _ _⟩
    ·cases hs
   ·split at h
    ·rename_i a hs;obtain⟨fa,h1,rfl⟩:=aA h;unfold Sl at hs;split at hs
     ·obtain⟨hc,Ry⟩:=aF hs;clear hs;simp only[aO]at hc;obtain⟨⟨⟨c1,c2⟩,c3⟩,c4⟩:=hc;have c1:=bO c1;subst c1;cases Ry;exact⟨X9 (G.kx c2) (G.dR _ c3) ((snd n).e Γ X _ fa G h1 H₀ ab) (bh c4 _ _),Px _⟩
     ·cases hs
    ·obtain⟨fe,h1,rfl⟩:=aA h;exact⟨X1 ((snd n).e Γ X _ fe G h1 H₀ ab),Pp _⟩
theorem U8{n:Nat}{Γ:Gm}{X:Cx}{x fn:Str}{p sp fp lp cp:Pos}{tg:au}{scope:Scope}{i j:Nat}{gg:fz×List Nat}{H₀ ab:Hp}(G:Mg Γ X)(it:slot Γ x=some i)(st:B8 Γ x=true)(hf:PE X (.Name fn fp) (jY j))(h2:qZ n (qK Γ scope) tg=some gg)(hk:lr Γ scope gg.2=true) :
  PS X (.Assign [.Name x p] (.ListComp (.List [] lp) [⟨tg,.Name fn fp,[],0⟩] scope cp) sp) (tS X H₀ ab (yb (fR Γ scope) gg.1 i j)):=by
 have G':=G.toGOk;have SC:=t8 G' hk;have GK:=AV G' hk;have pi1:PI X tg (.Name fn fp) (Qb X.K (cF (rd j))):=US λH₀ ab=>Fv (vR j hf)
 have pb:∀(C:ae) (s:az) (H:Hp) (fp:List ae),PB (de X (lq scope) scope C s H fp) tg [] (.List [] lp) (UT X.K gg.1 (cB ai)):=λC s H fp=>tK λb:Hp×Hp=>tJ ((j4 (GK C s H fp) n tg gg h2).1 b.1 b.2) (Fs vS)
 refine UY (j4 (GK 0 X.s₀ X.H₀ []) n tg gg h2).2.1 (lu hk).2.2.2 (λρ=>(if_pos (gr gH):(if 0<=gH then some ([]:ay)else none)=some [])) ?_
 rcases m7 G' with⟨z,hz⟩ | z
 ·exact xJ G'.calm G'.nd (G'.jN it) hz SC pi1 pb z
 ·exact gK G' it st (xH G'.calm SC pi1 pb) z
theorem YR{n:Nat}{Γ:Gm}{X:Cx}{st:aE}{f:FS}(G:Mg Γ X)(h:Gd n Γ st=some f)(H₀ ab:Hp):PS X st (tS X H₀ ab f):=by
 have S:=snd n;cases st<;>try exact eH h
 case Assign tgs v sp =>
  rcases tgs with _ | ⟨t,r⟩<;>try exact eH h
  ·cases t<;>try exact eH h
   case Name x p =>
    rcases r with _ | ⟨t2,r⟩<;>try exact eH h
    cases v<;>try exact eH h
    case Dict ks vs dp =>
     rcases ks with _ | ⟨k1,ks⟩<;>try exact eH h
     rcases vs with _ | ⟨v1,vs⟩<;>try exact eH h
     obtain⟨hc,g⟩:=aF (show(if(Γ.dct.contains x&&B8 Γ x)=true then(slot Γ x).map Qe else none)=some f from h)
     rw[aO]at hc;obtain⟨i,h1,rfl⟩:=aA g;exact(gK G.toGOk h1 hc.2 Fm rfl).imp λD σ H h=>LO h
    case ListComp elt gens scope cp =>
     cases elt<;>try exact eH h
     rename_i es lp;rcases es with _ | ⟨e1,es⟩<;>try exact eH h
     rcases gens with _ | ⟨⟨tg,iter,ifs,(_ | k) | k⟩,_ | ⟨g2,r⟩⟩<;>try exact eH h
     ·cases iter<;>(rcases ifs with _ | ⟨c1,cs⟩<;>try exact eH h)
      rename_i fn fp;obtain⟨hc,g⟩:=aF (show(if(Γ.NW.contains x&&B8 Γ x&&di fn&&vG Γ fn)=true then(slot Γ x).bind λi=>(slot Γ fn).bind λj=>(qZ n (qK Γ scope) tg).bind λg=>if lr Γ scope g.2=true then some (yb (fR Γ scope) g.1 i j)else none else none)=some f from h)
      simp only[aO]at hc;obtain⟨⟨⟨c1,c2⟩,c3⟩,c4⟩:=hc;obtain⟨i,h1,g⟩:=ax g;obtain⟨j,h2,g⟩:=ax g;obtain⟨tgd,h3,g⟩:=ax g;obtain⟨hk,rfl⟩:=aK g;exact U8 G h1 c2 (gY G.toGOk c3 c4 h2) h3 hk
     all_goals cases iter<;>(rcases ifs with _ | ⟨c1,cs⟩<;>exact eH h)
   case Subscript o k tp =>
    cases o<;>try exact eH h
    rename_i x p;rcases r with _ | ⟨t2,r⟩<;>try exact eH h
    obtain⟨hc,g⟩:=aF (show(if(di x&&vG Γ x&&iu k&&pX v&&Γ.dct.contains x)=true then(slot Γ x).bind λi=>(cP n Γ k).bind λfk=>(cP n Γ v).map λfv=>Ic i fk fv else none)=some f from h)
    simp only[aO]at hc;obtain⟨⟨⟨⟨c1,c2⟩,c3⟩,c4⟩,c5⟩:=hc;obtain⟨i,h1,g⟩:=ax g;obtain⟨fk,h2,g⟩:=ax g;obtain⟨fv,h3,rfl⟩:=aA g;exact(FP (by have:=G.un;lia) (gY G.toGOk c1 c2 h1) (S.e Γ X _ fk G.toGOk h2 H₀ ab) (S.e Γ X _ fv G.toGOk h3 H₀ ab) (gB c4 _ _ _)).imp λD σ H h=>LP h
 ·rename_i e ep;cases e<;>try exact eH h
  rename_i fn args Ga cp;cases fn<;>try exact eH h
  rename_i v m ap;cases v<;>try exact eH h
  rename_i o k sp;cases o<;>try exact eH h
  rename_i x xp;rcases args with _ | ⟨a,_ | ⟨b,r⟩⟩<;>rcases Ga with _ | ⟨kw,Ga⟩<;>try exact eH h
  obtain⟨hc,g⟩:=aF (show(if(di x&&vG Γ x&&iu k&&cw a&&(ap.endLine==cp.line)&&m==("append":Str)&&Γ.NW.contains x)=true then(slot Γ x).bind λi=>(cP n Γ k).bind λfk=>(cP n Γ a).map λfa=>DQ i fk fa else none)=some f from h)
  simp only[aO]at hc;obtain⟨⟨⟨⟨⟨⟨c1,c2⟩,c3⟩,c4⟩,c5⟩,c6⟩,c7⟩:=hc;obtain rfl:=bO c6;obtain⟨i,h1,g⟩:=ax g;obtain⟨fk,h2,g⟩:=ax g;obtain⟨fa,h3,rfl⟩:=aA g;exact(g9 (LF (Ab Ys (gY G.toGOk c1 c2 h1) (S.e Γ X _ fk G.toGOk h2 H₀ ab) (ll c3)) (pJ (S.e Γ X _ fa G.toGOk h3 H₀ ab) vS (bh c4 _ _)) rfl (yt c4) c5 (bh c4 _ _) rfl)).imp λD σ H h=>LM h
section
variable {n:Nat} (T:YQ n)
include T
theorem U9(Γ:Gm)(X:Cx)(st:List aE)(f:FS)(G:Mg Γ X)(h:gD (n+1) Γ st=some f)(H₀ ab:Hp):qU X st (tS X H₀ ab f):=by
 match st,h with
 | [],h=>cases h;exact TZ
 | [st],h=>exact T1 (T.s Γ X st f G h H₀ ab)
 | st::V1::XE,h =>
  obtain⟨f1,h1,h⟩:=ax h;obtain⟨g,h2,rfl⟩:=aA h;exact OK (T.s Γ X st f1 G h1 H₀ ab) (T.ss Γ X _ g G h2 H₀ ab)
set_option maxHeartbeats 4000000 in
theorem Va(Γ:Gm)(X:Cx)(st:aE)(f:FS)(G:Mg Γ X)(h:wq (n+1) Γ st=some f)(H₀ ab:Hp):PS X st (tS X H₀ ab f):=by
 have S:=snd n;unfold wq at h;split at h
 ·rename_i f' hq;cases h;cases st<;>try exact eH hq
  case Assign tgs v sp =>
   rcases tgs with _ | ⟨t,r⟩<;>try exact eH hq
   cases t<;>try exact eH hq
   rcases r with _ | ⟨t2,r⟩<;>try exact eH hq
   cases v<;>try exact eH hq
   rename_i ks vs dp;rcases ks with _ | ⟨k1,ks⟩<;>try exact eH hq
   rcases vs with _ | ⟨v1,vs⟩<;>try exact eH hq
   obtain⟨hc,h⟩:=aF hq;simp only[aO]at hc;obtain⟨i,h1,rfl⟩:=aA h;exact(gK G.toGOk h1 hc.1.2 Lv rfl).imp λD σ H h=>Lx h
  ·rename_i e ep;cases e<;>try exact eH hq
   rename_i fn args Ga cp;cases fn<;>try exact eH hq
   rename_i v m ap;cases v<;>try exact eH hq
   rename_i x xp;rcases args with _ | ⟨a,_ | ⟨b,_ | ⟨c,r⟩⟩⟩<;>rcases Ga with _ | ⟨kw,Ga⟩<;>try exact eH hq
   ·obtain⟨hc,h⟩:=aF hq;simp only[aO]at hc;obtain⟨⟨⟨c1,c2⟩,c3⟩,c4⟩:=hc;obtain⟨i,h1,rfl⟩:=aA h;have hm:=bO c4;subst hm;exact(g9 (TC oS PySem.F.slot_list_reverse PySem.F.type_list_reverse Dq (gY G.toGOk c1 c2 h1) rfl c3)).imp λD σ H h=>KS P6 h
   ·obtain⟨hc,h⟩:=aF hq;simp only[aO]at hc;obtain⟨⟨⟨⟨c1,c2⟩,c3⟩,c4⟩,c5⟩:=hc;obtain⟨i,h1,h⟩:=ax h;obtain⟨fa,h2,h⟩:=ax h;obtain⟨fb,h3,h6⟩:=ax h;clear h hq;have hx:=λp=>gY (p:=p) G.toGOk c1 c2 h1
    have ha:=pJ (S.e Γ X _ fa G.toGOk h2 H₀ ab) (pJ (S.e Γ X _ fb G.toGOk h3 H₀ ab) vS (bh c4 _ _)) (bh c3 _ _);split at h6
    ·rename_i hm;rw[aO]at hm;have hm:=bO hm.1;subst hm;have h7:=bM h6;subst h7;exact fE ((g9 (Ae PySem.F.plainAttrs_dict Jz PySem.F.type_dict_setdefault UM (hx _) ha rfl (Gg c3 c4) c5 (bh c3 _ _) (AW c4))).imp λD σ H h=>P9 h)
    ·split at h6
     ·rename_i hm;have hm:=bO hm;subst hm;have h7:=bM h6;subst h7;exact fE ((g9 (Ae oS PySem.F.slot_list_insert PySem.F.type_list_insert Ib (hx _) ha rfl (Gg c3 c4) c5 (bh c3 _ _) (AW c4))).imp λD σ H h=>xK P7 h)
     ·cases h6
 rename_i hq0;clear hq0;split at h
 ·cases h;exact T2
 ·split at h
  ·rename_i hc;obtain⟨i,h1,rfl⟩:=aA h;simp only[aO]at hc;exact Hy i (gY G.toGOk hc.1.1 hc.1.2 h1)
  ·obtain⟨fe,h1,rfl⟩:=aA h;rename_i x p _ _;have:=S.e Γ X _ fe G.toGOk h1 H₀ ab;refine RQ ?_;cases n with
   | zero=>cases h1
   | succ n =>
    exact S.e Γ X (.Name x p) fe G.toGOk h1 H₀ ab
 ·obtain⟨fe,h1,rfl⟩:=aA h;exact fE (RQ (S.e Γ X _ fe G.toGOk h1 H₀ ab))
 ·obtain⟨gc,h1,h⟩:=ax h;obtain⟨fa,h2,h⟩:=ax h;obtain⟨fb,h3,rfl⟩:=aA h;exact acL (Mf (S.t Γ X _ gc G.toGOk h1 H₀ ab)) (T.ss Γ X _ fa G h2 H₀ ab) (T.ss Γ X _ fb G h3 H₀ ab)
 ·obtain⟨hc,h⟩:=aF h;simp only[aO]at hc;obtain⟨⟨⟨hn,hv⟩,hp⟩,hl⟩:=hc;obtain⟨i,h1,h⟩:=ax h;obtain⟨ts,h2,h6⟩:=ax h;clear h;have ha:=((S.a Γ X _ ts G.toGOk h2).1 H₀ ab);have hv':=λp=>gY (p:=p) G.toGOk hn hv h1
  split at h6
  ·rename_i hm;have hm:=bO hm;subst hm;have h7:=bM h6;subst h7;exact fE ((g9 (Ae oS Cj Cg pI (hv' _) ha rfl (yt hp) hl (bh hp _ _) rfl)).imp λD σ H h=>xK OX h)
  ·split at h6
   ·rename_i hm;have hm:=bO hm;subst hm;have h7:=bM h6;subst h7;exact fE ((g9 (Ae oS PySem.F.slot_list_extend PySem.F.type_list_extend T8 (hv' _) ha rfl (yt hp) hl (bh hp _ _) rfl)).imp λD σ H h=>xK OZ h)
   ·cases h6
 ·obtain⟨hc,h⟩:=aF h;obtain⟨fe,h1,rfl⟩:=aA h;exact fE (T3 (S.e Γ X _ fe G.toGOk h1 H₀ ab) (gB hc _ _ _))
 ·obtain⟨fi,h1,h⟩:=ax h;obtain⟨g,h2,h⟩:=ax h;obtain⟨fb,h3,rfl⟩:=aA h;obtain⟨i1,i2⟩:=S.i Γ X _ _ fi G.toGOk h1;exact fE (XI G.never G.calm (i1 H₀ ab) ((j4 G.toGOk n _ g h2).1 H₀ ab) (T.ss Γ X _ fb G h3 H₀ ab) i2)
 ·-- x=[.. for ..]
  obtain⟨hc,h⟩:=aF h;simp only[aO]at hc;obtain⟨i,h1,h⟩:=ax h;obtain⟨fc,h2,rfl⟩:=aA h;obtain⟨c1,c2⟩:=S.c Γ X _ _ _ _ _ fc G.toGOk h2;split
  ·rcases m7 G.toGOk with⟨z,hl⟩ | z
   ·obtain⟨t,ht,k⟩:=c2 H₀ ab i _ _ _ _ (G.toGOk.jN h1) hl z;exact tL (λσ H Q h=>ht σ H Q (AB h)) k
   ·exact tL (λσ H Q h=>AB h) (gK G.toGOk h1 hc.1 (c1 H₀ ab _) z)
  refine fE ?_;rcases m7 G.toGOk with⟨z,hl⟩ | z
  ·obtain⟨t,ht,k⟩:=c2 H₀ ab i _ _ _ _ (G.toGOk.jN h1) hl z;split
   ·exact k.imp λD σ H h=>tM ht h
   ·exact tL ht k
  ·have k:=gK G.toGOk h1 hc.1 (c1 H₀ ab _) z;split
   ·exact k.imp λD σ H h=>tM (λ_ _ _ h=>h) h
   ·exact tL (λ_ _ _ h=>h) k
 ·-- x=[..]
  obtain⟨hc,h⟩:=aF h;simp only[aO]at hc;obtain⟨i,h1,h⟩:=ax h;obtain⟨ts,h2,rfl⟩:=aA h;have he:=λp=>Fs (pos:=p) ((S.a Γ X _ ts G.toGOk h2).1 H₀ ab)
  refine fE ?_;rename_i x p1 es lp sp _ _;have k:=gK (p:=p1) (sp:=sp) G.toGOk h1 hc.1 (he lp) rfl;split
  ·exact k.imp λD σ H h=>tM (λ_ _ _ h=>h) h
  ·exact tL (λ_ _ _ h=>h) k
 ·obtain⟨hc,h⟩:=aF h;simp only[aO]at hc;obtain⟨i,h1,h⟩:=ax h;split at h
  ·obtain⟨fo,h2,rfl⟩:=aA h;refine fE ?_;obtain⟨o1,o2⟩:=U7 Γ X _ fo G.toGOk h2 H₀ ab;exact(gK G.toGOk h1 hc.1.2 o1 (gB hc.1.1 _ _ _)).imp λD σ H h=>Lc o2 (λ_ _ _ h=>h) h
  ·obtain⟨fe,h2,rfl⟩:=aA h;split
   ·exact RR i (gK G.toGOk h1 hc.1.2 (KR (S.e Γ X _ fe G.toGOk h2 H₀ ab)) (gB hc.1.1 _ _ _))
   refine fE ?_;exact RR i (gK G.toGOk h1 hc.1.2 (S.e Γ X _ fe G.toGOk h2 H₀ ab) (gB hc.1.1 _ _ _))
 ·obtain⟨hc,h⟩:=aF h;simp only[aO]at hc;obtain⟨i,h1,h⟩:=ax h;obtain⟨g,h2,h⟩:=ax h;obtain⟨fe,h3,rfl⟩:=aA h;refine fE ?_;unfold Me at h2;split at h2
  ·cases h2;exact AX G.toGOk h1 hc.1 (λa b c e=>by
    unfold Qi at e;split at e
    ·cases e;exact⟨_,_,rfl,rfl,rfl⟩
    ·cases e) iop_add (S.e Γ X _ fe G.toGOk h3 H₀ ab)
  ·cases h2;exact AX G.toGOk h1 hc.1 (λa b c e=>by
    unfold YJ at e;split at e
    ·cases e;exact⟨_,_,rfl,rfl,rfl⟩
    ·cases e) Of (S.e Γ X _ fe G.toGOk h3 H₀ ab)
  ·cases h2
 ·obtain⟨hc,h⟩:=aF h;obtain⟨g,h1,h⟩:=ax h;obtain⟨fe,h2,rfl⟩:=aA h;obtain⟨g1,g2,g3,g4⟩:=j4 G.toGOk n _ g h1;refine fE (XH (S.e Γ X _ fe G.toGOk h2 H₀ ab) (g1 H₀ ab) ?_ ?_ (g3 _))
  ·rename_i ts k tp e sp _ _;have z:=gB (yg hc) (some (Expr.Tuple ts k tp)) sp.line X.env;exact z
  ·rename_i ts k tp e sp _ _;cases e<;>first | rfl | cases hc
 ·cases h
theorem YS(Γ:Gm)(X:Cx)(st:aE)(f:FS)(G:Mg Γ X)(h:Qj (n+1) Γ st=some f)(H₀ ab:Hp):PS X st (tS X H₀ ab f):=by
 have h:some (Ge (Sm Γ st) (((Gd n Γ st).or (wq n Γ st)).getD λ_=>none))=some f:=h
 cases h;refine Gf ?_ _;cases y:Gd n Γ st with
 | some g=>exact YR G y H₀ ab
 | none =>
  cases z:wq n Γ st with
  | none=>exact J7.imp λD σ H ⟨F,ρ,o,R,hf,q⟩=>by cases hf
  | some g=>exact T.s0 Γ X st _ G z H₀ ab
end
theorem YT:∀n:Nat,YQ n
 | 0=>⟨(λ_ _ _ _ _ h=>by cases h),(λ_ _ _ _ _ h=>by cases h),(λ_ _ _ _ _ h=>by cases h)⟩
 | n+1=>⟨YS (YT n),Va (YT n),U9 (YT n)⟩
noncomputable def Mh:List Str:=["append","extend","clear","pop","insert","reverse","remove"]
mutual
def YU:Nat->aE->List Str
 | 0,_=>[]
 | n+1,st=>match st with
  | .Expr (.Call (.Attribute (.Name x _) m _) _ _ _) _=>if Mh.contains m then [x]else []
  | .Assign [.Subscript (.Name x _) _ _] _ _=>[x]
  | .If _ a b _=>u9 n a++u9 n b
  | .For _ _ a b _=>u9 n a++u9 n b
  | .While _ a b _=>u9 n a++u9 n b
  | .Try a _ b _ _=>u9 n a++u9 n b
  | _=>[]
def u9:Nat->List aE->List Str
 | 0,_=>[]
 | n+1,[]=>[]
 | n+1,s::r=>YU n s++u9 n r
end
def lx:Nat:=120
def defName(s:aE):Str:=match s with
 | .FunctionDef x _ _ _ _ _ _ _ _ _=>x
 | _=>""
abbrev CT:=Str->Option Ob->ay->cH
abbrev cN(c:CT)(x:Str)(ps:ay):cH:=c x none ps
abbrev cO(c:CT)(x:Str)(o:Ob)(ps:ay):cH:=c x (some o) ps
def gm0(P:Pg)(st:aE)(Si:List Str)(cls:List (Str×Nat))(make:Str->ay->Option (List (Str×Fd)))(zm:Bool)(c:CT):Gm where
 sc:=(aP st).names
 N:=cq st
 fns:=(P.defs.filter λd=>!P.bJ.contains d.1).map λd=>(d.1,(params d.2).length)
 cons:=P.cons
 dR:=P.dR
 chg:=(u9 lx (cy st)).eraseDups++(P.own.lookup (defName st)).getD []++(P.Ro.lookup (defName st)).getD []
 own:=true
 call:=cN c
 exc:=P.exc
 sub:=P.sub
 tabs:=P.tabs
 Si:=Si
 AU:=(P.defs.filter λd=>P.bJ.contains d.1).map λd=>(d.1,(params d.2).length-1)
 nV:=cO c
 cls:=cls
 make:=make
 flds:=P.flds
 gz:=P.gz
 zm:=zm
 Ro:=(P.Ro.lookup (defName st)).getD []
 dct:=(P.dct.lookup (defName st)).getD []
 NW:=(P.NW.lookup (defName st)).getD []
def Vb(st:aE):Str:=(params st).headD ""
def ky(P:Pg)(st:aE)(c:CT):Gm:=gm0 P st ((if P.bJ.contains (defName st)=true then [Vb st]else [])++(P.obs.lookup (defName st)).getD []) [] (λ_ _=>none) (P.ny.contains (defName st)) c
noncomputable def q8(f:FS)(N:Nat)(ps:ay):cH:=match f (ps.map .val++List.replicate (N-ps.length) .un)with
 | some (.rt (.val p))=>some (.val p)
 | some (.rt (.own ps))=>some (.own ps)
 | some (.nx _)=>some (.val .cE)
 | _=>none
def vb(f:FS)(N:Nat)(o:Ob)(ps:ay):cH:=match f (ps.map .val++.ob o::List.replicate (N-(ps.length+1)) .un)with
 | some (.rt (.val p))=>some (.val p)
 | some (.rt (.own ps))=>some (.own ps)
 | some (.nx _)=>some (.val .cE)
 | _=>none
def jO(P:Pg):Nat->CT
 | 0,_,_,_=>none
 | k+1,x,o,ps=>(P.defs.lookup x).bind λst=>(gD lx (ky P st (jO P k)) (cy st)).bind λf=>match o with
  | none=>q8 f (cq st).length ps
  | some o=>if ps.length+1=(params st).length then vb f (cq st).length o ps else none
def run(P:Pg)(k:Nat)(x:Str)(ps:ay):cH:=jO P k x none ps
def q9(P:Pg)(k:Nat)(x:Str)(o:Ob)(ps:ay):cH:=jO P k x (some o) ps
theorem Mi{P:Pg}{k:Nat}{x:Str}{st:aE}{f:FS}(h:P.defs.lookup x=some st)(hf:gD lx (ky P st (jO P k)) (cy st)=some f)(ps:ay):run P (k+1) x ps=q8 f (cq st).length ps:=by
 show(P.defs.lookup x).bind _=_;rw[h];show(gD lx (ky P st (jO P k)) (cy st)).bind _=_;rw[hf];rfl
theorem Ql{P:Pg}{k:Nat}{x:Str}{st:aE}{f:FS}(h:P.defs.lookup x=some st)(hf:gD lx (ky P st (jO P k)) (cy st)=some f)(o:Ob)(ps:ay)(hl:ps.length+1=(params st).length):q9 P (k+1) x o ps=vb f (cq st).length o ps:=by
 show(P.defs.lookup x).bind _=_;rw[h];show(gD lx (ky P st (jO P k)) (cy st)).bind _=_;rw[hf];show(if ps.length+1=(params st).length then vb f (cq st).length o ps else none)=_
 rw[if_pos hl]
theorem qL{α:Type}(p:Str->Bool)(x:Str):∀l:List (Str×α),(l.filter λd=>p d.1).lookup x=if p x=true then l.lookup x else none
 | []=>by simp
 | (n,a)::r=>by
  have ih:=qL p x r;by_cases z:x=n
  ·subst z;cases hp:p x<;>simp[List.filter_cons,hp,js,ih]
  ·have z':(x==n)=false:=by simpa using z
   cases hp:p n<;>simp[List.filter_cons,hp,js,z',ih]
theorem iw{α:Type}(p:Str->Bool)(x:Str)(l:List (Str×α))(v:α)(h:(l.filter λd=>p d.1).lookup x=some v):l.lookup x=some v:=by
 rw[qL]at h;exact(aF h).2
theorem ij{α β:Type}(g:α->β)(x:Str):∀l:List (Str×α),(l.map λd=>(d.1,g d.2)).lookup x=(l.lookup x).map g
 | []=>rfl
 | (n,a)::r=>by
  rw[bX,js,js];cases x==n with
  | true=>rfl
  | false=>exact ij g x r
section
variable {prog:bK} {w:aW} {K:aj} {mg:dQ} {base:Heap}
def Qm(K:aj)(mg:dQ)(x:Str):Prop:=(∃p q fs fT Ls FU,Lr K mg p q fs fT Ls FU)/\x∈d9/\∃c T,W.tabIn K x=some (c,T)/\W.codeHdIn K c T=true
theorem DX{K:aj}{x:Str}{c T:ae}(h:W.tabIn K x=some (c,T)):∃f oc od fd uM,W.nsIn K mainGlobals x=some (some (.ref f))/\K.lookup f=some ⟨oc,od,.func fd,uM⟩/\fd.code=.ref c:=by
 unfold W.tabIn at h;split at h
 ·rename_i f hf;split at h
  ·rename_i oc od fd uM hl;split at h
   ·rename_i c' hc;split at h
    ·split at h
     ·cases h;exact⟨f,oc,od,fd,uM,hf,hl,hc⟩
     ·cases h
    ·cases h
   ·cases h
  ·cases h
 ·cases h
def Mj(K:aj)(f:ae)(dI:aq):Prop:=∃oc od fd uM,K.lookup f=some ⟨oc,od,.func fd,uM⟩/\fd.code=dI
theorem Gh{P:bK}{w:aW}{K:aj}{mg:dQ}{base:Heap}{x qual:Str}{st:aE}{f:ae}{fd:dN}{N ps:List Str}{k:Nat}{sp:Sp}(F:C0 K x qual st f fd)(S:dY N ps (aP st))(len:∀vs H Q E,sp vs H Q E->vs.length=ps.length)
  (hbody:∀(dI:aq) (A:bY) (outer:List Env) (s:az) (H:Hp) (vs:List V) (Q:VK) (E:XK),Mj K f dI->eJ k (A.deeper (envOfC qual (aP st) s.heap.objs.size f dI))->sp vs H Q E ->
   ∃t,qU (kq (kB P w) P w K mg base N qual (aP st) f dI A outer s H E) (cy st) t/\t {nx:=λ_ H'=>Q .cE H',rt:=Q} (start N vs) H):FnOk P w K mg base (kB P w) (k+1) f fd ps sp:=by
 obtain⟨oc,od,kV,doc,pm,an,dI,ct,uM,rfl,lk,vw⟩:=F.ex;exact Fe lk vw S len λA outer s H vs Q E hr mQ=>hbody dI A outer s H vs Q E ⟨oc,od,_,uM,lk,rfl⟩ hr mQ
structure Vc (P:Pg) (w:aW) (K:aj) (mg:dQ):Prop where
 fns:∀x st,P.defs.lookup x=some st->∃f fd,C0 K x x st f fd/\fO K fd (params st) []/\mg x=some (.ref f)/\dY (cq st) (params st) (aP st)
 cons:∀x p,P.cons.lookup x=some p->∃u v,mg x=some u/\RelV v u/\∀F,dh K F p v
 dR:∀x,P.dR.contains x=true->mg x=none
 excs:∀C,P.exc.contains C=true->vq K C
 subs:∀C D b,P.sub.lookup (C,D)=some b->Lb K mg C D b
 tabs:∀T b8,P.tabs.lookup T=some b8->FH K mg w.params T b8
 ns:∀x a,W.nsIn K mainGlobals x=some (some (.ref a))->mg x=some (.ref a)
 cls:∀C st,P.cls.lookup C=some st->∃Ca f fd,Mk K Ca f/\VX K Ca/\(∀g,P.flds.contains g=true->pB K Ca g)/\mg C=some (.ref Ca)/\C0 K "__init__" (C++".__init__") st f fd/\fO K fd (params st) []/\dY (cq st) (params st) (aP st)
 gz:∀T b8,P.gz.lookup T=some b8->DN K mg w.params T b8
 zm:∀x st,P.defs.lookup x=some st->P.ny.contains (defName st)=true->Qm K mg x
theorem pY{F H:Hp}{ps:ay}{vs:List V}{N:List Str}(hs:Same F H)(hb:bj K F ps vs):cY K H F F (ps.map .val++List.replicate (N.length-ps.length) .un) (start N vs) H where
 sub:=hs
 keep:=Same.refl H
 base:=Same.refl F
 fresh:=λ_ _ e=>.inl e
 val:=λi p e=>by
  have hl:=hb.length;by_cases hi:i<ps.length
  ·rw[gR (by simpa using hi),cm]at e
   cases z:ps[i]? with
   | none=>rw[z]at e;cases e
   | some q =>
    rw[z]at e;cases e;obtain⟨v,h1,h2⟩:=hb.get z;refine⟨v,?_,h2⟩;unfold start;rw[gR (by rw[aB,<-hl];exact hi),cm,h1]
    rfl
  ·rw[iC (by simpa using hi),jm]at e
   split at e<;>cases e
 own:=λi qs e=>by
  by_cases hi:i<ps.length
  ·rw[gR (by simpa using hi),cm]at e
   cases z:ps[i]? with
   | none=>rw[z]at e;cases e
   | some q=>rw[z]at e;cases e
  ·rw[iC (by simpa using hi),jm]at e
   split at e<;>cases e
 apart:=λi j qs rs a e=>by
  by_cases hi:i<ps.length
  ·rw[gR (by simpa using hi),cm]at e
   cases z:ps[i]? with
   | none=>rw[z]at e;cases e
   | some q=>rw[z]at e;cases e
  ·rw[iC (by simpa using hi),jm]at e
   split at e<;>cases e
 obs:=λi qs e=>by
  by_cases hi:i<ps.length
  ·rw[gR (by simpa using hi),cm]at e
   cases z:ps[i]? with
   | none=>rw[z]at e;cases e
   | some q=>rw[z]at e;cases e
  ·rw[iC (by simpa using hi),jm]at e
   split at e<;>cases e
 cn:=λi qs e=>by
  by_cases hi:i<ps.length
  ·rw[gR (by simpa using hi),cm]at e
   cases z:ps[i]? with
   | none=>rw[z]at e;cases e
   | some q=>rw[z]at e;cases e
  ·rw[iC (by simpa using hi),jm]at e
   split at e<;>cases e
 len:=by
  unfold start;rw[bF,bF,aB,aB,jn,jn,hb.length]
def FR(P:Pg)(prog:bK)(w:aW)(K:aj)(mg:dQ)(base:Heap)(k:Nat):Prop:=∀(x:Str) (st:aE) (f:ae) (fd:dN),P.defs.lookup x=some st->mg x=some (.ref f)->C0 K x x st f fd->dY (cq st) (params st) (aP st) ->
 FnOk prog w K mg base (kB prog w) (3*k) f fd (params st) (Dv K (params st).length (run P k x))/\FnOk prog w K mg base (kB prog w) (3*k) f fd (params st) (i0 K ((params st).length-1) (q9 P k x))
section
variable {P:Pg} (O:Vc P w K mg) {k:Nat} (ih:FR P prog w K mg base k)
include O ih
theorem Sn{st:aE}{x:Str}{f:ae}{dI:aq}{A:bY}{outer:List Env}{s:az}{H:Hp}{E:XK}{Si:List Str}{cls:List (Str×Nat)}{make:Str->ay->Option (List (Str×Fd))}{zm:Bool}{j:Nat}(S:dY (cq st) (params st) (aP st))
  (hr:eJ j (A.deeper (envOfC x (aP st) s.heap.objs.size f dI))) (hj:3*k<=j) (hcl:∀C n,cls.lookup C=some n->∃k' Ca f' fd ps,Mk K Ca f'/\VX K Ca/\(∀f,P.flds.contains f=true->pB K Ca f)/\FnOk prog w K mg base (kB prog w) k' f' fd ps (spI K n (make C))/\eJ (k'+1) (A.deeper (envOfC x (aP st) s.heap.objs.size f dI))/\mg C=some (.ref Ca)/\fO K fd ps [])
  (adL:zm=true->LX (gm0 P st Si cls make zm (jO P k)) (kq (kB prog w) prog w K mg base (cq st) x (aP st) f dI A outer s H E)) :
  Mg (gm0 P st Si cls make zm (jO P k)) (kq (kB prog w) prog w K mg base (cq st) x (aP st) f dI A outer s H E):=by
 refine⟨⟨rfl,rfl,S.nd,S.kind,rfl,hr.hd,?_,λ_ _=>rfl,λy n hy=>?_,O.cons,O.dR,O.excs,O.subs,O.tabs,⟨λy n hy=>?_,O.ns,hcl,O.gz,adL⟩⟩,CG,rfl,rfl⟩
 ·have:=hr.un;show(A.deeper _).units+1150<cLine
  lia
 ·have hy:((P.defs.filter λd=>!P.bJ.contains d.1).map λd=>(d.1,(params d.2).length)).lookup y=some n:=hy
  rw[ij (λst=>(params st).length)]at hy
  obtain⟨oO,h1,h2⟩:=aA hy;subst h2;have h1:=iw (λx=>!P.bJ.contains x) y P.defs oO h1
  obtain⟨f',Jt,F1,B1,m1,S1⟩:=O.fns y oO h1;exact⟨3*k,f',Jt,params oO,(ih y oO f' Jt h1 m1 F1 S1).1,hr.mono hj,m1,F1.kp,B1⟩
 ·have hy:((P.defs.filter λd=>P.bJ.contains d.1).map λd=>(d.1,(params d.2).length-1)).lookup y=some n:=hy
  rw[ij (λst=>(params st).length-1)]at hy
  obtain⟨oO,h1,h2⟩:=aA hy;subst h2;have h1:=iw (λx=>P.bJ.contains x) y P.defs oO h1
  obtain⟨f',Jt,F1,B1,m1,S1⟩:=O.fns y oO h1;exact⟨3*k,f',Jt,params oO,(ih y oO f' Jt h1 m1 F1 S1).2,hr.mono hj,m1,F1.kp,B1⟩
theorem Ml{st:aE}{x:Str}{f:ae}{dI:aq}{A:bY}{outer:List Env}{s:az}{H:Hp}{E:XK}{Si:List Str}{cls:List (Str×Nat)}{make:Str->ay->Option (List (Str×Fd))}{zm:Bool}(h:P.defs.lookup x=some st)(hm:mg x=some (.ref f))(hc:Mj K f dI)(hB:P.ny≠[]->Aj mg base)
  (hr:eJ (3*k+2) (A.deeper (envOfC x (aP st) s.heap.objs.size f dI))) (hs:P.ny.contains (defName st)=true):LX (gm0 P st Si cls make zm (jO P k)) (kq (kB prog w) prog w K mg base (cq st) x (aP st) f dI A outer s H E):=by
 obtain⟨⟨p,q,fs,fT,Ls,FU,D⟩,hx,c,T,ht,hC⟩:=O.zm x st h hs;have vw:dI=.ref c:=by
  obtain⟨f',oc,od,fd,uM,h1,h2,h3⟩:=DX ht;obtain⟨oc',od',Jt,ahE,g1,g2⟩:=hc;have:=O.ns x f' h1;rw[hm]at this;cases this;rw[h2]at g1;cases g1;exact g2.symm.trans h3
 refine⟨⟨p,q,fs,fT,Ls,FU,3*k,D,hr,λy n hy=>?_,λy n hy=>?_⟩,⟨⟨x,c,T,hx,ht,hC,vw,rfl⟩,hB (λz=>by rw[z]at hs;cases hs)⟩⟩
 ·have hy:((P.defs.filter λd=>!P.bJ.contains d.1).map λd=>(d.1,(params d.2).length)).lookup y=some n:=hy
  rw[ij (λst=>(params st).length)]at hy
  obtain⟨oO,h1,h2⟩:=aA hy;subst h2;have h1:=iw (λx=>!P.bJ.contains x) y P.defs oO h1
  obtain⟨f',Jt,F1,B1,m1,S1⟩:=O.fns y oO h1;exact⟨3*k,f',Jt,params oO,bc _,(ih y oO f' Jt h1 m1 F1 S1).1,m1,F1.kp,B1⟩
 ·have hy:((P.defs.filter λd=>P.bJ.contains d.1).map λd=>(d.1,(params d.2).length-1)).lookup y=some n:=hy
  rw[ij (λst=>(params st).length-1)]at hy
  obtain⟨oO,h1,h2⟩:=aA hy;subst h2;have h1:=iw (λx=>P.bJ.contains x) y P.defs oO h1
  obtain⟨f',Jt,F1,B1,m1,S1⟩:=O.fns y oO h1;exact⟨3*k,f',Jt,params oO,bc _,(ih y oO f' Jt h1 m1 F1 S1).2,m1,F1.kp,B1⟩
end
theorem Mm{P:Pg}(O:Vc P w K mg)(hB:P.ny≠[]->Aj mg base):∀(k:Nat),FR P prog w K mg base k
 | 0=>λx st f fd h RF F S=>by
  have no:∀vs H Q E,¬Dv K (params st).length (run P 0 x) vs H Q E:=λvs H Q E ⟨F,ps,e,_,_,_,z,_⟩=>by cases z
  have no2:∀vs H Q E,¬i0 K ((params st).length-1) (q9 P 0 x) vs H Q E:=λvs H Q E ⟨F,o,ps,e,_,_,_,_,_,_,_,z,_⟩=>by cases z
  exact⟨⟨λvs H Q E h=>absurd h (no vs H Q E),λA outer s H args us vs Q E _ _ _ _ h=>absurd h (no vs H Q E)⟩,⟨λvs H Q E h=>absurd h (no2 vs H Q E),λA outer s H args us vs Q E _ _ _ _ h=>absurd h (no2 vs H Q E)⟩⟩
 | k+1=>λx st f fd h RF F S=>by
  have ih:=Mm (P:=P) O hB k;refine⟨Gh (k:=3*k+2) F S (λvs H Q E ⟨F',ps,e,_,hb,hl,_⟩=>by rw[<-hb.length];exact hl) (λdI A outer s H vs Q E TL hr mQ=>?_),Gh (k:=3*k+2) F S (λvs H Q E ⟨F',o,ps,e,a,us,hv,_,_,hb,hl,fV,_⟩=>?_) (λdI A outer s H vs Q E TL hr mQ=>?_)⟩
  ·obtain⟨F',ps,e,hs,hb,hl,fV,hq⟩:=mQ;have fV:(P.defs.lookup x).bind (λst=>(gD lx (ky P st (jO P k)) (cy st)).bind λf=>q8 f (cq st).length ps)=some e:=fV
   rw[h]at fV;obtain⟨g,hg,fV⟩:=ax (show(gD lx (ky P st (jO P k)) (cy st)).bind (λf=>q8 f (cq st).length ps)=some e from fV)
   have G:Mg (ky P st (jO P k)) (kq (kB prog w) prog w K mg base (cq st) x (aP st) f dI A outer s H E):=Sn O ih S hr (by lia) (λ_ _ z=>by cases z) (Ml O ih h RF TL hB hr)
   refine⟨tS (kq (kB prog w) prog w K mg base (cq st) x (aP st) f dI A outer s H E) H F' g,(YT lx).ss (ky P st (jO P k)) _ (cy st) g G hg H F',?_⟩;unfold q8 at fV;split at fV
   ·rename_i p z;cases fV;exact⟨F',_,_,pY hs hb,z,hq⟩
   ·rename_i qs z;cases fV;exact⟨F',_,_,pY hs hb,z,hq⟩
   ·rename_i fA z;cases fV;exact⟨F',_,_,pY hs hb,z,λF2 B6 H2 R2 s2=>hq .cE F2 H2 R2.post s2 (dC.mpr rfl)⟩
   ·cases fV
  ·have fV:(P.defs.lookup x).bind (λst=>(gD lx (ky P st (jO P k)) (cy st)).bind λf=>if ps.length+1=(params st).length then vb f (cq st).length o ps else none)=some e:=fV
   rw[h]at fV;obtain⟨g,hg,fV⟩:=ax (show(gD lx (ky P st (jO P k)) (cy st)).bind (λf=>if ps.length+1=(params st).length then vb f (cq st).length o ps else none)=some e from fV)
   rw[hv,bF,List.length_singleton,<-hb.length];exact(aF fV).1
  ·obtain⟨F',o,ps,e,a,us,rfl,hs,ho,hb,hl,fV,hq⟩:=mQ;have fV:(P.defs.lookup x).bind (λst=>(gD lx (ky P st (jO P k)) (cy st)).bind λf=>if ps.length+1=(params st).length then vb f (cq st).length o ps else none)=some e:=fV
   rw[h]at fV;obtain⟨g,hg,fV⟩:=ax (show(gD lx (ky P st (jO P k)) (cy st)).bind (λf=>if ps.length+1=(params st).length then vb f (cq st).length o ps else none)=some e from fV)
   have fV:=(aF fV).2;have G:Mg (ky P st (jO P k)) (kq (kB prog w) prog w K mg base (cq st) x (aP st) f dI A outer s H E):=Sn O ih S hr (by lia) (λ_ _ z=>by cases z) (Ml O ih h RF TL hB hr)
   refine⟨tS (kq (kB prog w) prog w K mg base (cq st) x (aP st) f dI A outer s H E) H F' g,(YT lx).ss (ky P st (jO P k)) _ (cy st) g G hg H F',?_⟩;unfold vb at fV;split at fV
   ·rename_i p z;cases fV;exact⟨F',_,_,yf hs ho hb,z,hq⟩
   ·rename_i qs z;cases fV;exact⟨F',_,_,yf hs ho hb,z,hq⟩
   ·rename_i fA z;cases fV;exact⟨F',_,_,yf hs ho hb,z,λF2 B6 H2 R2 s2=>hq .cE F2 H2 R2.post s2 (dC.mpr rfl)⟩
   ·cases fV
def Gi(ns:List Int):PV:=.ao (ns.map .int)
theorem AY{F:Hp}:∀ns:List Int,bj K F (ns.map .int) (ns.map V.int)
 | []=>.nil
 | n::r=>.cons (aM.mpr rfl) (AY r)
theorem Vd{P:Pg}{k:Nat}{H:Hp}{a:ae}{ns:List Int}(hr:run P k "law" [Gi ns]=some (.val (.bl true)))(hS:ql K H a (ns.map V.int)):Dv K 1 (run P k "law") [.ref a] H (λv _=>v=.bl true) λ_ _ _=>False :=
 ⟨H,[Gi ns],_,Same.refl H,.cons (bD.mpr ⟨a,_,rfl,hS,AY ns⟩) .nil,rfl,hr,λv F' H' _ _ b=>bZ.mp b⟩
end
theorem gw{α β:Type} [BEq α] [LawfulBEq α] {k:α} {v:β}:∀{l:List (α×β)},l.lookup k=some v->(k,v)∈l
 | [],h=>by cases h
 | (a,b)::l,h=>by
  rw[js]at h;cases z:k==a with
  | true =>
   rw[z]at h;cases h;rw[bO z];exact bo
  | false =>
   rw[z]at h;exact bz _ (gw h)
theorem C1.at{K:aj}{h:Heap}{mg:dQ}{C D:Str}{b:Bool}(x:C1 K C D b)(X:K.In h)(G:h.Ns mainGlobals mg):Lb K mg C D b:=by
 obtain⟨cls,dv,hc,hn,r⟩:=x;refine⟨cls,dv,hc,?_,r⟩;rcases hn with z | ⟨z,y⟩
 ·exact .inl (W.mg_of X G z)
 ·exact .inr ⟨W.mg_none_of X G z,y⟩
theorem G7.at{K:aj}{h:Heap}{mg:dQ}{P:Params}{T:Str}{b8:List (Str×Str)}(x:G7 K P T b8)(X:K.In h)(G:h.Ns mainGlobals mg):FH K mg P T b8:=by
 obtain⟨a,es,n,h1,h2,h3,h4⟩:=x;refine⟨a,es,n,W.mg_of X G h1,h2,h3,λk fn e=>?_⟩
 obtain⟨f,h5,h6⟩:=h4 (k,fn) (gw e);exact⟨f,h5,W.mg_of X G h6,h6⟩
theorem zy.at{K:aj}{h:Heap}{mg:dQ}{P:Params}{T:Str}{b8:List (Str×PV)}(x:zy K P T b8)(X:K.In h)(G:h.Ns mainGlobals mg):DN K mg P T b8:=by
 obtain⟨a,es,n,h1,h2,h3,h4⟩:=x;exact⟨a,es,n,W.mg_of X G h1,h2,h3,λk p e=>h4 (k,p) (gw e)⟩
theorem JK.at{K:aj}{h base:Heap}{mg:dQ}(b:JK K)(X:K.In h)(G:h.Ns mainGlobals mg)(Y:K.In base):Aj mg base :=
 let ⟨bm,o,h1,h2,h3,h4,h5⟩:=b;⟨bm,o,W.mg_of X G h1,h2,h3,Y _ _ h4,h5⟩
def wt(K:aj):List (ae×Str):=d9.filterMap λx=>(W.tabIn K x).map λcT=>(cT.2,uN x)
theorem wu{α β:Type} [BEq α] [LawfulBEq α] {b:α} {q:β}:∀{l:List (α×β)},(l.map (·.1)).Nodup->(b,q)∈l->l.lookup b=some q
 | [],_,h=>nomatch h
 | (a,v)::l,hn,h=>by
  rw[bX,eA]at hn;rw[js];rcases aZ.mp h with e | h'
  ·cases e;rw[CQ]
  ·have:(b==a)=false:=by
    rw[rO];intro z;subst z;exact hn.1 (bN.mpr ⟨_,h',rfl⟩)
   rw[this];exact wu hn.2 h'
theorem Ii(K:aj):(wt K).map (·.1)=d9.filterMap λx=>(W.tabIn K x).map (·.2):=by
 unfold wt;rw[List.map_filterMap]
 congr 1
 funext x
 cases W.tabIn K x<;>rfl
theorem nA.tabs{K:aj}{h:Heap}(t:nA K h)(X:K.In h):(∀b q,(wt K).lookup b=some q->h.get? b=some {cls:=.none,data:=.fields #[]}/\isCodeTable h b/\K.lookup b=none)/\∀H:Hp,(∀b q,(wt K).lookup b=some q->H b=some (.zx q))->sR K H:=by
 refine⟨λb q e=>?_,λH hH x hx c T e=>?_⟩
 ·have hm:=gw e;unfold wt at hm;obtain⟨x,hx,e2⟩:=wX.mp hm;obtain⟨cT,e3,e4⟩:=jS.mp e2;cases e4;obtain⟨h1,h2,h3⟩:=t.at_ x hx cT.1 cT.2 e3;obtain⟨o,vs,_,_,_,_,_,_,_,g1,g2,g3,g4,_⟩:=W.codeHd_of_K X h1;exact⟨h2,⟨_,o,vs,g1,g2,g3,g4⟩,h3⟩
 ·refine hH T (uN x) (wu (by rw[Ii];exact t.nd) ?_)
  unfold wt;exact wX.mpr ⟨x,hx,by rw[e];rfl⟩
structure Mn (P:Pg):Prop where
 dn:P.defs.all (λd=>defName d.2==d.1)=true
 sp:P.ny=[]\/∃p q,P.defs.lookup ("spread":Str)=some (iK p)/\P.defs.lookup ("tell_new":Str)=some (tY q)/\((q 15).endLine==(q 20).line)=true/\P.dR.contains ("len":Str)=true
theorem adM{P:Pg}{K:aj}{h:Heap}{mg:dQ}(X:K.In h)(G:h.Ns mainGlobals mg)(hd:∀d∈P.defs,JH K d.1 d.2)
  (hc:∀d∈P.cons,∃u v,W.nsIn K mainGlobals d.1=some (some u)/\RelV v u/\∀F,dh K F d.2 v) (hb:∀x∈P.dR,W.nsIn K mainGlobals x=some none) (he:∀C∈P.exc,vq K C) (hs:∀d∈P.sub,C1 K d.1.1 d.1.2 d.2) {w:aW} (ht:∀d∈P.tabs,G7 K w.params d.1 d.2) (hcl:∀d∈P.cls,SG K d.1 d.2 P.flds) (hct:∀d∈P.gz,zy K w.params d.1 d.2) (LS:Mn P) (hlm:∀x∈P.ny,SH K x):Vc P w K mg where
 fns:=λx st e=>by
  obtain⟨⟨f,fd,a,F,b⟩,s⟩:=hd (x,st) (ez e);exact⟨f,fd,F,.all b,W.mg_of X G a,s⟩
 cons:=λx p e=>by
  obtain⟨u,v,a,r,b⟩:=hc (x,p) (ez e);exact⟨u,v,W.mg_of X G a,r,b⟩
 dR:=λx e=>W.mg_none_of X G (hb x (by simpa using e))
 excs:=λC e=>he C (by simpa using e)
 subs:=λC D b e=>(hs ((C,D),b) (gw e)).at X G
 tabs:=λT b8 e=>(ht (T,b8) (gw e)).at X G
 ns:=λx a e=>W.mg_of X G e
 cls:=λC st e=>by
  obtain⟨Ca,f,fd,a,M,c,na,F,b,s⟩:=hcl (C,st) (ez e);exact⟨Ca,f,fd,M,c,λg hg=>na g (by simpa using hg),W.mg_of X G a,F,.all b,s⟩
 gz:=λT b8 e=>(hct (T,b8) (gw e)).at X G
 zm:=λx st e hs=>by
  have hx:defName st=x:=bO (eU.mp LS.dn (x,st) (ez e));rcases LS.sp with z | ⟨p,q,e1,e2,e3,e4⟩
  ·rw[z]at hs;cases hs
  ·obtain⟨⟨f1,fd1,a1,F1,b1⟩,s1⟩:=hd _ (ez e1);obtain⟨⟨f2,fd2,a2,F2,b2⟩,s2⟩:=hd _ (ez e2);rw[hx]at hs;exact⟨⟨p,q,f1,f2,fd1,fd2,F1,W.mg_of X G a1,.all b1,s1,F2,W.mg_of X G a2,.all b2,s2,e3,W.mg_none_of X G (hb "len" (by simpa using e4))⟩,hlm x (by simpa using hs)⟩
theorem Ij{P:Pg}{N:Nat}{x:Str}{st:aE}{l:W.OpenLaw}{q:bK}{loose:List Str}{XP:dQ->Heap->Prop}{YP:aW->Heap->Prop}{d:DefRec}(Hg:P.defs.lookup ("law":Str)=some st)(hx:params st=[x])
  (hn:l.most=some 63) (hdn:d.name="law") (hdf:d.params.defaults=[]) (hr:eJ (3*N) callerA) (LS:Mn P) (hY:∀(w:aW) (h:Heap),YP w h->∃K:aj,K.In h/\JL P w K/\nA K h)
  (adN:∀ns:List Int,ns.length<=63->run P N "law" [Gi ns]=some (.val (.bl true))):W.WalkO q loose XP YP l.row.toRowW d [] (λf vs=>PySem.call f vs):=by
 refine Att.Ag hn hdf λw s₀ s₁ mg mb fa o pm cd doc a vs ns G Y ho hd vw RF Kt Ku dD hg=>?_
 obtain⟨K,KX,T,TH⟩:=hY w _ Y;obtain⟨t1,t2⟩:=TH.tabs KX;have O:=adM KX G.T.g T.hd T.hc T.hb T.he T.hs (w:=w) T.ht T.hcl T.hct LS T.hlm;obtain⟨⟨f,fd,e0,F,b⟩,s⟩:=T.hd ("law",st) (ez Hg);rw[hdn]at RF;have e:=RF.symm.trans (W.mg_of KX G.T.g e0);cases e;rw[hx]at b;refine Ho (CX:=kB l.prog w) (sp:=Dv K 1 (run P N "law")) KX G.T.g G.T.b G.T.builtins G.T.nolimit hg t1 t2 Kt Ku (cG dD (by decide)) hr (λbase kb _=>?_) (λs u=>.of_eq (b [u] rfl)) (λH hS=>Vd (adN ns dD) hS) λ_ _ _ ⟨_,_,_,_,_,_,_,_,_,_,_,h,_⟩=>h
 have k:=(Mm (prog:=l.prog) (w:=w) (base:=base) O (λz=>(T.hbm z).at KX G.T.g kb) N "law" st _ fd Hg (W.mg_of KX G.T.g e0) F s).1
 rw[hx]at k;exact k
end L2.PL
namespace L2.PL
open PySem
section
variable {fa fb fc:FE} {g g':PV->PV->bU} {ρ:aG} {gc gd:eY} {ts:bP} {f h:FS} {p q:PV} {i j:Int} {n m:Nat} {ps qs:ay}
theorem DY:gH=100000:=rfl
@[simp] theorem lW:iZ=1000:=rfl
@[simp] theorem adO:O1=18446744073709551616:=rfl
def Wb:cH->bU
 | some (.val p)=>some p
 | _=>none
@[simp] theorem afq:rd n ρ=Wb ρ[n]?:=by unfold rd Wb;rfl
@[simp] theorem aaC:Wb (some (.val p))=some p:=rfl
@[simp] theorem adP:Wb (some .un)=none:=rfl
@[simp] theorem aaD:Wb (some (.own ps))=none:=rfl
@[simp] theorem YV:Wb none=none:=rfl
@[simp] theorem Qn:af fa fb g ρ=(fa ρ).bind λx=>(fb ρ).bind λy=>g x y:=rfl
@[simp] theorem Qo:gU gc gd ρ=(gc ρ).bind λx=>if x=true then gd ρ else some false:=rfl
@[simp] theorem Mo:Fq gc gd ρ=(gc ρ).bind λx=>if x=true then some true else gd ρ:=rfl
@[simp] theorem Qp:gP gc ρ=(gc ρ).map λx=>!x:=rfl
def toBE:PV->Option Bool
 | .bl b=>some b
 | _=>none
@[simp] theorem toB_ap:toB fa ρ=(fa ρ).bind toBE:=by unfold toB toBE;rfl
@[simp] theorem toBE_bl{b:Bool}:toBE (.bl b)=some b:=rfl
@[simp] theorem Qq:uS fa fb ρ=((fa ρ).bind toBE).bind λx=>if x=true then fb ρ else some (.bl false):=by unfold uS;rw[toB_ap]
@[simp] theorem adQ:X4 fa fb ρ=(fa ρ).bind (HS (fb ρ)):=rfl
@[simp] theorem aaE{b:Bool}{w:bU}:HS w (.bl b)=if b=true then some (.bl true)else w:=rfl
@[simp] theorem YW{w:bU}:HS w (.ao [])=w:=rfl
@[simp] theorem Wc{w:bU}:HS w (.ao (p::ps))=some (.ao (p::ps)):=rfl
@[simp] theorem aaF{fr:aG->cH}:Uq n fr ρ=(fr ρ).bind λe=>if n<ρ.length then some (.nx (ρ.set n e))else none:=rfl
@[simp] theorem YX{c:ay->cH}:Ay (aR n c) ts ρ=(ts ρ).bind λas=>(if as.length=n then c as else none).bind HQ:=rfl
@[simp] theorem YY:HQ (.val p)=some (.val p):=rfl
@[simp] theorem YZ:HQ (.own ps)=some (.own ps):=rfl
@[simp] theorem aaG:Pn fa fb ρ=(fa ρ).bind λx=>(fb ρ).bind λy=>HP x y:=rfl
@[simp] theorem Y0:HP (.ao ps) (.ao qs)=if ps.length+qs.length<=gH then some (.own (ps++qs))else none:=rfl
@[simp] theorem aaH:DE fa ρ=(fa ρ).map .val:=rfl
@[simp] theorem Qr{b8:List (Str×Str)}{fns:List (Str×Nat)}{c:eF}:HM b8 fns c fa ts ρ=(fa ρ).bind (Up b8 fns c ts ρ):=rfl
@[simp] theorem Mp{b8:List (Str×Str)}{fns:List (Str×Nat)}{c:eF}{x:Str}:Up b8 fns c ts ρ (.str x)=(b8.lookup x).bind λfn=>(fns.lookup fn).bind λm=>aD (aR m (c fn)) ts ρ:=rfl
@[simp] theorem Y1:Az [.int i]=if 0<=i/\i<1000 then some (.str (toString i))else none:=rfl
@[simp] theorem aaI:Hu fa ρ=((fa ρ).bind toBE).map λx=>.bl (!x):=by unfold Hu;rw[toB_ap]
@[simp] theorem Gj:uT gc fa fb ρ=(gc ρ).bind λx=>if x=true then fa ρ else fb ρ:=rfl
def yu(y:PV)(w:bU)(g':PV->PV->bU):PV->bU
 | .bl true=>w.bind λw=>g' y w
 | .bl false=>some (.bl false)
 | _=>none
@[simp] theorem Mq:chain fa fb fc g g' ρ=(fa ρ).bind λx=>(fb ρ).bind λy=>(g x y).bind (yu y (fc ρ) g'):=by unfold chain yu;rfl
@[simp] theorem Mr{y:PV}{w:bU}:yu y w g' (.bl true)=w.bind λw=>g' y w:=rfl
@[simp] theorem Ms{y:PV}{w:bU}:yu y w g' (.bl false)=some (.bl false):=rfl
@[simp] theorem aaJ:ai ρ=some []:=rfl
@[simp] theorem dP:aa fa ts ρ=(fa ρ).bind λx=>(ts ρ).map λxs=>x::xs:=rfl
@[simp] theorem ox:aY ts ρ=(ts ρ).bind λps=>if ps.length<=gH then some (.aC ps)else none:=rfl
@[simp] theorem yv:cB ts ρ=(ts ρ).bind λps=>if ps.length<=gH then some ps else none:=rfl
@[simp] theorem Qs:bG ts ρ=(ts ρ).map .ao:=rfl
@[simp] theorem Mt{c:ay->cH}:aD (aR n c) ts ρ=(ts ρ).bind λas=>(if as.length=n then c as else none).bind nU:=rfl
@[simp] theorem Y2{c:ay->cH}:nV (aR n c) ts ρ=(ts ρ).bind λas=>(if as.length=n then c as else none).bind OI:=rfl
@[simp] theorem Y3:nU (.val p)=some p:=rfl
@[simp] theorem Y4:nU (.own ps)=some (.ao ps):=rfl
@[simp] theorem Y5:OI (.own ps)=some ps:=rfl
@[simp] theorem Qt{c:ay->bU}:b6 c ts ρ=(ts ρ).bind c:=rfl
@[simp] theorem adR{t:Ty}:Jq t fa ρ=(fa ρ).map λp=>.bl (gQ t p):=rfl
@[simp] theorem adS:Pb ρ=some none:=rfl
def Mu:PV->Option (Option Int)
 | .int i=>some (some i)
 | _=>none
@[simp] theorem Y6:kl fa ρ=(fa ρ).bind Mu:=by unfold kl Mu;rfl
@[simp] theorem Wd:Mu (.int i)=some (some i):=rfl
@[simp] theorem aaK{fl fh:FO}:cutE fa fl fh ρ=(fa ρ).bind λp=>(fl ρ).bind λl=>(fh ρ).bind λh=>O9 l h p:=rfl
@[simp] theorem aaL{l u:Option Int}:O9 l u (.ao ps)=some (.ao (jz ps l u)):=rfl
@[simp] theorem aaM{l u:Option Int}:O9 l u (.aC ps)=some (.aC (jz ps l u)):=rfl
@[simp] theorem aaN:eV fa ρ=(fa (dX none ρ)).bind λp=>if k8 p=true then some p else none:=rfl
@[simp] theorem aaO:fP gc ρ=gc (dX none ρ):=rfl
@[simp] theorem aaP{L:List Nat}:me L f ρ=f (dX (some L) ρ):=rfl
@[simp] theorem aaQ{L:Option (List Nat)}:dX L ρ=gh L 0 ρ:=rfl
@[simp] theorem So{L:Option (List Nat)}:gh L n []=[]:=rfl
@[simp] theorem Qu{L:Option (List Nat)}{e:Ent}{r:aG}:gh L n (e::r)=ei L n e::gh L (n+1) r:=rfl
@[simp] theorem We{L:Option (List Nat)}:ei L n .un=.un:=rfl
@[simp] theorem Ve{L:Option (List Nat)}:ei L n (.val p)=.val p:=rfl
@[simp] theorem Vf:ei none n (.own ps)=.val (.ao ps):=rfl
@[simp] theorem Sq{l:List Nat}:ei (some l) n (.own ps)=if n∈l then .val (.ao ps)else .own ps:=rfl
@[simp] theorem Wf:k8 (.int i)=true:=rfl
@[simp] theorem Y7{b:Bool}:k8 (.bl b)=true:=rfl
def DZ(h:FS):nv->Option nv
 | .nx ρ=>h ρ
 | o=>some o
@[simp] theorem Gk:aJ f h ρ=(f ρ).bind (DZ h):=by
 unfold aJ DZ
 congr 1
@[simp] theorem aaR:DZ h (.nx ρ)=h ρ:=rfl
@[simp] theorem aaS{e:Ent}:DZ h (.rt e)=some (.rt e):=rfl
@[simp] theorem aaT:DZ h (.bk ρ)=some (.bk ρ):=rfl
@[simp] theorem aaU:DZ h (.ct ρ)=some (.ct ρ):=rfl
@[simp] theorem aaV{m:Bool}{C:Str}:DZ h (.ex m C ρ)=some (.ex m C ρ):=rfl
@[simp] theorem Mv:fJ gc f h ρ=(gc ρ).bind λx=>if x=true then f ρ else h ρ:=rfl
@[simp] theorem Qv:bC fa ρ=(fa ρ).map λp=>.rt (.val p):=rfl
@[simp] theorem Y8:qF fa ρ=(fa ρ).map λ_=>.nx ρ:=rfl
@[simp] theorem Qw{t:fz}:bx fa t ρ=(fa ρ).bind λp=>(t p ρ).map .nx:=rfl
@[simp] theorem aaW:ak n p ρ=if n<ρ.length then some (ρ.set n (.val p))else none:=rfl
@[simp] theorem Qx:iY n ts ρ=(ts ρ).bind λps=>if n<ρ.length then some (.nx (ρ.set n (.own ps)))else none:=rfl
@[simp] theorem aaX{t:ay->aG->Option aG}:cC n t (.aC ps) ρ=if ps.length=n then t ps ρ else none:=rfl
@[simp] theorem aaY:cx [] ρ=some ρ:=rfl
@[simp] theorem Y9{t:fz}{r:ay->aG->Option aG}:aw t r (p::ps) ρ=(t p ρ).bind λfA=>r ps fA:=rfl
def Qy:cH->Option nv
 | some (.own ps)=>some (.rt (.own ps))
 | some (.val p)=>some (.rt (.val p))
 | _=>none
@[simp] theorem Qz:nW n ρ=Qy ρ[n]?:=by unfold nW Qy;rfl
@[simp] theorem Za:Qy (some (.own ps))=some (.rt (.own ps)):=rfl
@[simp] theorem Zb:Qy (some (.val p))=some (.rt (.val p)):=rfl
noncomputable def QA(n:Nat)(ts:bP)(g:ay->ay->Option ay)(ρ:aG):cH->Option nv
 | some (.own ps)=>(ts ρ).bind λas=>(g ps as).map λqs=>.nx (ρ.set n (.own qs))
 | _=>none
@[simp] theorem rD{g:ay->ay->Option ay}:gI n ts g ρ=QA n ts g ρ ρ[n]?:=by unfold gI QA;rfl
@[simp] theorem oy{g:ay->ay->Option ay}:QA n ts g ρ (some (.own ps))=(ts ρ).bind λas=>(g ps as).map λqs=>.nx (ρ.set n (.own qs)):=rfl
@[simp] theorem QB:mR ps [p]=if ps.length<gH then some (ps++[p])else none:=rfl
@[simp] theorem Mw:qW ps [.ao qs]=if ps.length+qs.length<=gH then some (ps++qs)else none:=rfl
@[simp] theorem Zc:qW ps [.aC qs]=if ps.length+qs.length<=gH then some (ps++qs)else none:=rfl
def AZ:PV->Option ay
 | .aC ps=>some ps
 | .ao ps=>some ps
 | _=>none
@[simp] theorem Gn:cF fa ρ=(fa ρ).bind AZ:=by unfold cF AZ;rfl
@[simp] theorem Wg:AZ (.aC ps)=some ps:=rfl
@[simp] theorem Wh:AZ (.ao ps)=some ps:=rfl
@[simp] theorem Zd:K5 (.aC ps)=some ps:=rfl
@[simp] theorem Ze:K5 (.ao ps)=some ps:=rfl
@[simp] theorem QC{fi:bP}{t:fz}:eZ fi t f ρ=(fi ρ).bind λps=>eG t f ps ρ:=rfl
@[simp] theorem Zf{t:fz}:eG t f [] ρ=some (.nx ρ):=rfl
def Ik(k:aG->Option nv):nv->Option nv
 | .nx ρ=>k ρ
 | .ct ρ=>k ρ
 | .bk ρ=>some (.nx ρ)
 | .rt e=>some (.rt e)
 | .ex m C ρ=>some (.ex m C ρ)
theorem jP{t:fz}:eG t f (p::ps) ρ=(t p ρ).bind λeM=>(f eM).bind (Ik (eG t f ps)):=by
 rw[eG]
 congr 1
@[simp] theorem rE{k:aG->Option nv}:Ik k (.nx ρ)=k ρ:=rfl
@[simp] theorem aaZ{k:aG->Option nv}:Ik k (.ct ρ)=k ρ:=rfl
@[simp] theorem aa0{k:aG->Option nv}:Ik k (.bk ρ)=some (.nx ρ):=rfl
@[simp] theorem aa1{k:aG->Option nv}{e:Ent}:Ik k (.rt e)=some (.rt e):=rfl
@[simp] theorem aa2{k:aG->Option nv}{m:Bool}{C:Str}:Ik k (.ex m C ρ)=some (.ex m C ρ):=rfl
@[simp] theorem A0{L:List (Option Nat)}{fi:bP}{t:fz}:dB L fi t fa ρ=(fi ρ).bind λps=>if ps.length<=gH then iI (λp=>(t p (bA L ρ)).bind fa) ps else none:=rfl
@[simp] theorem Mx{L:List (Option Nat)}{fi:bP}{t:fz}:er L fi t gc fa ρ=(fi ρ).bind λps=>if ps.length<=gH then kZ (λp=>(t p (bA L ρ)).bind λeM=>(gc eM).bind λb=>if b=true then(fa eM).map some else some none) ps else none:=rfl
def Gp:cH->Ent
 | some (.val p)=>.val p
 | some (.ob o)=>.ob o
 | _=>.un
def My(ρ:aG):Option Nat->Ent
 | none=>.un
 | some j=>Gp ρ[j]?
@[simp] theorem Wi{L:List (Option Nat)}:bA L ρ=L.map (My ρ):=by
 unfold bA
 congr 1
@[simp] theorem Vg:My ρ none=.un:=rfl
@[simp] theorem Vh:My ρ (some n)=Gp ρ[n]?:=rfl
@[simp] theorem Wj:Gp (some (.val p))=.val p:=rfl
@[simp] theorem Zg{o:Ob}:Gp (some (.ob o))=.ob o:=rfl
theorem t9{α β:Type}{F:α->Option β}{G:α->β}:∀{l:List α},(∀x∈l,F x=some (G x))->iI F l=some (l.map G)
 | [],_=>rfl
 | x::r,h=>by
  rw[iI,h x bo,t9 λy hy=>h y (bz _ hy)]
  rfl
def QD:ay->Option ay
 | [.int j]=>if -(2^62)<=j/\j<2^62 then some ((List.range j.toNat).map fun(i:Nat)=>.int (0+i))else none
 | _=>none
@[simp] theorem QE:gF ts ρ=(ts ρ).bind QD:=by unfold gF QD;rfl
theorem Mz:QD [.int j]=if -(2^62)<=j/\j<2^62 then some ((List.range j.toNat).map fun(i:Nat)=>.int (0+i))else none:=rfl
theorem wx:∀ns:List Int,je (ns.map .int)=some ns
 | []=>rfl
 | n::r=>by simp[je,wx r]
@[simp] theorem aa3{fl fh:FO}:Pu fa fl fh ρ=(fa ρ).bind λp=>(fl ρ).bind λl=>(fh ρ).bind λh=>(Ur p).map λxs=>.own (jz xs l h):=rfl
@[simp] theorem Zh:Ur (.ao ps)=some ps:=rfl
@[simp] theorem iL:bQ (.int i) (.int j)=some (.int (i+j)):=rfl
@[simp] theorem Zi:bQ (.ao ps) (.ao qs)=sizeOk (ps.length+qs.length) (.ao (ps++qs)):=rfl
@[simp] theorem Zj:bQ (.aC ps) (.aC qs)=sizeOk (ps.length+qs.length) (.aC (ps++qs)):=rfl
theorem pZ(h:n<=gH):sizeOk n p=some p:=if_pos h
@[simp] theorem Zk:O0 (.int i) (.int j)=some (.int (i-j)):=rfl
theorem MA:jL (.int i) (.int j)=if(-O1<i/\i<O1)\/(-O1<j/\j<O1)then some (.int (i*j))else none:=rfl
@[simp] theorem Il:dq (.int i) (.int j)=if 0<j/\j<1073741824 then some (.int (i/j))else none:=rfl
@[simp] theorem MB:cj (.int i) (.int j)=if 0<j then some (.int (i%j))else none:=rfl
@[simp] theorem A1:Ar (.int i) (.int j)=if 0<=j/\j<=1000/\i.natAbs<1000 then some (.int (i^j.toNat))else none:=rfl
@[simp] theorem QF:Jp (.int i) (.int j)=some (.bl (decide (i<j))):=rfl
@[simp] theorem aa4:O7 (.int i) (.int j)=some (.bl (decide (i<=j))):=rfl
@[simp] theorem aa5:gtO (.int i) (.int j)=some (.bl (decide (j<i))):=rfl
@[simp] theorem aa6:geO (.int i) (.int j)=some (.bl (decide (j<=i))):=rfl
@[simp] theorem ji:eu (.int i) (.int j)=some (.bl (decide (i=j))):=by
 show(if jd (.int i)<=iZ then some (PV.bl (eqT (.int i) (.int j)))else none)=_
 rw[if_pos (by simp[jd,iZ])]
 simp only[eqT,Bool.beq_eq_decide_eq]
@[simp] theorem QG:rm (.int i) (.int j)=some (.bl (!decide (i=j))):=by
 show(if jd (.int i)<=iZ then some (PV.bl (!eqT (.int i) (.int j)))else none)=_
 rw[if_pos (by simp[jd,iZ])]
 simp only[eqT,Bool.beq_eq_decide_eq]
@[simp] theorem dJ{x y:Str}:eu (.str x) (.str y)=some (.bl (x==y)):=by
 show(if jd (.str x)<=iZ then some (PV.bl (eqT (.str x) (.str y)))else none)=_
 rw[if_pos (by simp[jd,iZ])]
 simp only[eqT]
@[simp] theorem rF{x y:Str}:rm (.str x) (.str y)=some (.bl (!(x==y))):=by
 show(if jd (.str x)<=iZ then some (PV.bl (!eqT (.str x) (.str y)))else none)=_
 rw[if_pos (by simp[jd,iZ])]
 simp only[eqT]
@[simp] theorem adT{x y:Bool}:eu (.bl x) (.bl y)=some (.bl (x==y)):=by
 show(if jd (.bl x)<=iZ then some (PV.bl (eqT (.bl x) (.bl y)))else none)=_
 rw[if_pos (by simp[jd,iZ])]
 simp only[eqT]
@[simp] theorem adU{x y:Bool}:rm (.bl x) (.bl y)=some (.bl (!(x==y))):=by
 show(if jd (.bl x)<=iZ then some (PV.bl (!eqT (.bl x) (.bl y)))else none)=_
 rw[if_pos (by simp[jd,iZ])]
 simp only[eqT]
theorem D0(h:jd p<=iZ):eu p q=some (.bl (eqT p q)):=if_pos h
theorem Vi(h:jd p<=iZ):rm p q=some (.bl (!eqT p q)):=if_pos h
@[simp] theorem aa7:aH (.aC ps) (.int i)=atI ps i:=rfl
@[simp] theorem aa8:aH (.ao ps) (.int i)=atI ps i:=rfl
@[simp] theorem Zl:cJ [.aC ps]=some (.int ps.length):=rfl
@[simp] theorem oz:cJ [.ao ps]=some (.int ps.length):=rfl
@[simp] theorem Zm:mi [.ao ps]=some (.aC ps):=rfl
@[simp] theorem Zn:mi [.aC ps]=some (.aC ps):=rfl
@[simp] theorem Zo:K3 [.ao ps]=some (.ao ps):=rfl
@[simp] theorem Zp:K3 [.aC ps]=some (.ao ps):=rfl
@[simp] theorem Zq:xP [.int i]=some (.int i):=rfl
@[simp] theorem aa9{b:Bool}:xP [.bl b]=some (.int (if b then 1 else 0)):=rfl
@[simp] theorem MC{α:Type}{x:α}{r:List α}:atI (x::r) 0=some x:=by
 unfold atI Kr;rw[if_pos (by decide),if_pos (by simp <;> lia)]
 rfl
@[simp] theorem afr{α:Type}{x y:α}{r:List α}:atI (x::y::r) 1=some y:=by
 unfold atI Kr;rw[if_pos (by decide),if_pos (by simp <;> lia)]
 rfl
@[simp] theorem afs{α:Type}{x y z:α}{r:List α}:atI (x::y::z::r) 2=some z:=by
 unfold atI Kr;rw[if_pos (by decide),if_pos (by simp <;> lia)]
 rfl
@[simp] theorem aft{α:Type}{x y z w:α}{r:List α}:atI (x::y::z::w::r) 3=some w:=by
 unfold atI Kr;rw[if_pos (by decide),if_pos (by simp <;> lia)]
 rfl
def fW:Option nv->cH
 | some (.rt (.val p))=>some (.val p)
 | some (.rt (.own ps))=>some (.own ps)
 | some (.nx _)=>some (.val .cE)
 | _=>none
@[simp] theorem aV:q8 f n ps=fW (f (ps.map .val++List.replicate (n-ps.length) .un)):=by unfold q8 fW;rfl
@[simp] theorem aba:fW (some (.rt (.val p)))=some (.val p):=rfl
@[simp] theorem abb:fW (some (.rt (.own ps)))=some (.own ps):=rfl
@[simp] theorem abd:fW (some (.nx ρ))=some (.val .cE):=rfl
@[simp] theorem adV:gQ .tuple (.aC ps)=true:=rfl
@[simp] theorem adW:gQ .tuple (.ao ps)=false:=rfl
@[simp] theorem adX:gQ .tuple (.int i)=false:=rfl
@[simp] theorem adY{x:Str}:gQ .tuple (.str x)=false:=rfl
@[simp] theorem adZ{b:Bool}:gQ .tuple (.bl b)=false:=rfl
@[simp] theorem ad0:gQ .tuple .cE=false:=rfl
@[simp] theorem ad1:gQ .int (.int i)=true:=rfl
@[simp] theorem ad2:gQ .bool (.int i)=false:=rfl
@[simp] theorem ad3{b:Bool}:gQ .bool (.bl b)=true:=rfl
@[simp] theorem abe:gQ .list (.ao ps)=true:=rfl
@[simp] theorem abf{x:Str}:gQ .str (.str x)=true:=rfl
@[simp] theorem abg:gQ .str (.aC ps)=false:=rfl
@[simp] theorem abh:gQ .str (.int i)=false:=rfl
@[simp] theorem abi{b:Bool}:gQ .int (.bl b)=true:=rfl
@[simp] theorem abj{x:Str}:gQ .int (.str x)=false:=rfl
@[simp] theorem abk:gQ .int (.aC ps)=false:=rfl
@[simp] theorem abl:gQ .int (.ao ps)=false:=rfl
@[simp] theorem abm:gQ .int .cE=false:=rfl
@[simp] theorem abn:gQ .str (.ao ps)=false:=rfl
@[simp] theorem abo:gQ .str .cE=false:=rfl
@[simp] theorem abp{b:Bool}:gQ .str (.bl b)=false:=rfl
@[simp] theorem abq{x:Str}:gQ .bool (.str x)=false:=rfl
@[simp] theorem abr:gQ .bool (.aC ps)=false:=rfl
end
theorem Im{j:Int}(h:-1000<=j/\j<=100000):QD [.int j]=some ((List.range j.toNat).map fun(i:Nat)=>.int (0+i)):=by
 rw[Mz];have h1:(-(2^62):Int) <= -1000:=by decide
 have h2:(100000:Int)<2^62:=by decide
 exact if_pos ⟨Int.le_trans h1 h.1,Int.lt_of_le_of_lt h.2 h2⟩
@[simp] theorem afu:0<=gH:=by decide
@[simp] theorem Sr:1<=gH:=by decide
@[simp] theorem Ss:2<=gH:=by decide
@[simp] theorem Zr:3<=gH:=by decide
@[simp high] theorem afv {ρ:aG}:aY ai ρ=some (.aC []):=rfl
@[simp high] theorem afw {fa:FE} {ρ:aG}:aY (aa fa ai) ρ=(fa ρ).map λa=>.aC [a]:=by
 rw[ox,dP];cases fa ρ with
 | none=>rfl
 | some a=>exact if_pos (e:=none) Sr
@[simp high] theorem Zs {fa fb:FE} {ρ:aG}:aY (aa fa (aa fb ai)) ρ=(fa ρ).bind λa=>(fb ρ).map λb=>.aC [a,b]:=by
 rw[ox,dP,dP];cases fa ρ with
 | none=>rfl
 | some a=>cases fb ρ with
  | none=>rfl
  | some b=>exact if_pos (e:=none) Ss
@[simp high] theorem Zt {fa fb fc:FE} {ρ:aG}:aY (aa fa (aa fb (aa fc ai))) ρ=(fa ρ).bind λa=>(fb ρ).bind λb=>(fc ρ).map λc=>.aC [a,b,c]:=by
 rw[ox,dP,dP,dP];cases fa ρ with
 | none=>rfl
 | some a=>cases fb ρ with
  | none=>rfl
  | some b=>cases fc ρ with
   | none=>rfl
   | some c=>exact if_pos (e:=none) Zr
@[simp high] theorem afx {ρ:aG}:cB ai ρ=some []:=rfl
@[simp high] theorem afy {fa:FE} {ρ:aG}:cB (aa fa ai) ρ=(fa ρ).map λa=>[a]:=by
 rw[yv,dP];cases fa ρ with
 | none=>rfl
 | some a=>exact if_pos (e:=none) Sr
@[simp high] theorem afz {fa fb:FE} {ρ:aG}:cB (aa fa (aa fb ai)) ρ=(fa ρ).bind λa=>(fb ρ).map λb=>[a,b]:=by
 rw[yv,dP,dP];cases fa ρ with
 | none=>rfl
 | some a=>cases fb ρ with
  | none=>rfl
  | some b=>exact if_pos (e:=none) Ss
theorem mz{n:Nat}(h:n<=100000):n<=gH:=h
theorem Gq{n:Nat}(h:n<100000):n<gH:=h
theorem ly{i j:Int}(h:-18446744073709551616<j/\j<18446744073709551616):jL (.int i) (.int j)=some (.int (i*j)):=by
 rw[MA];exact if_pos (.inr h)
theorem hJ{ts:bP}{ρ:aG}{j:Int}(h:ts ρ=some [.int j])(hb:-1000<=j/\j<=100000):gF ts ρ=some ((List.range j.toNat).map fun(i:Nat)=>.int (0+i)):=by
 rw[QE,h,aQ,Im hb]
theorem gj{f g:FS}{ρ fA:aG}(h:f ρ=some (.nx fA)):aJ f g ρ=g fA:=by
 rw[Gk,h];rfl
@[simp] theorem Zu:4<=gH:=by decide
@[simp high] theorem afA {fa fb fc fd:FE} {ρ:aG}:aY (aa fa (aa fb (aa fc (aa fd ai)))) ρ=(fa ρ).bind λa=>(fb ρ).bind λb=>(fc ρ).bind λc=>(fd ρ).map λd=>.aC [a,b,c,d]:=by
 rw[ox,dP,dP,dP,dP];cases fa ρ with
 | none=>rfl
 | some a=>cases fb ρ with
  | none=>rfl
  | some b=>cases fc ρ with
   | none=>rfl
   | some c=>cases fd ρ with
    | none=>rfl
    | some d=>exact if_pos (e:=none) Zu
theorem b2{fa fb:FE}{g:PV->PV->bU}{ρ:aG}{x y:PV}{z:bU}(ha:fa ρ=some x)(hb:fb ρ=some y)(h:g x y=z):af fa fb g ρ=z:=by
 rw[Qn,ha,hb];exact h
theorem cA{fa:FE}{ts:bP}{ρ:aG}{x:PV}{xs:ay}(ha:fa ρ=some x)(hb:ts ρ=some xs):aa fa ts ρ=some (x::xs):=by
 rw[dP,ha,hb];rfl
theorem dM{c:ay->cH}{ts:bP}{ρ:aG}{as:ay}{n:Nat}{e:Ent}{p:PV}(ha:ts ρ=some as)(hn:as.length=n)(hc:c as=some e)(he:nU e=some p):aD (aR n c) ts ρ=some p:=by
 rw[Mt,ha];show(if as.length=n then c as else none).bind nU=_
 rw[if_pos hn,hc];exact he
theorem bV{g:ay->bU}{ts:bP}{ρ:aG}{as:ay}{z:bU}(ha:ts ρ=some as)(h:g as=z):b6 g ts ρ=z:=by
 rw[Qt,ha];exact h
theorem fS{fi:bP}{set:fz}{f:FS}{ρ:aG}{ps:ay}{z:Option nv}(h:fi ρ=some ps)(hf:eG set f ps ρ=z):eZ fi set f ρ=z:=by
 rw[QC,h];exact hf
theorem tU{ts:bP}{ρ:aG}{ps:ay}(h:ts ρ=some ps)(hl:ps.length<=100000):aY ts ρ=some (.aC ps):=by
 rw[ox,h];exact if_pos (mz hl)
theorem lS{ts:bP}{ρ:aG}{ps:ay}(h:ts ρ=some ps)(hl:ps.length<=100000):cB ts ρ=some ps:=by
 rw[yv,h];exact if_pos (mz hl)
theorem fF{ts:bP}{ρ:aG}{ps:ay}(h:ts ρ=some ps):bG ts ρ=some (.ao ps):=by
 rw[Qs,h];rfl
theorem aS{fa:FE}{g:fz}{ρ fA:aG}{p:PV}(ha:fa ρ=some p)(h:g p ρ=some fA):bx fa g ρ=some (.nx fA):=by
 rw[Qw,ha];show(g p ρ).map nv.nx=_;rw[h];rfl
theorem sO{ts:bP}{n:Nat}{ρ:aG}{ps:ay}(ha:ts ρ=some ps)(h:n<ρ.length):iY n ts ρ=some (.nx (ρ.set n (.own ps))):=by
 rw[Qx,ha];exact if_pos h
theorem iT{gc:eY}{f h:FS}{ρ:aG}{z:Option nv}(hc:gc ρ=some true)(hf:f ρ=z):fJ gc f h ρ=z:=by
 rw[Mv,hc];exact hf
theorem iF{gc:eY}{f h:FS}{ρ:aG}{z:Option nv}(hc:gc ρ=some false)(hf:h ρ=z):fJ gc f h ρ=z:=by
 rw[Mv,hc];exact hf
theorem rS{fa:FE}{ρ:aG}{p:PV}(h:fa ρ=some p):bC fa ρ=some (.rt (.val p)):=by
 rw[Qv,h];rfl
theorem kz{f g:FS}{ρ:aG}{e:Ent}(h:f ρ=some (.rt e)):aJ f g ρ=some (.rt e):=by
 rw[Gk,h];rfl
theorem aL{ps qs:ay}(h:ps.length+qs.length<=100000):bQ (.ao ps) (.ao qs)=some (.ao (ps++qs)):=pZ (mz h)
theorem aT{ps qs:ay}(h:ps.length+qs.length<=100000):bQ (.aC ps) (.aC qs)=some (.aC (ps++qs)):=pZ (mz h)
theorem bT{fa:FE}{ρ:aG}{b:Bool}(h:fa ρ=some (.bl b)):toB fa ρ=some b:=by
 rw[toB_ap,h];rfl
theorem dt{x:Option nv}{p:PV}(h:x=some (.rt (.val p))):fW x=some (.val p):=by rw[h];rfl
theorem A2{x:Option nv}{ps:ay}(h:x=some (.rt (.own ps))):fW x=some (.own ps):=by rw[h];rfl
theorem A3{n:Nat}{ρ:aG}{ps:ay}(h:ρ[n]?=some (.own ps)):nW n ρ=some (.rt (.own ps)):=by rw[Qz,h];rfl
theorem sq{f g:FS}{ρ fA:aG}{z:Option nv}(h:f ρ=some (.nx fA))(hg:g fA=z):aJ f g ρ=z:=(gj h).trans hg
theorem iV{gc:eY}{fa fb:FE}{ρ:aG}{b:Bool}{z:bU}(hc:gc ρ=some b)(h:(if b=true then fa ρ else fb ρ)=z):uT gc fa fb ρ=z:=by
 rw[Gj,hc];exact h
theorem nB{gc:eY}{ρ:aG}{b:Bool}(h:gc ρ=some b):gP gc ρ=some (!b):=by
 rw[Qp,h];rfl
theorem mA{n:Nat}{fa:FE}{ρ:aG}{ps:ay}{p:PV}(h0:ρ[n]?=some (.own ps))(h:fa ρ=some p)(hl:ps.length<100000):gI n (aa fa ai) mR ρ=some (.nx (ρ.set n (.own (ps++[p])))):=by
 rw[rD,h0,oy,cA h rfl,aQ,QB,if_pos (Gq hl)];rfl
theorem mX{n:Nat}{fa:FE}{ρ:aG}{ps qs:ay}(h0:ρ[n]?=some (.own ps))(h:fa ρ=some (.ao qs))(hl:ps.length+qs.length<=100000):gI n (aa fa ai) qW ρ=some (.nx (ρ.set n (.own (ps++qs)))):=by
 rw[rD,h0,oy,cA h rfl,aQ,Mw,if_pos (mz hl)];rfl
theorem cV{L:List (Option Nat)}{fi:bP}{t:fz}{fa:FE}{ρ:aG}{ps qs:ay}(h:fi ρ=some ps)(hl:ps.length<=100000) (hm:iI (λp=>(t p (bA L ρ)).bind fa) ps=some qs):dB L fi t fa ρ=some qs:=by
 rw[A0,h,aQ,if_pos (mz hl)];exact hm
theorem cT{L:List (Option Nat)}{fi:bP}{t:fz}{gc:eY}{fa:FE}{ρ:aG}{ps qs:ay}(h:fi ρ=some ps)(hl:ps.length<=100000) (hm:kZ (λp=>(t p (bA L ρ)).bind λeM=>(gc eM).bind λb=>if b=true then(fa eM).map some else some none) ps=some qs):er L fi t gc fa ρ=some qs:=by
 rw[Mx,h,aQ,if_pos (mz hl)];exact hm
theorem sV{fa:FE}{ρ:aG}{p:PV}{ps:ay}(h:fa ρ=some p)(hp:AZ p=some ps):cF fa ρ=some ps:=by
 rw[Gn,h];exact hp
theorem fC{t:fz}{f:FS}{ρ eM rl:aG}{p:PV}{ps:ay}{z:Option nv}(h:t p ρ=some eM)(h2:f eM=some (.nx rl))(h3:eG t f ps rl=z):eG t f (p::ps) ρ=z:=by
 rw[jP,h,aQ,h2,aQ,rE];exact h3
section
variable {ρ:aG} {fo:V7} {o:Ob} {ts:bP} {as:ay} {n m i:Nat} {e:Ent} {p:PV} {z:bU} {fk:FE} {k fn:Str} {fns:List (Str×Nat)} {call:Str->Ob->ay->cH}
theorem QH{f:FS}{N:Nat}{ps:ay}:vb f N o ps=fW (f (ps.map .val++.ob o::List.replicate (N-(ps.length+1)) .un)):=rfl
end
end L2.PL
namespace nu
open PySem L2 L2.PL
abbrev cK(p:PV):FE:=λ_=>some p
inductive Sh where
 | num | own | dk (n:Int) | bJ (ps:List Sh)
mutual
def enc:Sh->PV
 | .num=>.aC [.str "num"]
 | .own=>.aC [.str "own"]
 | .dk n=>.aC [.str "strip",.int n]
 | .bJ ps=>.aC [.str "rec",.aC (df ps)]
def df:List Sh->ay
 | []=>[]
 | s::r=>enc s::df r
end
mutual
def lv:Sh->List Sh
 | .num=>[.num]
 | .own=>[.own]
 | .dk n=>[.dk n]
 | .bJ ps=>iB ps
def iB:List Sh->List Sh
 | []=>[]
 | s::r=>lv s++iB r
end
mutual
def dp:Sh->Nat
 | .bJ ps=>ua ps+1
 | _=>0
def ua:List Sh->Nat
 | []=>0
 | s::r=>max (dp s) (ua r)
end
def iM:Sh->Bool
 | .bJ _=>false
 | _=>true
theorem ik:∀l:List Sh,df l=l.map enc
 | []=>rfl
 | s::r=>by simp[df,ik r]
theorem A4(a b:List Sh):df (a++b)=df a++df b:=by simp[ik]
theorem jQ(a:List Sh):(df a).length=a.length:=by simp[ik]
theorem ub:∀a b:List Sh,iB (a++b)=iB a++iB b
 | [],b=>by simp[iB]
 | s::r,b=>by simp[iB,ub r b]
mutual
theorem yw:∀s:Sh,∀x∈lv s,iM x=true
 | .num,x,h=>by simp[lv]at h;subst h;rfl
 | .own,x,h=>by simp[lv]at h;subst h;rfl
 | .dk n,x,h=>by simp[lv]at h;subst h;rfl
 | .bJ ps,x,h=>A5 ps x (by simpa[lv]using h)
theorem A5:∀ps:List Sh,∀x∈iB ps,iM x=true
 | [],x,h=>by simp[iB]at h
 | s::r,x,h=>by
  simp only[iB,cW]at h;rcases h with h | h
  ·exact yw s x h
  ·exact A5 r x h
end
@[simp] theorem s_1:((Str.ofString "num")==(Str.ofString "rec"))=false:=by decide +kernel
@[simp] theorem s_2:((Str.ofString "own")==(Str.ofString "rec"))=false:=by decide +kernel
@[simp] theorem s_3:((Str.ofString "strip")==(Str.ofString "rec"))=false:=by decide +kernel
@[simp] theorem s_4:((Str.ofString "num")==(Str.ofString "strip"))=false:=by decide +kernel
@[simp] theorem s_5:((Str.ofString "own")==(Str.ofString "strip"))=false:=by decide +kernel
@[simp] theorem s_6:((Str.ofString "rec")==(Str.ofString "strip"))=false:=by decide +kernel
theorem ud:∀{l:ay} {n:Nat},(∀x∈l,jd x<=n)->fm l<=n
 | [],_,_=>by simp[fm]
 | x::r,n,h=>by
  simp only[fm];have h1:=h x bo;have h2:=ud λy hy=>h y (bz _ hy)
  lia
theorem MD{s:Sh}(h:iM s=true):jd (enc s)<=1:=by
 cases s with
 | bJ _=>cases h
 | _=>simp[enc,jd,fm]
theorem ue{l:List Sh}(h:∀x∈l,iM x=true):fm (df l)<=1:=by
 rw[ik];refine ud λx hx=>?_
 obtain⟨s,hs,rfl⟩:=bN.mp hx;exact MD (h s hs)
def yx(c:eF):FS:=gI 1 (aa (aD (aR 1 (c "leaves")) (aa (rd 2) ai)) ai) qW
theorem D3(c:eF)(ρ:aG):yx c ρ=gI 1 (aa (aD (aR 1 (c "leaves")) (aa (rd 2) ai)) ai) qW ρ:=rfl
def oA(c:eF):FS :=
 (aJ (fJ (fP (toB (af (af (rd 0) (cK (.int 0)) aH) (cK (.str "rec")) rm)))
  (bC (aY (aa (rd 0) ai)))
  (λρ=>some (.nx ρ)))
  (aJ (iY 1 (cB ai))
  (aJ (eZ (cF (af (rd 0) (cK (.int 1)) aH)) (ak 2) (yx c))
  (me [1] (bC (b6 mi (aa (rd 1) ai)))))))
theorem qM{c:eF}(X:PV):∀(ps:List Sh) (acc:List Sh) (o:Ent),(∀s∈ps,c "leaves" [enc s]=some (.val (.aC (df (lv s)))))->acc.length+(iB ps).length<=100000 ->
  ∃o',eG (ak 2) (yx c) (df ps) [.val X,.own (df acc),o]=some (.nx [.val X,.own (df (acc++iB ps)),o'])
 | [],acc,o,_,_=>⟨o,by simp[df,iB]⟩
 | s::r,acc,o,h,hz=>by
  have h1:=h s bo;simp only[iB,bF]at hz;obtain⟨o',ih⟩:=qM X r (acc++lv s) (.val (enc s)) (λs hs=>h s (bz _ hs)) (by rw[bF];lia)
  refine⟨o',?_⟩;simp only[df,jP];simp[D3,h1,jQ];rw[if_pos (mz (by lia))]
  rw[<-A4];simp only[pd,aQ,rE];rw[ih];simp[iB]
theorem lz{c:eF}{s:Sh}(h:iM s=true):q8 (oA c) 3 [enc s]=some (.val (.aC [enc s])):=by
 cases s with
 | bJ _=>cases h
 | _=>simp[oA,enc]
theorem D4{c:eF}{ps:List Sh} (h:∀s∈ps,c "leaves" [enc s]=some (.val (.aC (df (lv s))))) (hz:(iB ps).length<=100000):q8 (oA c) 3 [enc (.bJ ps)]=some (.val (.aC (df (iB ps)))):=by
 obtain⟨o',q⟩:=qM (enc (.bJ ps)) ps [] .un h (by simpa using hz)
 simp[oA];simp only[enc]at q ⊢;simp at q ⊢;simp[df]at q;rw[q];simp
structure fX (R:Nat->eF):Prop where
 run:∀k ps,R (k+1) "leaves" ps=q8 (oA (R k)) 3 ps
mutual
theorem fX.all{R:Nat->eF}(A:fX R):∀(s:Sh) (k:Nat),dp s<=k->(lv s).length<=100000->R (k+1) "leaves" [enc s]=some (.val (.aC (df (lv s))))
 | .num,k,_,_=>by rw[A.run,lz rfl];simp[lv,df]
 | .own,k,_,_=>by rw[A.run,lz rfl];simp[lv,df]
 | .dk n,k,_,_=>by rw[A.run,lz rfl];simp[lv,df]
 | .bJ ps,0,hd,_=>by simp[dp]at hd
 | .bJ ps,k+1,hd,hz=>by
  simp only[dp]at hd;simp only[lv]at hz;rw[A.run,D4 (A.each ps k (by lia) hz) hz]
  simp[lv]
theorem fX.each{R:Nat->eF}(A:fX R):∀(ps:List Sh) (k:Nat),ua ps<=k->(iB ps).length<=100000->∀s∈ps,R (k+1) "leaves" [enc s]=some (.val (.aC (df (lv s))))
 | [],_,_,_,s,hs=>by cases hs
 | p::r,k,hd,hz,s,hs=>by
  simp only[ua]at hd;simp only[iB,bF]at hz;rcases aZ.mp hs with e | e
  ·rw[e];exact fX.all A p k (by lia) (by lia)
  ·exact fX.each A r k (by lia) (by lia) s e
end
theorem ME(ps:ay)(q:Nat):jz ps (some (q:Int)) none=ps.drop q:=by
 unfold jz;rw[HT.ri,HT.z0];by_cases h:q<=ps.length
 ·rw[CZ h,oT (by rw[rX];lia)]
 ·rw[CL (by lia),CW,List.take_nil,List.drop_eq_nil_of_le (by lia)]
theorem Vj(ps:ay)(q:Nat):jz ps none (some (q:Int))=ps.take q:=by
 unfold jz;rw[HT.ri,HT.z0,List.drop_zero,Nat.sub_zero];by_cases h:q<=ps.length
 ·rw[CZ h]
 ·rw[CL (by lia),oT (by lia),oT (by lia)]
abbrev Rw:=List Int×Int×Int×Sh
noncomputable def mB(k a:Int)(r:Rw):Rw:=(k::r.1,a+r.2.1,r.2.2)
mutual
def tab:Sh->List Rw
 | .num=>[([],0,1,.num)]
 | .own=>[([],0,1,.own)]
 | .dk n=>[([],0,1,.dk n)]
 | .bJ ps=>([],0,((iB ps).length:Int),.bJ ps)::tabs 0 0 ps
def tabs:Nat->Int->List Sh->List Rw
 | _,_,[]=>[]
 | k,a,s::r=>(tab s).map (mB k a)++tabs (k+1) (a+((lv s).length:Int)) r
end
def sz(s:Sh):Int:=((lv s).length:Int)
def jA:List Sh->Nat
 | []=>0
 | s::l=>(tab s).length+jA l
theorem MF{s:Sh}(h:iM s=true):tab s=[([],0,1,s)]:=by
 cases s with
 | bJ _=>cases h
 | _=>rfl
theorem A6(s:Sh):∃R,tab s=(([],0,sz s,s):Rw)::R:=by
 cases s with
 | bJ ps=>exact⟨tabs 0 0 ps,by simp only[tab,sz,lv]⟩
 | num=>exact⟨[],by simp[tab,sz,lv]⟩
 | own=>exact⟨[],by simp[tab,sz,lv]⟩
 | dk n=>exact⟨[],by simp[tab,sz,lv]⟩
theorem iO:∀(l:List Sh) (k:Nat) (a:Int),(tabs k a l).length=jA l
 | [],_,_=>rfl
 | s::l,k,a=>by simp[tabs,jA,iO l]
theorem yy(s:Sh):1<=(tab s).length:=by
 obtain⟨R,e⟩:=A6 s;rw[e];simp
theorem A7:∀l:List Sh,l.length<=jA l
 | []=>bc _
 | s::l=>by
  have:=yy s;have:=A7 l;simp only[jA,bt]
  lia
mutual
theorem Gr:∀s:Sh,(lv s).length<=(tab s).length
 | .num=>by simp[lv,tab]
 | .own=>by simp[lv,tab]
 | .dk n=>by simp[lv,tab]
 | .bJ ps=>by
  have:=D5 ps;simp only[lv,tab,bt,iO]
  lia
theorem D5:∀l:List Sh,(iB l).length<=jA l
 | []=>by simp[iB]
 | s::l=>by
  have:=Gr s;have:=D5 l;simp only[iB,jA,bF]
  lia
end
mutual
theorem Su:∀s:Sh,dp s<=(tab s).length
 | .num=>by simp[dp]
 | .own=>by simp[dp]
 | .dk n=>by simp[dp]
 | .bJ ps=>by
  have:=MG ps;simp only[dp,tab,bt,iO]
  lia
theorem MG:∀l:List Sh,ua l<=jA l
 | []=>by simp[ua]
 | s::l=>by
  have:=Su s;have:=MG l;simp only[ua,jA]
  lia
end
mutual
theorem Gs:∀(s:Sh),∀r∈tab s,r.1.length<=dp s
 | .num,r,h=>by simp[tab]at h;subst h;simp
 | .own,r,h=>by simp[tab]at h;subst h;simp
 | .dk n,r,h=>by simp[tab]at h;subst h;simp
 | .bJ ps,r,h=>by
  simp only[tab,aZ]at h;rcases h with rfl | h
  ·simp
  ·simp only[dp];exact A8 ps 0 0 r h
theorem A8:∀(l:List Sh) (k:Nat) (a:Int),∀r∈tabs k a l,r.1.length<=ua l+1
 | [],_,_,r,h=>by simp[tabs]at h
 | s::l,k,a,r,h=>by
  simp only[tabs,cW,bN]at h;simp only[ua];rcases h with⟨r0,h0,rfl⟩ | h
  ·have:=Gs s r0 h0;simp only[mB,bt]
   lia
  ·have:=A8 l _ _ r h
   lia
end
theorem A9:∀(l:List Sh) (s:Sh),s∈l->(tab s).length<=jA l
 | s::l,t,h=>by
  simp only[jA];rcases aZ.mp h with rfl | h
  ·lia
  ·have:=A9 l t h
   lia
theorem Io{ps:List Sh}{s:Sh}(h:s∈ps):(tab s).length<=(tab (.bJ ps)).length:=by
 have:=A9 ps s h;simp only[tab,bt,iO]
 lia
def B9:Sh->Int->Option (Sh×Int)
 | .bJ ps,k=>if 0<=k then(ps[k.toNat]?).map λs=>(s,((iB (ps.take k.toNat)).length:Int))else none
 | _,_=>none
def walk:Sh->Int->List Int->Option (Sh×Int)
 | s,a,[]=>some (s,a)
 | s,a,k::p=>(B9 s k).bind λx=>walk x.1 (a+x.2) p
mutual
theorem Ba:∀(s:Sh),∀r∈tab s,∀b,walk s b r.1=some (r.2.2.2,b+r.2.1)
 | .num,r,h,b=>by simp[tab]at h;subst h;simp[walk]
 | .own,r,h,b=>by simp[tab]at h;subst h;simp[walk]
 | .dk n,r,h,b=>by simp[tab]at h;subst h;simp[walk]
 | .bJ ps,r,h,b=>by
  simp only[tab,aZ]at h;rcases h with rfl | h
  ·simp[walk]
  ·exact wz ps [] r (by simpa[iB]using h) b
theorem wz:∀(p3 pre:List Sh),∀r∈tabs pre.length ((iB pre).length:Int) p3,∀b,walk (.bJ (pre++p3)) b r.1=some (r.2.2.2,b+r.2.1)
 | [],pre,r,h,b=>by simp[tabs]at h
 | s::p3,pre,r,h,b=>by
  simp only[tabs,cW,bN]at h;rcases h with⟨r0,h0,rfl⟩ | h
  ·have:=Ba s r0 h0 (b+((iB pre).length:Int));simp only[mB,walk,B9];simp[this]
   lia
  ·have:=wz p3 (pre++[s]) r (by simpa[ub,iB]using h) b
   simpa using this
end
noncomputable def cp(n:Int):Nat:=97+(n%26).toNat
def lt(n:Int):Str:=⟨#[cp n]⟩
def gL(l:List Nat):Str:=⟨l.toArray⟩
theorem wA{a b:List Nat}(h:gL a=gL b):a=b:=by
 have:a.toArray=b.toArray:=dy Str.cps h;simpa using this
theorem D6(a b:List Nat):gL a++gL b=gL (a++b):=by
 show Str.append _ _=_;unfold Str.append gL;simp
theorem Zv(n:Int):lt n=gL [cp n]:=rfl
theorem Gu:(Str.ofString "")=gL []:=by decide +kernel
theorem Gv(l:List Nat):(gL l).length=l.length:=by
 unfold gL Str.length;simp
theorem D7:∀m:Fin 26,atI (Str.ofString "abcdefghijklmnopqrstuvwxyz").cps.toList ((m:Nat):Int)=some (97+(m:Nat)):=by decide +kernel
theorem Ip(n:Int):aH (.str "abcdefghijklmnopqrstuvwxyz") (.int (n%26))=some (.str (lt n)):=by
 have h0:=kJ n (show(26:Int)≠0 by decide)
 have h1:=rQ n (show(0:Int)<26 by decide)
 obtain⟨m,hm⟩:=Int.eq_ofNat_of_zero_le h0;have:=D7 ⟨m,by lia⟩
 show(if(Str.ofString "abcdefghijklmnopqrstuvwxyz").length<=gH then(atI (Str.ofString "abcdefghijklmnopqrstuvwxyz").cps.toList (n%26)).map λc=>PV.str ⟨#[c]⟩else none)=_
 rw[if_pos (by decide +kernel),hm,this]
 show some (PV.str ⟨#[97+m]⟩)=some (PV.str ⟨#[cp n]⟩);unfold cp;rw[hm,fH]
theorem Vk{a b:Int}(h:cp a=cp b):a%26=b%26:=by
 unfold cp at h;have h0:=kJ a (show(26:Int)≠0 by decide)
 have h1:=kJ b (show(26:Int)≠0 by decide)
 lia
end nu
namespace zr
open PySem L2 L2.PL
theorem p4{α:Type} [DecidableEq α]:∀(l U:List α),l.Nodup->(∀x∈l,x∈U)->l.length<=U.length
 | [],_,_,_=>gr _
 | x::l,U,hn,hs=>by
  rw[eA]at hn;have hx:x∈U:=hs x bo;have h1:=p4 l (U.erase x) hn.2 λy hy=>(List.mem_erase_of_ne (λz=>hn.1 (by rw[<-z];exact hy))).mpr (hs y (bz _ hy))
  have h2:=List.length_erase_of_mem hx;have h3:0<U.length:=List.length_pos_of_mem hx;rw[bt]
  lia
theorem Bb{ks:List (List cf)}{k:List cf}:Lo ks k=true↔k∈ks:=by
 unfold Lo;simp only[List.any_eq_true,jo];exact⟨λ⟨x,h,e⟩=>e▸h,λh=>⟨k,h,rfl⟩⟩
theorem gZ(c:Int):∀(fs:List (List cf)) (told:fD),∃more:fD,dr told c fs=told++more/\(∀t∈more,t.2=c/\t.1∈fs)
 | [],told=>⟨[],by rw[gG];rfl,λ_ z=>nomatch z⟩
 | f::fs,told=>by
  obtain⟨more,h1,h2⟩:=gZ c fs (fG told c f);show ∃m,dr (fG told c f) c fs=told++m/\_
  by_cases h:Lo (told.map (·.1)) f=true
  ·have e:fG told c f=told:=by unfold fG;rw[if_pos h]
   rw[e]at h1 ⊢;exact⟨more,h1,λt ht=>⟨(h2 t ht).1,bz _ (h2 t ht).2⟩⟩
  ·have e:fG told c f=told++[(f,c)]:=by unfold fG;rw[if_neg h]
   rw[e]at h1 ⊢;refine⟨(f,c)::more,by rw[h1];simp,λt ht=>?_⟩
   rcases aZ.mp ht with rfl | ht
   ·exact⟨rfl,bo⟩
   ·exact⟨(h2 t ht).1,bz _ (h2 t ht).2⟩
theorem uf(c:Int):∀(fs:List (List cf)) (told:fD),(told.map (·.1)).Nodup->((dr told c fs).map (·.1)).Nodup
 | [],_,h=>h
 | f::fs,told,h=>by
  refine uf c fs (fG told c f) ?_;unfold fG;split
  ·exact h
  ·rename_i hm;rw[cM];refine CI.mpr ⟨h,by simp,λa ha b hb z=>?_⟩
   simp at hb;subst z;rw[hb]at ha;exact hm (Bb.mpr ha)
theorem p5(c:Int):∀(fs:List (List cf)) (told:fD),∀f∈fs,f∈(dr told c fs).map (·.1)
 | [],_,_,h=>nomatch h
 | g::fs,told,f,h=>by
  rcases aZ.mp h with rfl | h
  ·obtain⟨more,h1,_⟩:=gZ c fs (fG told c f);show f∈(dr (fG told c f) c fs).map (·.1);rw[h1,cM];refine iD _ ?_;unfold fG;split
   ·rename_i hm;exact Bb.mp hm
   ·rw[cM];exact dH _ (by simp)
  ·exact p5 c fs (fG told c g) f h
section
variable (out:List cf->Option (List (List cf))) (fx:List (List cf))
def Wk(told:fD):Prop:=∀(i:Nat) (f:List cf) (c:Int),told[i]?=some (f,c)->(c = -1/\f∈fx)\/∃(j:Nat) (g:List cf) (d:Int) (fs:List (List cf)),j<i/\c=(j:Int)/\told[j]?=some (g,d)/\out g=some fs/\f∈fs
def MH(told:fD)(k:Nat):Prop:=∀(j:Nat) (g:List cf) (d:Int),j<k->told[j]?=some (g,d)->∃fs,out g=some fs/\∀f∈fs,f∈told.map (·.1)
theorem Iq:Wk out fx (dr [] (-1) fx):=by
 obtain⟨more,h1,h2⟩:=gZ (-1) fx [];rw[gS]at h1;intro i f c e;rw[h1]at e;obtain⟨h3,h4⟩:=h2 _ (cS e);exact .inl ⟨h3,h4⟩
theorem MI{told:fD}{k:Nat}{g:List cf}{d:Int}{fs:List (List cf)}(h:Wk out fx told)(hk:told[k]?=some (g,d))(ho:out g=some fs):Wk out fx (dr told (k:Int) fs):=by
 obtain⟨more,h1,h2⟩:=gZ (k:Int) fs told;have fg:k<told.length:=(dF.mp hk).1;have old:∀{j:Nat} {x:List cf×Int},told[j]?=some x->(told++more)[j]?=some x:=λ{j x} e=>by
  rw[gR (dF.mp e).1];exact e
 intro i f c e;rw[h1]at e ⊢;by_cases hi:i<told.length
 ·rw[gR hi]at e;rcases h i f c e with z | ⟨j,g',d',Z4,z1,z2,z3,z4,z5⟩
  ·exact .inl z
  ·exact .inr ⟨j,g',d',Z4,z1,z2,old z3,z4,z5⟩
 ·rw[iC (by lia)]at e
  obtain⟨h3,h4⟩:=h2 _ (cS e);exact .inr ⟨k,g,d,fs,by lia,h3,old hk,ho,h4⟩
theorem Ir{told:fD}{k:Nat}{g:List cf}{d:Int}{fs:List (List cf)}(h:MH out told k)(hk:told[k]?=some (g,d))(ho:out g=some fs):MH out (dr told (k:Int) fs) (k+1):=by
 obtain⟨more,h1,h2⟩:=gZ (k:Int) fs told;have fg:k<told.length:=(dF.mp hk).1;intro j g' d' hj e;rw[h1]at e;rw[gR (by lia)]at e
 by_cases hjk:j=k
 ·subst hjk;rw[hk]at e;cases e;exact⟨fs,ho,p5 (j:Int) fs told⟩
 ·obtain⟨Z4,z1,z2⟩:=h j g' d' (by lia) e
  refine⟨Z4,z1,λf hf=>?_⟩
  rw[h1,cM];exact iD _ (z2 f hf)
theorem qN(U:List (List cf))(B:Nat)(hB:U.length+B<gH)(hU:∀g∈U,∃fs,out g=some fs/\(∀f∈fs,f∈U)/\fs.length<=B):∀(n k:Nat) (told:fD),U.length<n+k->k<=told.length->(told.map (·.1)).Nodup->(∀t∈told,t.1∈U)->Wk out fx told->MH out told k ->
  ∃res,gi out n k told=some res/\(res.map (·.1)).Nodup/\(∀t∈res,t.1∈U)/\Wk out fx res/\MH out res res.length/\∃more,res=told++more
 | n,k,told,hn,hk,nd,sub,why,done=>by
  have dD:told.length<=U.length:=by
   have:=p4 (told.map (·.1)) U nd λx hx=>by
    obtain⟨t,ht,rfl⟩:=bN.mp hx;exact sub t ht
   rwa [aB]at this
  cases n with
  | zero=>lia
  | succ n =>
   cases ht:told[k]? with
   | none =>
    have hkl:told.length<=k:=rM.mp ht;refine⟨told,?_,nd,sub,why,?_,[],by simp⟩
    ·show(match told[k]? with | none=>some told | some t=>_)=_
     rw[ht]
    ·have:k=told.length:=by lia
     rw[<-this];exact done
   | some t =>
    obtain⟨g,d⟩:=t;have hg:g∈U:=sub (g,d) (cS ht);obtain⟨fs,h1,h2,h3⟩:=hU g hg;obtain⟨more,m1,m2⟩:=gZ (k:Int) fs told;have fg:k<told.length:=(dF.mp ht).1;obtain⟨res,r1,r2,r3,r4,r5,Sv,r6⟩:=qN U B hB hU n (k+1) (dr told (k:Int) fs) (by lia) (by rw[m1,bF];lia) (uf _ _ _ nd) (λt ht'=>by
     rw[m1]at ht';rcases cW.mp ht' with z | z
     ·exact sub t z
     ·exact h2 _ (m2 t z).2) (MI out fx why ht h1) (Ir out done ht h1)
    refine⟨res,?_,r2,r3,r4,r5,more++Sv,by rw[r6,m1,gk]⟩
    show(match told[k]? with | none=>some told | some t=>(out t.1).bind λfs=>if told.length+fs.length<gH then gi out n (k+1) (dr told k fs)else none)=_
    rw[ht];show((out g).bind λfs=>if told.length+fs.length<gH then gi out n (k+1) (dr told k fs)else none)=_
    rw[h1,aQ,if_pos (by lia)]
    exact r1
theorem D8(U:List (List cf))(B:Nat)(hB:U.length+B<gH)(hn:U.length<wc)(hU:∀g∈U,∃fs,out g=some fs/\(∀f∈fs,f∈U)/\fs.length<=B)(hf:∀f∈fx,f∈U) :
  ∃res,gi out wc 0 (dr [] (-1) fx)=some res/\(res.map (·.1)).Nodup/\(∀t∈res,t.1∈U)/\Wk out fx res/\MH out res res.length/\∀f∈fx,f∈res.map (·.1):=by
 obtain⟨more,h1,h2⟩:=gZ (-1) fx [];obtain⟨res,r1,r2,r3,r4,r5,Sv,r6⟩:=qN out fx U B hB hU wc 0 (dr [] (-1) fx) (by lia) (gr _) (uf _ _ _ xb) (λt ht=>by
  rw[h1,gS]at ht;exact hf _ (h2 t ht).2) (Iq out fx) (λj g d hj=>absurd hj (Nat.not_lt_zero _))
 exact⟨res,r1,r2,r3,r4,r5,λf hff=>by rw[r6,cM];exact iD _ (p5 _ _ _ f hff)⟩
end
theorem Gw:∀ks:List cf,HZ (ks.map mW)=some ks
 | []=>rfl
 | k::ks=>by
  rw[bX];show(HY (mW k)).bind _=_;have:HY (mW k)=some k:=by cases k<;>rfl
  rw[this,aQ,Gw ks];rfl
theorem QI{ks:List cf}(h:ks.length<1000):mx (fK ks)=some ks:=by
 show(if(ks.map mW).length<1000 then HZ (ks.map mW)else none)=_
 rw[aB,if_pos h,Gw]
theorem p8:∀{fs:List (List cf)},(∀f∈fs,f.length<1000)->factsOf (fs.map fK)=some fs
 | [],_=>rfl
 | f::fs,h=>by
  rw[bX];show(mx (fK f)).bind _=_;rw[QI (h f bo),aQ,p8 λg hg=>h g (bz _ hg)]
  rfl
theorem QJ{fb:FE}{xX:aG}{f:List cf}{fs:List (List cf)}(h:fb (.val (fK f)::xX)=some (.ao (fs.map fK)))(hl:∀x∈fs,x.length<1000):AN fb xX f=some fs:=by
 unfold AN;rw[h,aQ];exact p8 hl
theorem D9{fe fb:FE}{link:List (Option Nat)}{ρ:aG}{fk:List (List cf)}{told:fD}(h:fe ρ=some (.ao (fk.map fK)))(hl:∀x∈fk,x.length<1000)(hn:fk.length<gH)(hs:gi (AN fb (bA link ρ)) wc 0 (dr [] (-1) fk)=some told):lU fe fb link ρ=some (told.map toldP):=by
 unfold lU;rw[h,aQ];show(factsOf (fk.map fK)).bind _=_;rw[p8 hl,aQ,if_pos hn,hs];rfl
end zr
namespace cz
open PySem L2 L2.PL nu
def iP:List (Str×Str):=[("put","put_acts"),("set","set_acts"),("fill","put_acts"),("copy","copy_acts"),("move","move_acts"),("drop","drop_acts"),("lend","lend_acts"),("sole","lend_acts"),("call","call_acts"),("if","if_acts"),("go","go_acts"),("say","say_acts"),("give","give_acts")]
abbrev kI(n:Int):FE:=cK (.int n)
abbrev kS(s:Str):FE:=cK (.str s)
abbrev CF:=Str->ay->cH
theorem rq{x:Str}{st:aE}{f:CF->FS}{n:Nat}(h:bq.defs.lookup x=some st)(hf:∀c:CT,gD lx (ky bq st c) (cy st)=some (f (cN c)))(hn:(cq st).length=n)(k:Nat)(ps:ay):run bq (k+1) x ps=q8 (f (run bq k)) n ps:=by
 rw[<-hn];exact Mi h (hf _) ps
noncomputable def MJ:List (Str×Nat):=("leaves",1)::("check_part",2)::("part",2)::("first",2)::("is_copied",1)::("kind_of",2)::("is_holder",1)::("shape_of",1)::("spread",2)::("tell_new",4)::("row_nexts",2)::("acts",2)::("nexts",2)::("touched",1)::("is_lending",1)::("touch",4)::("touch_whole",4)::("at_acts",2)::("operand_acts",2)::("target_acts",2)::("put_acts",2)::("set_acts",2)::("copy_acts",2)::("move_acts",2)::("drop_acts",2)::("lend_acts",2)::("call_acts",2)::("arg_act",3)::("owner_act",2)::("if_acts",2)::("go_acts",2)::("say_acts",2)::("give_acts",2)::("needs",2)::("acts_ahead",1)::("needed_by",2)::("handed",2)::("needed_ahead",3)::("_law_cell_at",2)::("_law_mixed",2)::("_law_names",2)::("_law_shape",1)::("_law_leaves",1)::("_law_parts",1)::("_law_lets",2)::("_law_spots",1)::("_law_numbers",3)::("_law_operand",3)::("_law_carried",4)::("_law_lending",4)::("_law_call",3)::("_law_small_row",4)::("_law_row",3)::("_law_program",3)::("_law_whole",1)::("_law_is_fact",1)::("_law_right",2)::("law",1)::[]
noncomputable def Ea(c:CF):FS :=
 (gI 1 (aa (aD (aR 1 (c "leaves")) (aa (rd 2) ai)) ai) qW)
noncomputable def MK(c:CF):FS :=
 (aJ (fJ (fP (toB (af (af (rd 0) (kI 0) aH) (kS "rec") rm)))
  (bC (aY (aa (rd 0) ai)))
  (λρ=>some (.nx ρ)))
  (aJ (iY 1 (cB ai))
  (aJ (eZ (cF (af (rd 0) (kI 1) aH)) (ak 2) (Ea c))
  (me [1] (bC (b6 mi (aa (rd 1) ai)))))))
def Eb:=rq (x:="leaves") (st:=zJ) (f:=MK) (n:=3) (by kernel_rfl) (λc=>by kernel_rfl) (by kernel_rfl)
noncomputable def gM(c:CF):FS :=
 (aJ (fJ (toB (af (af (rd 0) (kI 0) aH) (kS "rec") rm))
  (λ_=>none)
  (λρ=>some (.nx ρ)))
  (fJ (gP (toB (chain (kI 0) (rd 1) (b6 cJ (aa (af (rd 0) (kI 1) aH) ai)) O7 Jp)))
  (λ_=>none)
  (λρ=>some (.nx ρ))))
def ug:=rq (x:="check_part") (st:=nH) (f:=gM) (n:=2) (by kernel_rfl) (λc=>by kernel_rfl) (by kernel_rfl)
noncomputable def oC(c:CF):FS :=
 (aJ (qF (aD (aR 2 (c "check_part")) (aa (rd 2) (aa (rd 3) ai))))
  (bx (af (af (rd 2) (kI 1) aH) (rd 3) aH) (ak 2)))
noncomputable def Ec(c:CF):FS :=
 (aJ (bx (rd 0) (ak 2))
  (aJ (eZ (cF (rd 1)) (ak 3) (oC c))
  (bC (rd 2))))
def ML:=rq (x:="part") (st:=JZ) (f:=Ec) (n:=4) (by kernel_rfl) (λc=>by kernel_rfl) (by kernel_rfl)
noncomputable def lX(c:CF):FS :=
 (aJ (qF (aD (aR 2 (c "check_part")) (aa (rd 2) (aa (rd 4) ai))))
  (aJ (bx (af (rd 3) (b6 DB (aa (bG (dB [none,none] (cF (cutE (af (rd 2) (kI 1) aH) Pb (kl (rd 4)))) (ak 1) (b6 cJ (aa (aD (aR 1 (c "leaves")) (aa (rd 1) ai)) ai)))) ai)) Qi) (ak 3))
  (bx (af (af (rd 2) (kI 1) aH) (rd 4) aH) (ak 2))))
noncomputable def yz(c:CF):FS :=
 (aJ (bx (rd 0) (ak 2))
  (aJ (bx (kI 0) (ak 3))
  (aJ (eZ (cF (rd 1)) (ak 4) (lX c))
  (bC (rd 3)))))
def Iu:=rq (x:="first") (st:=EX) (f:=yz) (n:=5) (by kernel_rfl) (λc=>by kernel_rfl) (by kernel_rfl)
noncomputable def Bc(c:CF):FS :=
 (bC (af (aY (aa (kS "own") ai)) (aD (aR 1 (c "leaves")) (aa (rd 0) ai)) (rn true)))
def vc:=rq (x:="is_copied") (st:=qm) (f:=Bc) (n:=1) (by kernel_rfl) (λc=>by kernel_rfl) (by kernel_rfl)
noncomputable def jj(c:CF):FS :=
 (fJ (toB (af (rd 2) (rd 1) eu))
  (bC (rd 3))
  (λρ=>some (.nx ρ)))
theorem uh(c:CF)(ρ:aG):jj c ρ=(fJ (toB (af (rd 2) (rd 1) eu))
  (bC (rd 3))
  (λρ=>some (.nx ρ))) ρ:=rfl
noncomputable def p9(c:CF):FS :=
 (aJ (eZ (cF (af (af (rd 0) (kI 1) aH) (af (rd 0) (kI 3) aH) bQ)) (cC 2 (aw (ak 2) (aw (ak 3) cx))) (jj c))
  (λ_=>none))
def Be:=rq (x:="kind_of") (st:=vy) (f:=p9) (n:=4) (by kernel_rfl) (λc=>by kernel_rfl) (by kernel_rfl)
noncomputable def Bf(c:CF):FS :=
 (bC (af (af (rd 0) (kI 0) aH) (cK (.aC [(.str "lent"),(.str "sole")])) (rn false)))
def vd:=rq (x:="is_holder") (st:=qp) (f:=Bf) (n:=1) (by kernel_rfl) (λc=>by kernel_rfl) (by kernel_rfl)
noncomputable def Ed(c:CF):FS :=
 (bC (uT (toB (aD (aR 1 (c "is_holder")) (aa (rd 0) ai))) (af (rd 0) (kI 1) aH) (rd 0)))
def yA:=rq (x:="shape_of") (st:=su) (f:=Ed) (n:=1) (by kernel_rfl) (λc=>by kernel_rfl) (by kernel_rfl)
noncomputable def Bg(c:CF):FS :=
 (aJ (bx (af (rd 0) (rd 1) aH) (ak 2))
  (aJ (fJ (toB (af (af (rd 2) (kI 0) aH) (kS "give") eu))
  (bC (aY ai))
  (λρ=>some (.nx ρ)))
  (aJ (fJ (toB (af (af (rd 2) (kI 0) aH) (kS "go") eu))
  (bC (aY (aa (af (rd 2) (kI 1) aH) ai)))
  (λρ=>some (.nx ρ)))
  (aJ (fJ (toB (af (af (rd 2) (kI 0) aH) (kS "if") eu))
  (bC (b6 mi (aa (Lm (aa (af (rd 1) (kI 1) bQ) (aa (af (rd 2) (kI 3) aH) ai))) ai)))
  (λρ=>some (.nx ρ)))
  (bC (aY (aa (af (rd 1) (kI 1) bQ) ai)))))))
def jB:=rq (x:="row_nexts") (st:=qr) (f:=Bg) (n:=3) (by kernel_rfl) (λc=>by kernel_rfl) (by kernel_rfl)
noncomputable def oD(c:CF):FS :=
 (aJ (bx (HM iP MJ c (af (rd 5) (kI 0) aH) (aa (rd 2) (aa (rd 5) ai))) (ak 6))
  (gI 3 (aa (bG (dB [none,none,some 4] (cF (X4 (rd 6) (bG (cB (aa (cK (.aC [(.str "rest"),(.str ""),(.bl false),(.int 0),(.int 0),(.str "")])) ai))))) (ak 1) (af (aY (aa (rd 2) ai)) (rd 1) bQ))) ai) qW))
noncomputable def Vl(c:CF):FS :=
 (aJ (bx (af (rd 0) (rd 1) aH) (ak 2))
  (aJ (iY 3 (cB ai))
  (aJ (eZ (km (af (rd 2) (kI 4) aH)) (cC 2 (aw (ak 4) (aw (ak 5) cx))) (oD c))
  (nW 3))))
def MM:=rq (x:="acts") (st:=J1) (f:=Vl) (n:=7) (by kernel_rfl) (λc=>by kernel_rfl) (by kernel_rfl)
noncomputable def jR(c:CF):FS :=
 (fJ (fP (gU (toB (af (af (rd 4) (kI 1) bQ) (eV (b6 cJ (aa (rd 2) ai))) Jp)) (toB (af (af (af (rd 2) (af (rd 4) (kI 1) bQ) aH) (kI 0) aH) (af (rd 5) (kI 0) aH) eu))))
  (gI 6 (aa (aY (aa (af (rd 4) (kI 1) bQ) ai)) ai) mR)
  (me [3] (gI 6 (aa (b6 mi (aa (bG (dB [none,none,some 3] (cF (aD (aR 2 (c "row_nexts")) (aa (af (af (rd 0) (rd 1) aH) (kI 4) aH) (aa (af (rd 5) (kI 0) aH) ai)))) (ak 1) (getD 2 (rd 1)))) ai)) ai) mR)))
noncomputable def lY(c:CF):FS :=
 (UR 3 (af (rd 5) (kI 0) aH) (rd 4))
noncomputable def QK(c:CF):FS :=
 (aJ (bx (aD (aR 2 (c "acts")) (aa (rd 0) (aa (rd 1) ai))) (ak 2))
  (aJ (UP 3)
  (aJ (eZ (km (rd 2)) (cC 2 (aw (ak 4) (aw (ak 5) cx))) (lY c))
  (aJ (iY 6 (cB ai))
  (aJ (eZ (km (rd 2)) (cC 2 (aw (ak 4) (aw (ak 5) cx))) (jR c))
  (nW 6))))))
def Iv:=rq (x:="nexts") (st:=EY) (f:=QK) (n:=7) (by kernel_rfl) (λc=>by kernel_rfl) (by kernel_rfl)
noncomputable def Iw(c:CF):FS :=
 (bC (bG (lrg (aa (af (rd 0) (kI 4) aH) (aa (af (af (rd 0) (kI 4) aH) (af (rd 0) (kI 5) aH) bQ) ai)))))
def Bh:=rq (x:="touched") (st:=vz) (f:=Iw) (n:=1) (by kernel_rfl) (λc=>by kernel_rfl) (by kernel_rfl)
noncomputable def yB(c:CF):FS :=
 (bC (af (af (rd 0) (kI 1) aH) (cK (.aC [(.str "lend"),(.str "sole")])) (rn false)))
def ui:=rq (x:="is_lending") (st:=nI) (f:=yB) (n:=1) (by kernel_rfl) (λc=>by kernel_rfl) (by kernel_rfl)
noncomputable def yC(c:CF):FS :=
 (aJ (bx (aD (aR 1 (c "shape_of")) (aa (aD (aR 2 (c "kind_of")) (aa (rd 0) (aa (af (rd 2) (kI 0) aH) ai))) ai)) (ak 4))
  (aJ (bx (b6 cJ (aa (aD (aR 1 (c "leaves")) (aa (aD (aR 2 (c "part")) (aa (rd 4) (aa (af (rd 2) (kI 2) aH) ai))) ai)) ai)) (ak 5))
  (bC (aY (aa (rd 1) (aa (af (rd 2) (kI 0) aH) (aa (af (rd 2) (kI 1) aH) (aa (aD (aR 2 (c "first")) (aa (rd 4) (aa (af (rd 2) (kI 2) aH) ai))) (aa (rd 5) (aa (rd 3) ai))))))))))
def Iy:=rq (x:="touch") (st:=EZ) (f:=yC) (n:=6) (by kernel_rfl) (λc=>by kernel_rfl) (by kernel_rfl)
noncomputable def jC(c:CF):FS :=
 (bC (aD (aR 4 (c "touch")) (aa (rd 0) (aa (rd 1) (aa (aY (aa (rd 2) (aa (aD (aR 1 (c "is_holder")) (aa (aD (aR 2 (c "kind_of")) (aa (rd 0) (aa (rd 2) ai))) ai)) (aa (aY ai) (aa (cK .cE) ai))))) (aa (rd 3) ai))))))
def rb:=rq (x:="touch_whole") (st:=ml) (f:=jC) (n:=4) (by kernel_rfl) (λc=>by kernel_rfl) (by kernel_rfl)
noncomputable def qa(c:CF):FS :=
 (aJ (fJ (gP (toB (Jq .str (af (rd 1) (kI 3) aH))))
  (bC (bG (cB ai)))
  (λρ=>some (.nx ρ)))
  (bC (bG (cB (aa (aD (aR 4 (c "touch_whole")) (aa (rd 0) (aa (kS "read") (aa (af (rd 1) (kI 3) aH) (aa (kS "") ai))))) ai)))))
def Bi:=rq (x:="at_acts") (st:=vA) (f:=qa) (n:=2) (by kernel_rfl) (λc=>by kernel_rfl) (by kernel_rfl)
noncomputable def iQ(c:CF):FS :=
 (aJ (fJ (gP (toB (Jq .tuple (rd 1))))
  (bC (bG (cB ai)))
  (λρ=>some (.nx ρ)))
  (bC (af (aD (aR 2 (c "at_acts")) (aa (rd 0) (aa (rd 1) ai))) (bG (cB (aa (aD (aR 4 (c "touch")) (aa (rd 0) (aa (kS "read") (aa (rd 1) (aa (kS "") ai))))) ai))) bQ)))
def qb:=rq (x:="operand_acts") (st:=kM) (f:=iQ) (n:=2) (by kernel_rfl) (λc=>by kernel_rfl) (by kernel_rfl)
noncomputable def jD(c:CF):FS :=
 (aJ (fJ (toB (af (af (rd 1) (kI 3) aH) (cK .cE) V5))
  (bC (bG (cB (aa (aD (aR 4 (c "touch")) (aa (rd 0) (aa (kS "fill") (aa (rd 1) (aa (kS "") ai))))) ai))))
  (λρ=>some (.nx ρ)))
  (bC (af (aD (aR 2 (c "at_acts")) (aa (rd 0) (aa (rd 1) ai))) (bG (cB (aa (aD (aR 4 (c "touch")) (aa (rd 0) (aa (kS "turn") (aa (rd 1) (aa (kS "") ai))))) ai))) bQ)))
def rf:=rq (x:="target_acts") (st:=mn) (f:=jD) (n:=2) (by kernel_rfl) (λc=>by kernel_rfl) (by kernel_rfl)
noncomputable def Ee(c:CF):FS :=
 (bC (af (aD (aR 2 (c "operand_acts")) (aa (rd 0) (aa (af (rd 1) (kI 2) aH) ai))) (aD (aR 2 (c "target_acts")) (aa (rd 0) (aa (af (rd 1) (kI 1) aH) ai))) bQ))
def yD:=rq (x:="put_acts") (st:=sv) (f:=Ee) (n:=2) (by kernel_rfl) (λc=>by kernel_rfl) (by kernel_rfl)
noncomputable def Ef(c:CF):FS :=
 (bC (af (af (aD (aR 2 (c "operand_acts")) (aa (rd 0) (aa (af (rd 1) (kI 3) aH) ai))) (aD (aR 2 (c "operand_acts")) (aa (rd 0) (aa (af (rd 1) (kI 4) aH) ai))) bQ) (aD (aR 2 (c "target_acts")) (aa (rd 0) (aa (af (rd 1) (kI 1) aH) ai))) bQ))
def yE:=rq (x:="set_acts") (st:=sx) (f:=Ef) (n:=2) (by kernel_rfl) (λc=>by kernel_rfl) (by kernel_rfl)
noncomputable def Bj(c:CF):FS :=
 (bC (bG (cB (aa (aD (aR 4 (c "touch")) (aa (rd 0) (aa (kS "read") (aa (af (rd 1) (kI 2) aH) (aa (kS "") ai))))) (aa (aD (aR 4 (c "touch")) (aa (rd 0) (aa (kS "fill") (aa (af (rd 1) (kI 1) aH) (aa (kS "") ai))))) ai)))))
def ve:=rq (x:="copy_acts") (st:=qt) (f:=Bj) (n:=2) (by kernel_rfl) (λc=>by kernel_rfl) (by kernel_rfl)
noncomputable def Bk(c:CF):FS :=
 (bC (bG (cB (aa (aD (aR 4 (c "touch")) (aa (rd 0) (aa (kS "empty") (aa (af (rd 1) (kI 2) aH) (aa (kS "") ai))))) (aa (aD (aR 4 (c "touch")) (aa (rd 0) (aa (kS "fill") (aa (af (rd 1) (kI 1) aH) (aa (kS "") ai))))) ai)))))
def vg:=rq (x:="move_acts") (st:=qu) (f:=Bk) (n:=2) (by kernel_rfl) (λc=>by kernel_rfl) (by kernel_rfl)
noncomputable def Bl(c:CF):FS :=
 (bC (bG (cB (aa (aD (aR 4 (c "touch")) (aa (rd 0) (aa (kS "empty") (aa (af (rd 1) (kI 1) aH) (aa (kS "") ai))))) ai))))
def vh:=rq (x:="drop_acts") (st:=qw) (f:=Bl) (n:=2) (by kernel_rfl) (λc=>by kernel_rfl) (by kernel_rfl)
noncomputable def Bm(c:CF):FS :=
 (bC (bG (cB (aa (aD (aR 4 (c "touch")) (aa (rd 0) (aa (af (rd 1) (kI 0) aH) (aa (af (rd 1) (kI 2) aH) (aa (af (rd 1) (kI 1) aH) ai))))) ai))))
def vi:=rq (x:="lend_acts") (st:=qx) (f:=Bm) (n:=2) (by kernel_rfl) (λc=>by kernel_rfl) (by kernel_rfl)
noncomputable def Bn(c:CF):FS :=
 (aJ (iY 2 (dB [none,none,none,some 0] (km (af (rd 1) (kI 3) aH)) (cC 2 (aw (ak 1) (aw (ak 2) cx))) (aD (aR 3 (c "arg_act")) (aa (rd 3) (aa (rd 2) (aa (b6 Az (aa (rd 1) ai)) ai))))))
  (aJ (gI 2 (aa (cK (.aC [(.str "hand"),(.str ""),(.bl false),(.int 0),(.int 0),(.str "")])) ai) mR)
  (aJ (fJ (fP (toB (af (af (rd 1) (kI 1) aH) (kS "") eu)))
  (nW 2)
  (λρ=>some (.nx ρ)))
  (aJ (fJ (fP (toB (aD (aR 1 (c "is_holder")) (aa (aD (aR 2 (c "kind_of")) (aa (rd 0) (aa (af (rd 1) (kI 1) aH) ai))) ai))))
  (me [2] (bC (af (rd 2) (bG (cB (aa (aY (aa (kS "take") (aa (kS "") (aa (cK (.bl false)) (aa (kI 0) (aa (kI 0) (aa (af (rd 1) (kI 1) aH) ai))))))) ai))) bQ)))
  (λρ=>some (.nx ρ)))
  (me [2] (bC (af (rd 2) (bG (cB (aa (aD (aR 4 (c "touch_whole")) (aa (rd 0) (aa (kS "fill") (aa (af (rd 1) (kI 1) aH) (aa (kS "") ai))))) ai))) bQ)))))))
def vj:=rq (x:="call_acts") (st:=qy) (f:=Bn) (n:=3) (by kernel_rfl) (λc=>by kernel_rfl) (by kernel_rfl)
noncomputable def Iz(c:CF):FS :=
 (aJ (bx (aD (aR 2 (c "kind_of")) (aa (rd 0) (aa (rd 1) ai))) (ak 3))
  (aJ (fJ (gP (toB (aD (aR 1 (c "is_holder")) (aa (rd 3) ai))))
  (bC (aD (aR 2 (c "owner_act")) (aa (rd 0) (aa (rd 1) ai))))
  (λρ=>some (.nx ρ)))
  (bC (aD (aR 4 (c "touch_whole")) (aa (rd 0) (aa (uT (toB (af (af (rd 3) (kI 0) aH) (kS "lent") eu)) (kS "lend") (kS "sole")) (aa (rd 1) (aa (rd 2) ai))))))))
def Bo:=rq (x:="arg_act") (st:=vB) (f:=Iz) (n:=4) (by kernel_rfl) (λc=>by kernel_rfl) (by kernel_rfl)
noncomputable def Bp(c:CF):FS :=
 (bC (aD (aR 4 (c "touch_whole")) (aa (rd 0) (aa (uT (toB (aD (aR 1 (c "is_copied")) (aa (aD (aR 2 (c "kind_of")) (aa (rd 0) (aa (rd 1) ai))) ai))) (kS "read") (kS "empty")) (aa (rd 1) (aa (kS "") ai))))))
def vk:=rq (x:="owner_act") (st:=qz) (f:=Bp) (n:=2) (by kernel_rfl) (λc=>by kernel_rfl) (by kernel_rfl)
noncomputable def IA(c:CF):FS :=
 (bC (af (aD (aR 2 (c "operand_acts")) (aa (rd 0) (aa (af (rd 1) (kI 1) aH) ai))) (aD (aR 2 (c "operand_acts")) (aa (rd 0) (aa (af (rd 1) (kI 2) aH) ai))) bQ))
def Bq:=rq (x:="if_acts") (st:=vC) (f:=IA) (n:=2) (by kernel_rfl) (λc=>by kernel_rfl) (by kernel_rfl)
noncomputable def IB(c:CF):FS :=
 (bC (bG (cB ai)))
def Br:=rq (x:="go_acts") (st:=vD) (f:=IB) (n:=2) (by kernel_rfl) (λc=>by kernel_rfl) (by kernel_rfl)
noncomputable def Eg(c:CF):FS :=
 (bC (aD (aR 2 (c "operand_acts")) (aa (rd 0) (aa (af (rd 1) (kI 1) aH) ai))))
def yF:=rq (x:="say_acts") (st:=sy) (f:=Eg) (n:=2) (by kernel_rfl) (λc=>by kernel_rfl) (by kernel_rfl)
noncomputable def Bs(c:CF):FS :=
 (aJ (fJ (toB (af (af (rd 1) (kI 1) aH) (kS "") eu))
  (bC (bG (cB ai)))
  (λρ=>some (.nx ρ)))
  (aJ (fJ (toB (aD (aR 1 (c "is_holder")) (aa (aD (aR 2 (c "kind_of")) (aa (rd 0) (aa (af (rd 1) (kI 1) aH) ai))) ai)))
  (bC (bG (cB (aa (aD (aR 4 (c "touch_whole")) (aa (rd 0) (aa (kS "give") (aa (af (rd 1) (kI 1) aH) (aa (kS "") ai))))) ai))))
  (λρ=>some (.nx ρ)))
  (bC (bG (cB (aa (aD (aR 2 (c "owner_act")) (aa (rd 0) (aa (af (rd 1) (kI 1) aH) ai))) ai))))))
def mD:=rq (x:="give_acts") (st:=qA) (f:=Bs) (n:=2) (by kernel_rfl) (λc=>by kernel_rfl) (by kernel_rfl)
noncomputable def lZ(c:CF):FS :=
 (gI 2 (aa (bG (dB [none,none,none,some 3] (cF (aD (aR 2 (c "needed_by")) (aa (rd 6) (aa (rd 4) ai)))) (cC 2 (aw (ak 1) (aw (ak 2) cx))) (aY (aa (rd 3) (aa (rd 1) (aa (rd 2) ai)))))) ai) qW)
noncomputable def QL(c:CF):FS :=
 (aJ (bx (aD (aR 2 (c "acts")) (aa (rd 0) (aa (rd 1) ai))) (ak 6))
  (aJ (bx (aD (aR 1 (c "acts_ahead")) (aa (aD (aR 2 (c "nexts")) (aa (rd 0) (aa (rd 1) ai))) ai)) (ak 5))
  (aJ (iY 2 (cB ai))
  (aJ (eZ (km (rd 6)) (cC 2 (aw (ak 3) (aw (ak 4) cx))) (lZ c))
  (me [2] (bC (bG (lU (rd 2) (aD (aR 3 (c "needed_ahead")) (aa (rd 2) (aa (af (rd 1) (af (rd 0) (kI 0) aH) aH) (aa (rd 0) ai)))) [some 5,some 6]))))))))
def IC:=rq (x:="needs") (st:=E1) (f:=QL) (n:=7) (by kernel_rfl) (λc=>by kernel_rfl) (by kernel_rfl)
noncomputable def lA(c:CF):FS :=
 (DQ 2 (rd 4) (rd 3))
noncomputable def lB(c:CF):FS :=
 (eZ (cF (rd 1)) (ak 4) (lA c))
noncomputable def yG(c:CF):FS :=
 (aJ (yb [none,none] (ak 1) 2 0)
  (aJ (eZ (km (rd 0)) (cC 2 (aw (ak 3) (aw (ak 1) cx))) (lB c))
  (DR 2 (bC (rd 2)))))
def uj:=rq (x:="acts_ahead") (st:=nJ) (f:=yG) (n:=5) (by kernel_rfl) (λc=>by kernel_rfl) (by kernel_rfl)
noncomputable def Bt(c:CF):FS :=
 (aJ (fJ (toB (af (af (rd 1) (kI 1) aH) (kS "hand") eu))
  (bC (aD (aR 2 (c "handed")) (aa (rd 0) (aa (af (rd 1) (kI 0) aH) ai))))
  (λρ=>some (.nx ρ)))
  (aJ (fJ (gP (toB (af (rd 1) (kI 3) aH)))
  (bC (bG (cB ai)))
  (λρ=>some (.nx ρ)))
  (bC (bG (dB [none,none,some 1] (cF (aD (aR 1 (c "touched")) (aa (rd 1) ai))) (ak 1) (aY (aa (af (rd 2) (kI 2) aH) (aa (rd 1) ai))))))))
def vm:=rq (x:="needed_by") (st:=qB) (f:=Bt) (n:=2) (by kernel_rfl) (λc=>by kernel_rfl) (by kernel_rfl)
noncomputable def j5(c:CF):FS :=
 (fJ (fP (gU (toB (af (af (rd 3) (kI 0) aH) (rd 1) eu)) (toB (aD (aR 1 (c "is_lending")) (aa (rd 3) ai)))))
  (gI 2 (aa (bG (dB [none,none,some 3] (gF (aa (af (rd 3) (kI 5) aH) ai)) (ak 1) (aY (aa (af (rd 2) (kI 6) aH) (aa (rd 1) ai))))) ai) qW)
  (λρ=>some (.nx ρ)))
noncomputable def MN(c:CF):FS :=
 (aJ (iY 2 (cB ai))
  (aJ (eZ (cF (rd 0)) (ak 3) (j5 c))
  (nW 2)))
def Eh:=rq (x:="handed") (st:=zK) (f:=MN) (n:=4) (by kernel_rfl) (λc=>by kernel_rfl) (by kernel_rfl)
noncomputable def uk(c:CF):FS :=
 (bC (bG (er [none,none,some 2,some 0] (cF (rd 1)) (ak 1) (toB (af (af (af (rd 3) (rd 1) aH) (kI 6) aH) (af (rd 2) (kI 1) aH) rm)) (aY (aa (rd 1) (aa (af (rd 2) (kI 1) aH) (aa (af (rd 2) (kI 2) aH) ai)))))))
def qc:=rq (x:="needed_ahead") (st:=kN) (f:=uk) (n:=3) (by kernel_rfl) (λc=>by kernel_rfl) (by kernel_rfl)
noncomputable def m8(c:CF):FS :=
 (aJ (fJ (toB (af (rd 1) (b6 cJ (aa (rd 0) ai)) Jp))
  (bC (af (rd 0) (rd 1) aH))
  (λρ=>some (.nx ρ)))
  (bC (kI 0)))
def yH:=rq (x:="_law_cell_at") (st:=sE) (f:=m8) (n:=2) (by kernel_rfl) (λc=>by kernel_rfl) (by kernel_rfl)
noncomputable def MO(c:CF):FS :=
 (aJ (bx (af (bG (cB (aa (aY (aa (kI 48271) (aa (kI 2147483647) ai))) (aa (aY (aa (kI 69621) (aa (kI 998244353) ai))) (aa (aY (aa (kI 40692) (aa (kI 1000000007) ai))) (aa (aY (aa (kI 16807) (aa (kI 2147483629) ai))) ai)))))) (rd 1) aH) (cC 2 (aw (ak 2) (aw (ak 3) cx))))
  (bC (af (af (af (af (rd 0) (kI 1000000000039) cj) (rd 1) bQ) (rd 2) jL) (rd 3) cj)))
def Ei:=rq (x:="_law_mixed") (st:=zL) (f:=MO) (n:=4) (by kernel_rfl) (λc=>by kernel_rfl) (by kernel_rfl)
noncomputable def j6(c:CF):FS :=
 (bx (af (rd 9) (af (rd 2) (af (af (af (rd 6) (rd 5) aH) (af (rd 8) (b6 xP (aa (af (rd 5) (rd 4) eu) ai)) jL) bQ) (kI 26) cj) aH) bQ) (ak 9))
noncomputable def j7(c:CF):FS :=
 (aJ (bx (kS "") (ak 9))
  (aJ (eZ (gF (aa (rd 3) ai)) (ak 5) (j6 c))
  (gI 7 (aa (rd 9) ai) mR)))
noncomputable def MP(c:CF):FS :=
 (aJ (bx (kS "abcdefghijklmnopqrstuvwxyz") (ak 2))
  (aJ (bx (af (kI 1) (af (rd 0) (kI 8) cj) bQ) (ak 3))
  (aJ (bx (af (af (rd 0) (kI 8) dq) (rd 3) cj) (ak 4))
  (aJ (bx (bG (dB [none,none,some 0] (gF (aa (rd 3) ai)) (ak 1) (af (af (af (rd 2) (af (kI 64) (af (af (kI 9) (rd 1) jL) (rd 1) jL) bQ) dq) (af (kI 5) (rd 1) jL) bQ) (kI 26) cj))) (ak 6))
  (aJ (iY 7 (cB ai))
  (aJ (eZ (gF (aa (rd 1) ai)) (ak 8) (j7 c))
  (nW 7)))))))
def Ej:=rq (x:="_law_names") (st:=zM) (f:=MP) (n:=10) (by kernel_rfl) (λc=>by kernel_rfl) (by kernel_rfl)
noncomputable def MQ(c:CF):FS :=
 (aJ (bx (aY (aa (kS "strip") (aa (af (kI 1) (af (af (rd 0) (kI 7) dq) (kI 8) cj) bQ) ai))) (ak 1))
  (aJ (bx (aY (aa (kS "rec") (aa (aY (aa (aY (aa (kS "num") ai)) (aa (aY (aa (kS "num") ai)) ai))) ai))) (ak 2))
  (aJ (bx (bG (cB (aa (rd 2) (aa (aY (aa (kS "own") ai)) (aa (rd 1) (aa (aY (aa (kS "num") ai)) (aa (aY (aa (kS "rec") (aa (aY (aa (aY (aa (kS "num") ai)) (aa (aY (aa (kS "own") ai)) ai))) ai))) (aa (aY (aa (kS "rec") (aa (aY (aa (rd 1) (aa (aY (aa (kS "own") ai)) ai))) ai))) ai)))))))) (ak 3))
  (bC (af (af (rd 3) (bG (cB (aa (aY (aa (kS "rec") (aa (aY (aa (rd 2) (aa (rd 1) ai))) ai))) ai))) bQ) (af (rd 0) (kI 7) cj) aH)))))
def Ek:=rq (x:="_law_shape") (st:=zN) (f:=MQ) (n:=4) (by kernel_rfl) (λc=>by kernel_rfl) (by kernel_rfl)
noncomputable def jk(c:CF):FS :=
 (bx (af (rd 1) (aD (aR 1 (c "_law_leaves")) (aa (rd 2) ai)) bQ) (ak 1))
noncomputable def ID(c:CF):FS :=
 (aJ (fJ (toB (af (af (rd 0) (kI 0) aH) (kS "rec") rm))
  (bC (bG (cB (aa (rd 0) ai))))
  (λρ=>some (.nx ρ)))
  (aJ (bx (bG (cB ai)) (ak 1))
  (aJ (eZ (cF (af (rd 0) (kI 1) aH)) (ak 2) (jk c))
  (bC (rd 1)))))
def qO:=rq (x:="_law_leaves") (st:=vE) (f:=ID) (n:=3) (by kernel_rfl) (λc=>by kernel_rfl) (by kernel_rfl)
noncomputable def j8(c:CF):FS :=
 (bx (af (rd 1) (bG (dB [none,none,none,some 2] (cF (aD (aR 1 (c "_law_parts")) (aa (rd 3) ai))) (cC 2 (aw (ak 1) (aw (ak 2) cx))) (aY (aa (af (aY (aa (rd 3) ai)) (rd 1) bQ) (aa (rd 2) ai))))) bQ) (ak 1))
noncomputable def MR(c:CF):FS :=
 (aJ (bx (bG (cB (aa (aY (aa (aY ai) (aa (rd 0) ai))) ai))) (ak 1))
  (aJ (fJ (toB (af (af (rd 0) (kI 0) aH) (kS "rec") eu))
  (eZ (km (af (rd 0) (kI 1) aH)) (cC 2 (aw (ak 2) (aw (ak 3) cx))) (j8 c))
  (λρ=>some (.nx ρ)))
  (bC (rd 1))))
def um:=rq (x:="_law_parts") (st:=zO) (f:=MR) (n:=4) (by kernel_rfl) (λc=>by kernel_rfl) (by kernel_rfl)
noncomputable def qd(c:CF):FS :=
 (aJ (bx (aD (aR 1 (c "_law_parts")) (aa (af (rd 4) (af (kI 1) (af (af (rd 3) (af (kI 3) (rd 2) bQ) aH) (kI 3) cj) bQ) aH) ai)) (ak 6))
  (aJ (bx (af (bG (cB (aa (kS "lent") (aa (kS "sole") (aa (kS "sole") ai))))) (af (af (af (rd 3) (af (kI 3) (rd 2) bQ) aH) (kI 3) dq) (kI 3) cj) aH) (ak 7))
  (gI 5 (aa (aY (aa (af (rd 1) (af (kI 4) (rd 2) bQ) aH) (aa (aY (aa (rd 7) (aa (af (af (rd 6) (af (af (af (rd 3) (af (kI 3) (rd 2) bQ) aH) (kI 9) dq) (eV (b6 cJ (aa (rd 6) ai))) cj) aH) (kI 1) aH) ai))) ai))) ai) mR)))
noncomputable def QM(c:CF):FS :=
 (aJ (bx (bG (dB [none,none,some 0] (gF (aa (kI 7) ai)) (ak 1) (aD (aR 2 (c "_law_mixed")) (aa (aD (aR 2 (c "_law_cell_at")) (aa (rd 2) (aa (af (kI 1) (rd 1) bQ) ai))) (aa (af (rd 1) (kI 4) cj) ai))))) (ak 3))
  (aJ (bx (af (bG (cB (aa (aY (aa (kS "num") ai)) ai))) (bG (dB [none,none,some 3] (gF (aa (kI 3) ai)) (ak 1) (aD (aR 1 (c "_law_shape")) (aa (af (rd 2) (rd 1) aH) ai)))) bQ) (ak 4))
  (aJ (iY 5 (dB [none,none,some 1,some 4] (gF (aa (kI 4) ai)) (ak 1) (aY (aa (af (rd 2) (rd 1) aH) (aa (af (rd 3) (rd 1) aH) ai)))))
  (aJ (eZ (gF (aa (kI 4) ai)) (ak 2) (qd c))
  (nW 5)))))
def IE:=rq (x:="_law_lets") (st:=E2) (f:=QM) (n:=8) (by kernel_rfl) (λc=>by kernel_rfl) (by kernel_rfl)
noncomputable def m9(c:CF):FS :=
 (gI 1 (aa (aY (aa (aY (aa (rd 2) (aa (rd 4) (aa (rd 6) (aa (cK .cE) ai))))) (aa (rd 7) (aa (af (af (rd 3) (kI 0) aH) (kS "lent") rm) ai)))) ai) mR)
noncomputable def ng(c:CF):FS :=
 (aJ (bx (af (af (rd 3) (kI 0) aH) (aY (aa (kS "lent") (aa (kS "sole") ai))) (rn false)) (ak 4))
  (aJ (bx (rd 3) (ak 5))
  (aJ (fJ (fP (toB (rd 4)))
  (bx (af (rd 3) (kI 1) aH) (ak 5))
  (λρ=>some (.nx ρ)))
  (eZ (cF (aD (aR 1 (c "_law_parts")) (aa (rd 5) ai))) (cC 2 (aw (ak 6) (aw (ak 7) cx))) (m9 c)))))
noncomputable def MS(c:CF):FS :=
 (aJ (iY 1 (cB ai))
  (aJ (eZ (cF (rd 0)) (cC 2 (aw (ak 2) (aw (ak 3) cx))) (ng c))
  (nW 1)))
def El:=rq (x:="_law_spots") (st:=zP) (f:=MS) (n:=8) (by kernel_rfl) (λc=>by kernel_rfl) (by kernel_rfl)
noncomputable def ix(c:CF):FS :=
 (aJ (fJ (fP (toB (af (af (rd 5) (kI 0) aH) (aY (aa (kS "num") (aa (kS "own") ai))) (rn false))))
  (gI 3 (aa (aY (aa (rd 4) (aa (rd 6) ai))) ai) mR)
  (λρ=>some (.nx ρ)))
  (fJ (fP (toB (af (af (rd 5) (kI 0) aH) (kS "strip") eu)))
  (gI 3 (aa (aY (aa (af (cutE (rd 4) Pb (kl (kI 3))) (aY (aa (af (bG (cB (aa (af (rd 2) (af (rd 5) (kI 1) aH) cj) (aa (rd 1) ai)))) (af (af (rd 2) (kI 8) dq) (kI 2) cj) aH) ai)) bQ) (aa (rd 6) ai))) ai) mR)
  (λρ=>some (.nx ρ))))
noncomputable def Em(c:CF):FS :=
 (aJ (iY 3 (cB ai))
  (aJ (eZ (cF (rd 0)) (cC 3 (aw (ak 4) (aw (ak 5) (aw (ak 6) cx)))) (ix c))
  (nW 3)))
def yI:=rq (x:="_law_numbers") (st:=sG) (f:=Em) (n:=7) (by kernel_rfl) (λc=>by kernel_rfl) (by kernel_rfl)
noncomputable def En(c:CF):FS :=
 (aJ (fJ (toB (af (af (af (rd 1) (kI 5) dq) (kI 4) cj) (kI 0) eu))
  (bC (af (rd 0) (af (kI 10) (kI 30) Ar) cj))
  (λρ=>some (.nx ρ)))
  (bC (af (af (rd 2) (af (af (rd 1) (kI 20) dq) (b6 cJ (aa (rd 2) ai)) cj) aH) (kI 0) aH)))
def yJ:=rq (x:="_law_operand") (st:=sJ) (f:=En) (n:=3) (by kernel_rfl) (λc=>by kernel_rfl) (by kernel_rfl)
noncomputable def Eo(c:CF):FS :=
 (aJ (bx (af (rd 3) (af (rd 1) (b6 cJ (aa (rd 3) ai)) cj) aH) (cC 3 (aw (ak 4) (aw (ak 5) (aw (ak 6) cx)))))
  (aJ (bx (bG (er [none,none,none,none,some 5] (cF (rd 3)) (cC 3 (aw (ak 1) (aw (ak 2) (aw (ak 3) cx)))) (gU (toB (af (rd 2) (rd 4) eu)) (toB (rd 3))) (rd 1))) (ak 7))
  (aJ (bx (af (aY (aa (kS "own") ai)) (aD (aR 1 (c "_law_leaves")) (aa (rd 5) ai)) (rn false)) (ak 8))
  (aJ (fJ (Fq (toB (af (rd 7) (bG (cB ai)) eu)) (gU (toB (af (rd 4) (kI 1) aH)) (toB (rd 8))))
  (bC (aY (aa (kS "say") (aa (rd 1) ai))))
  (λρ=>some (.nx ρ)))
  (aJ (fJ (Fq (toB (rd 8)) (gU (toB (af (rd 0) (kS "move") eu)) (gP (toB (af (rd 4) (kI 1) aH)))))
  (bC (aY (aa (kS "move") (aa (af (rd 7) (af (rd 2) (b6 cJ (aa (rd 7) ai)) cj) aH) (aa (rd 4) ai)))))
  (λρ=>some (.nx ρ)))
  (bC (aY (aa (kS "copy") (aa (af (rd 7) (af (rd 2) (b6 cJ (aa (rd 7) ai)) cj) aH) (aa (rd 4) ai))))))))))
def yK:=rq (x:="_law_carried") (st:=sL) (f:=Eo) (n:=9) (by kernel_rfl) (λc=>by kernel_rfl) (by kernel_rfl)
noncomputable def Ep(c:CF):FS :=
 (aJ (bx (bG (er [none,none] (cF (rd 2)) (ak 1) (toB (af (af (af (rd 1) (kI 1) aH) (kI 0) aH) (aY (aa (kS "lent") (aa (kS "sole") ai))) (rn false))) (rd 1))) (ak 4))
  (aJ (bx (af (rd 4) (af (rd 0) (b6 cJ (aa (rd 4) ai)) cj) aH) (cC 2 (aw (ak 5) (aw (ak 6) cx))))
  (aJ (bx (af (bG (cB (aa (kS "lend") (aa (kS "sole") ai)))) (b6 xP (aa (af (af (rd 6) (kI 0) aH) (kS "sole") eu) ai)) aH) (ak 7))
  (aJ (bx (bG (er [none,none,none,none,some 6,some 7] (cF (rd 3)) (cC 3 (aw (ak 1) (aw (ak 2) (aw (ak 3) cx)))) (gU (toB (af (rd 2) (af (rd 4) (kI 1) aH) eu)) (Fq (toB (rd 3)) (toB (af (rd 5) (kS "lend") eu)))) (rd 1))) (ak 8))
  (bC (aY (aa (rd 7) (aa (rd 5) (aa (af (rd 8) (af (rd 1) (b6 cJ (aa (rd 8) ai)) cj) aH) ai)))))))))
def yL:=rq (x:="_law_lending") (st:=sM) (f:=Ep) (n:=9) (by kernel_rfl) (λc=>by kernel_rfl) (by kernel_rfl)
noncomputable def QN(c:CF):FS :=
 (aJ (bx (rd 2) (cC 6 (aw (ak 3) (aw (ak 4) (aw (ak 5) (aw (ak 6) (aw (ak 7) (aw (ak 8) cx))))))))
  (aJ (fJ (fP (toB (af (af (rd 0) (kI 4) cj) (kI 0) eu)))
  (bC (aY (aa (kS "call") (aa (kS "") (aa (af (rd 3) (kI 0) aH) (aa (aY ai) ai))))))
  (λρ=>some (.nx ρ)))
  (aJ (iY 9 (cB (aa (af (rd 4) (af (rd 1) (eV (b6 cJ (aa (rd 4) ai))) cj) aH) (aa (af (rd 6) (af (af (rd 1) (kI 8) dq) (eV (b6 cJ (aa (rd 6) ai))) cj) aH) ai))))
  (aJ (fJ (fP (toB (af (af (rd 0) (kI 4) cj) (kI 1) eu)))
  (aJ (fJ (fP (toB (af (af (rd 8) (kI 2) cj) (kI 1) eu)))
  (Aq 9 P5)
  (λρ=>some (.nx ρ)))
  (me [9] (bC (aY (aa (kS "call") (aa (af (rd 7) (af (af (rd 0) (kI 4) dq) (eV (b6 cJ (aa (rd 7) ai))) cj) aH) (aa (af (rd 3) (kI 1) aH) (aa (b6 mi (aa (rd 9) ai)) ai))))))))
  (λρ=>some (.nx ρ)))
  (aJ (iY 9 (cB (aa (af (rd 4) (af (rd 1) (eV (b6 cJ (aa (rd 4) ai))) cj) aH) (aa (af (rd 5) (af (af (rd 1) (kI 8) dq) (eV (b6 cJ (aa (rd 5) ai))) cj) aH) ai))))
  (aJ (gI 9 (aa (af (rd 8) (kI 2) dq) (aa (af (rd 6) (af (af (rd 1) (kI 64) dq) (eV (b6 cJ (aa (rd 6) ai))) cj) aH) ai)) xZ)
  (me [9] (bC (aY (aa (kS "call") (aa (af (rd 4) (af (af (rd 0) (kI 4) dq) (eV (b6 cJ (aa (rd 4) ai))) cj) aH) (aa (af (rd 3) (kI 2) aH) (aa (b6 mi (aa (rd 9) ai)) ai)))))))))))))
def IF:=rq (x:="_law_call") (st:=E3) (f:=QN) (n:=10) (by kernel_rfl) (λc=>by kernel_rfl) (by kernel_rfl)
noncomputable def yM(c:CF):FS :=
 (aJ (fJ (toB (af (rd 0) (kS "drop") eu))
  (aJ (bx (bG (er [none,none,none,none] (cF (rd 3)) (cC 3 (aw (ak 1) (aw (ak 2) (aw (ak 3) cx)))) (gP (toB (af (rd 1) (kI 1) aH))) (rd 1))) (ak 4))
  (bC (aY (aa (kS "drop") (aa (af (rd 4) (af (rd 1) (b6 cJ (aa (rd 4) ai)) cj) aH) ai)))))
  (λρ=>some (.nx ρ)))
  (aJ (bx (bG (er [none,none,none,none] (cF (rd 3)) (cC 3 (aw (ak 1) (aw (ak 2) (aw (ak 3) cx)))) (gU (toB (af (af (rd 2) (kI 0) aH) (kS "strip") eu)) (toB (rd 3))) (rd 1))) (ak 5))
  (aJ (fJ (gU (toB (af (rd 0) (kS "fill") eu)) (toB (af (rd 5) (bG (cB ai)) rm)))
  (bC (aY (aa (kS "fill") (aa (af (rd 5) (af (rd 1) (b6 cJ (aa (rd 5) ai)) cj) aH) (aa (rd 2) ai)))))
  (λρ=>some (.nx ρ)))
  (bC (aY (aa (kS "say") (aa (rd 2) ai)))))))
def uo:=rq (x:="_law_small_row") (st:=nK) (f:=yM) (n:=6) (by kernel_rfl) (λc=>by kernel_rfl) (by kernel_rfl)
noncomputable def Vm(c:CF):FS :=
 (aJ (bx (rd 2) (cC 6 (aw (ak 3) (aw (ak 4) (aw (ak 5) (aw (ak 6) (aw (ak 7) (aw (ak 8) cx))))))))
  (aJ (bx (aD (aR 2 (c "_law_mixed")) (aa (rd 0) (aa (kI 1) ai))) (ak 9))
  (aJ (bx (aD (aR 2 (c "_law_mixed")) (aa (rd 0) (aa (kI 2) ai))) (ak 10))
  (aJ (bx (af (rd 3) (af (aD (aR 2 (c "_law_mixed")) (aa (rd 0) (aa (kI 0) ai))) (b6 cJ (aa (rd 3) ai)) cj) aH) (ak 11))
  (aJ (bx (bG (er [none,none,none] (cF (rd 6)) (cC 2 (aw (ak 1) (aw (ak 2) cx))) (toB (rd 2)) (rd 1))) (ak 12))
  (aJ (bx (aD (aR 3 (c "_law_operand")) (aa (rd 0) (aa (rd 10) (aa (rd 6) ai)))) (ak 13))
  (aJ (fJ (toB (af (rd 11) (kS "put") eu))
  (bC (aY (aa (kS "put") (aa (af (rd 12) (af (rd 9) (b6 cJ (aa (rd 12) ai)) cj) aH) (aa (rd 13) ai)))))
  (λρ=>some (.nx ρ)))
  (aJ (fJ (toB (af (rd 11) (kS "set") eu))
  (bC (aY (aa (kS "set") (aa (af (rd 12) (af (rd 9) (b6 cJ (aa (rd 12) ai)) cj) aH) (aa (af (kS "+-*") (af (rd 10) (kI 3) cj) aH) (aa (rd 13) (aa (aD (aR 3 (c "_law_operand")) (aa (af (rd 0) (kI 7) dq) (aa (rd 9) (aa (rd 6) ai)))) ai)))))))
  (λρ=>some (.nx ρ)))
  (aJ (fJ (toB (af (rd 11) (aY (aa (kS "copy") (aa (kS "move") ai))) (rn false)))
  (bC (aD (aR 4 (c "_law_carried")) (aa (rd 11) (aa (rd 9) (aa (rd 10) (aa (rd 5) ai))))))
  (λρ=>some (.nx ρ)))
  (aJ (fJ (toB (af (rd 11) (kS "lend") eu))
  (bC (aD (aR 4 (c "_law_lending")) (aa (rd 9) (aa (rd 10) (aa (rd 4) (aa (rd 5) ai))))))
  (λρ=>some (.nx ρ)))
  (aJ (fJ (toB (af (rd 11) (kS "call") eu))
  (bC (aD (aR 3 (c "_law_call")) (aa (rd 9) (aa (rd 10) (aa (rd 7) ai)))))
  (λρ=>some (.nx ρ)))
  (aJ (fJ (toB (af (rd 11) (kS "give") eu))
  (bC (rd 8))
  (λρ=>some (.nx ρ)))
  (aJ (fJ (toB (af (rd 11) (kS "go") eu))
  (bC (aY (aa (kS "go") (aa (af (rd 9) (rd 1) cj) ai))))
  (λρ=>some (.nx ρ)))
  (aJ (fJ (toB (af (rd 11) (kS "if") eu))
  (bC (aY (aa (kS "if") (aa (rd 13) (aa (af (rd 10) (kI 97) cj) (aa (af (rd 9) (rd 1) cj) ai))))))
  (λρ=>some (.nx ρ)))
  (bC (aD (aR 4 (c "_law_small_row")) (aa (rd 11) (aa (rd 9) (aa (rd 13) (aa (rd 5) ai))))))))))))))))))))
def MT:=rq (x:="_law_row") (st:=J2) (f:=Vm) (n:=14) (by kernel_rfl) (λc=>by kernel_rfl) (by kernel_rfl)
noncomputable def Er(c:CF):FS :=
 (aJ (bx (aD (aR 2 (c "_law_names")) (aa (af (aD (aR 2 (c "_law_cell_at")) (aa (rd 0) (aa (kI 0) ai))) (af (kI 10) (kI 12) Ar) cj) (aa (kI 13) ai))) (ak 3))
  (aJ (bx (aD (aR 2 (c "_law_lets")) (aa (rd 0) (aa (rd 3) ai))) (ak 4))
  (aJ (bx (aD (aR 2 (c "_law_mixed")) (aa (aD (aR 2 (c "_law_cell_at")) (aa (rd 0) (aa (kI 0) ai))) (aa (kI 3) ai))) (ak 5))
  (aJ (bx (af (af (rd 5) (kI 1024) dq) (kI 6) cj) (ak 6))
  (aJ (iY 7 (cB (aa (aY (aa (af (rd 3) (kI 8) aH) (aa (af (af (rd 4) (kI 4) aH) (kI 1) aH) ai))) (aa (aY (aa (af (rd 3) (kI 9) aH) (aa (af (af (rd 4) (kI 1) aH) (kI 1) aH) ai))) ai))))
  (aJ (fJ (fP (toB (af (af (rd 6) (kI 2) cj) (kI 1) eu)))
  (Aq 7 P5)
  (λρ=>some (.nx ρ)))
  (aJ (me [7] (bx (af (rd 7) (rd 4) bQ) (ak 8)))
  (aJ (bx (af (bG (cB (aa (cK .cE) (aa (af (af (af (rd 4) (kI 5) aH) (kI 1) aH) (aY (aa (aY ai) ai)) bQ) (aa (af (af (af (rd 4) (kI 5) aH) (kI 1) aH) (aY (aa (aY (aa (af (rd 3) (kI 8) aH) ai)) ai)) bQ) (aa (af (af (rd 4) (kI 2) aH) (kI 1) aH) ai)))))) (af (rd 5) (kI 4) cj) aH) (ak 9))
  (aJ (bx (aY (aa (kS "give") (aa (af (bG (cB (aa (kS "") (aa (af (rd 3) (kI 5) aH) (aa (af (rd 3) (kI 5) aH) (aa (af (rd 3) (kI 2) aH) ai)))))) (af (rd 5) (kI 4) cj) aH) ai))) (ak 10))
  (aJ (bx (bG (er [none,none,none,some 4] (cF (rd 8)) (cC 2 (aw (ak 1) (aw (ak 2) cx))) (toB (af (rd 2) (af (af (rd 3) (kI 4) aH) (kI 1) aH) eu)) (rd 1))) (ak 11))
  (aJ (bx (bG (er [none,none,none,some 4] (cF (rd 8)) (cC 2 (aw (ak 1) (aw (ak 2) cx))) (toB (af (rd 2) (af (af (rd 3) (kI 5) aH) (kI 1) aH) eu)) (rd 1))) (ak 12))
  (aJ (bx (bG (er [none,none,none,some 4] (cF (rd 8)) (cC 2 (aw (ak 1) (aw (ak 2) cx))) (toB (af (rd 2) (af (af (rd 3) (kI 1) aH) (kI 1) aH) eu)) (rd 1))) (ak 13))
  (aJ (bx (af (bG (cB (aa (bG (cB (aa (kS "") ai))) (aa (rd 12) (aa (rd 12) (aa (bG (er [none,none,none,some 4] (cF (rd 8)) (cC 2 (aw (ak 1) (aw (ak 2) cx))) (toB (af (rd 2) (af (af (rd 3) (kI 2) aH) (kI 1) aH) eu)) (rd 1))) ai)))))) (af (rd 5) (kI 4) cj) aH) (ak 14))
  (aJ (bx (aD (aR 1 (c "_law_spots")) (aa (rd 8) ai)) (ak 15))
  (aJ (bx (aD (aR 3 (c "_law_numbers")) (aa (rd 15) (aa (af (rd 3) (kI 0) aH) (aa (af (af (rd 5) (kI 16) dq) (kI 64) cj) ai)))) (ak 16))
  (aJ (bx (aY (aa (rd 2) (aa (rd 8) (aa (rd 15) (aa (rd 16) (aa (aY (aa (cutE (rd 3) (kl (kI 10)) Pb) (aa (rd 11) (aa (rd 12) (aa (rd 13) (aa (rd 14) (aa (rd 6) ai))))))) (aa (rd 10) ai))))))) (ak 17))
  (aJ (bx (cutE (rd 0) (kl (kI 8)) (kl (af (kI 8) (rd 1) bQ))) (ak 18))
  (aJ (bx (af (bG (dB [none,none,some 18,some 17] (cF (rd 18)) (ak 1) (aD (aR 3 (c "_law_row")) (aa (rd 1) (aa (af (b6 cJ (aa (rd 2) ai)) (kI 1) bQ) (aa (rd 3) ai)))))) (bG (cB (aa (rd 10) ai))) bQ) (ak 19))
  (aJ (bx (af (bG (cB (aa (aY ai) (aa (aY (aa (af (rd 3) (kI 0) aH) ai)) (aa (aY (aa (af (rd 3) (kI 1) aH) ai)) (aa (aY (aa (af (rd 3) (kI 0) aH) (aa (af (rd 3) (kI 1) aH) ai))) ai)))))) (af (af (rd 5) (kI 4) dq) (kI 4) cj) aH) (ak 20))
  (aJ (iY 21 (cB (aa (aY (aa (af (rd 3) (kI 0) aH) (aa (af (af (rd 4) (kI 4) aH) (kI 1) aH) ai))) (aa (aY (aa (af (rd 3) (kI 1) aH) (aa (af (af (rd 4) (kI 5) aH) (kI 1) aH) ai))) ai))))
  (aJ (gI 21 (aa (af (rd 6) (kI 2) dq) (aa (aY (aa (af (rd 3) (kI 2) aH) (aa (af (af (rd 4) (kI 1) aH) (kI 1) aH) ai))) ai)) xZ)
  (aJ (me [21] (bx (aY (aa (af (rd 3) (kI 12) aH) (aa (b6 mi (aa (rd 21) ai)) (aa (af (af (af (rd 4) (kI 4) aH) (kI 1) aH) (aY (aa (rd 20) ai)) bQ) (aa (aY ai) (aa (aY (aa (aY (aa (kS "give") (aa (af (rd 3) (kI 0) aH) ai))) ai)) ai)))))) (ak 22)))
  (aJ (me [7] (bx (aY (aa (af (rd 3) (kI 11) aH) (aa (b6 mi (aa (rd 7) ai)) (aa (rd 9) (aa (b6 mi (aa (rd 4) ai)) (aa (b6 mi (aa (rd 19) ai)) ai)))))) (ak 23)))
  (bC (aY (aa (aY (aa (af (rd 3) (kI 10) aH) (aa (aY ai) (aa (cK .cE) (aa (aY ai) (aa (aY (aa (aY (aa (kS "give") (aa (kS "") ai))) ai)) ai)))))) (aa (rd 23) (aa (rd 22) ai))))))))))))))))))))))))))))
def yN:=rq (x:="_law_program") (st:=sN) (f:=Er) (n:=24) (by kernel_rfl) (λc=>by kernel_rfl) (by kernel_rfl)
noncomputable def MU(c:CF):FS :=
 (bC (uS (Jq .int (rd 0)) (Hu (Jq .bool (rd 0)))))
def Es:=rq (x:="_law_whole") (st:=zQ) (f:=MU) (n:=1) (by kernel_rfl) (λc=>by kernel_rfl) (by kernel_rfl)
noncomputable def Et(c:CF):FS :=
 (aJ (fJ (Fq (gP (toB (Jq .tuple (rd 0)))) (Fq (toB (af (b6 cJ (aa (rd 0) ai)) (kI 4) rm)) (gP (toB (Jq .str (af (rd 0) (kI 1) aH))))))
  (bC (cK (.bl false)))
  (λρ=>some (.nx ρ)))
  (bC (uS (aD (aR 1 (c "_law_whole")) (aa (af (rd 0) (kI 0) aH) ai)) (uS (aD (aR 1 (c "_law_whole")) (aa (af (rd 0) (kI 2) aH) ai)) (aD (aR 1 (c "_law_whole")) (aa (af (rd 0) (kI 3) aH) ai))))))
def yO:=rq (x:="_law_is_fact") (st:=sQ) (f:=Et) (n:=1) (by kernel_rfl) (λc=>by kernel_rfl) (by kernel_rfl)
noncomputable def lC(c:CF):FS :=
 (fJ (inB true 2 (aY (aa (rd 1) (aa (af (rd 5) (kI 6) aH) (aa (rd 4) ai)))))
  (bC (cK (.bl false)))
  (λρ=>some (.nx ρ)))
noncomputable def il(c:CF):FS :=
 (fJ (gU (toB (af (af (rd 5) (kI 0) aH) (af (rd 3) (kI 0) aH) eu)) (toB (af (af (rd 5) (kI 1) aH) (aY (aa (kS "lend") (aa (kS "sole") ai))) (rn false))))
  (eZ (gF (aa (af (rd 5) (kI 5) aH) ai)) (ak 4) (lC c))
  (λρ=>some (.nx ρ)))
noncomputable def jl(c:CF):FS :=
 (fJ (inB true 2 (aY (aa (rd 1) (aa (af (rd 3) (kI 2) aH) (aa (rd 4) ai)))))
  (bC (cK (.bl false)))
  (λρ=>some (.nx ρ)))
noncomputable def wB(c:CF):FS :=
 (aJ (bx (af (rd 0) (rd 1) aH) (ak 3))
  (aJ (fJ (toB (af (rd 3) (kI 3) aH))
  (eZ (wm (aa (af (rd 3) (kI 4) aH) (aa (af (af (rd 3) (kI 4) aH) (af (rd 3) (kI 5) aH) bQ) ai))) (ak 4) (jl c))
  (λρ=>some (.nx ρ)))
  (aJ (fJ (toB (af (af (rd 3) (kI 1) aH) (kS "hand") eu))
  (eZ (cF (rd 0)) (ak 5) (il c))
  (λρ=>some (.nx ρ)))
  (bC (cK (.bl true))))))
theorem Bu(c:CT):gD lx (ky bq lJ c) (cy lJ)=some (wB (cN c)):=by kernel_rfl
theorem Bv(k:Nat)(o:Ob)(ps:ay)(hl:ps.length+1=3):q9 bq (k+1) "_law_itself" o ps=vb (wB (run bq k)) 6 o ps:=Ql (st:=lJ) (by kernel_rfl) (Bu _) o ps (hl.trans (by kernel_rfl))
noncomputable def ni(c:CF)(d:Str->Ob->ay->cH):FS :=
 (fJ (fP (gU (toB (af (af (af (rd 2) (rd 7) aH) (kI 6) aH) (rd 8) rm)) (inB true 5 (aY (aa (rd 7) (aa (rd 8) (aa (rd 9) ai)))))))
  (bC (cK (.bl false)))
  (λρ=>some (.nx ρ)))
noncomputable def uq(c:CF)(d:Str->Ob->ay->cH):FS :=
 (eZ (cF (af (rd 6) (rd 11) aH)) (cC 2 (aw (ak 8) (aw (ak 9) cx))) (ni c d))
noncomputable def iR(c:CF)(d:Str->Ob->ay->cH):FS :=
 (aJ (fJ (fP (gP (toB (mZ (HX 2 (d "_law_itself")) 5 (rd 2) (rd 7)))))
  (bC (cK (.bl false)))
  (λρ=>some (.nx ρ)))
  (eZ (cF (af (rd 3) (rd 7) aH)) (ak 11) (uq c d)))
noncomputable def nj(c:CF)(d:Str->Ob->ay->cH):FS :=
 (aJ (fJ (fP (gP (toB (chain (kI 0) (rd 7) (eV (b6 cJ (aa (rd 2) ai))) O7 Jp))))
  (bC (cK (.bl false)))
  (λρ=>some (.nx ρ)))
  (aJ (Ic 5 (aY (aa (rd 7) (aa (rd 8) (aa (rd 9) ai)))) (cK (.bl true)))
  (DQ 6 (rd 7) (aY (aa (rd 8) (aa (rd 9) ai))))))
noncomputable def Bw(c:CF)(d:Str->Ob->ay->cH):FS :=
 (aJ (bx (aD (aR 2 (c "acts")) (aa (rd 0) (aa (rd 1) ai))) (ak 2))
  (aJ (bx (aD (aR 2 (c "nexts")) (aa (rd 0) (aa (rd 1) ai))) (ak 3))
  (aJ (bx (aD (aR 2 (c "needs")) (aa (rd 0) (aa (rd 1) ai))) (ak 4))
  (aJ (fJ (fP (Fq (gP (toB (Jq .list (rd 4)))) (toB (af (bG (er [none,none] (cF (rd 4)) (ak 1) (gP (toB (aD (aR 1 (c "_law_is_fact")) (aa (rd 1) ai)))) (rd 1))) (bG (cB ai)) rm))))
  (bC (cK (.bl false)))
  (λρ=>some (.nx ρ)))
  (aJ (Qe 5)
  (aJ (yb [none,none] (ak 1) 6 2)
  (aJ (eZ (cF (rd 4)) (cC 4 (aw (ak 7) (aw (ak 8) (aw (ak 9) (aw (ak 10) cx))))) (nj c d))
  (aJ (fJ (fP (toB (af (LU 5) (eV (b6 cJ (aa (rd 4) ai))) rm)))
  (bC (cK (.bl false)))
  (λρ=>some (.nx ρ)))
  (aJ (DR 6 (eZ (gF (aa (eV (b6 cJ (aa (rd 2) ai))) ai)) (ak 7) (iR c d)))
  (bC (cK (.bl true))))))))))))
theorem Eu(c:CT):gD lx (ky bq nL c) (cy nL)=some (Bw (cN c) (cO c)):=by kernel_rfl
theorem Ew(k:Nat)(ps:ay):run bq (k+1) "_law_right" ps=q8 (Bw (run bq k) (q9 bq k)) 12 ps:=Mi (st:=nL) (by kernel_rfl) (Eu _) ps
noncomputable def Zw(c:CF):FS :=
 (aJ (bx (bG (cB (aa (kS "put") (aa (kS "set") (aa (kS "fill") (aa (kS "copy") (aa (kS "move") (aa (kS "drop") (aa (kS "lend") (aa (kS "lend") (aa (kS "lend") (aa (kS "lend") (aa (kS "call") (aa (kS "call") ai)))))))))))))) (ak 1))
  (aJ (bx (aD (aR 3 (c "_law_program")) (aa (rd 0) (aa (kI 16) (aa (af (rd 1) (bG (cB (aa (kS "call") (aa (kS "if") (aa (kS "if") (aa (kS "go") (aa (kS "say") (aa (kS "put") (aa (kS "give") ai))))))))) bQ) ai)))) (ak 2))
  (bC (uS (aD (aR 2 (c "_law_right")) (aa (rd 2) (aa (kI 1) ai))) (uS (aD (aR 2 (c "_law_right")) (aa (rd 2) (aa (kI 2) ai))) (aD (aR 2 (c "_law_right")) (aa (rd 2) (aa (kI 0) ai))))))))
def QO:=rq (x:="law") (st:=J3) (f:=Zw) (n:=3) (by kernel_rfl) (λc=>by kernel_rfl) (by kernel_rfl)
theorem eP{α:Type}{F:PV->bU}{e:α->PV}{G:α->PV}:∀{l:List α},(∀x∈l,F (e x)=some (G x))->iI F (l.map e)=some (l.map G)
 | [],_=>rfl
 | x::r,h=>by
  rw[bX,iI,h x bo,eP λy hy=>h y (bz _ hy)]
  rfl
theorem IG(ns:List Int):DB [.ao (ns.map .int)]=some (.int ns.sum):=by
 show(je _).map _=_;rw[wx];rfl
@[simp] theorem MV{x y:Str}:bQ (.str x) (.str y)=sizeOk (x.length+y.length) (.str (x++y)):=rfl
def Gx:Sh->Str
 | .num=>"num"
 | .own=>"own"
 | .dk _=>"strip"
 | .bJ _=>"rec"
@[simp] theorem Bx(s:Sh):aH (enc s) (.int 0)=some (.str (Gx s)):=by cases s<;>simp[enc,Gx]
inductive Kd where
 | ow (s:Sh) | ho (ahN:Bool) (s:Sh)
noncomputable def hw(b:Bool):Str:=if b then "sole" else "lent"
def du:Kd->PV
 | .ow s=>enc s
 | .ho b s=>.aC [.str (hw b),enc s]
def cR:Kd->Sh
 | .ow s=>s
 | .ho _ s=>s
noncomputable def iy:Kd->Bool
 | .ow _=>false
 | .ho _ _=>true
def kw:Kd->Str
 | .ow s=>Gx s
 | .ho b _=>hw b
@[simp] theorem lD(k:Kd):aH (du k) (.int 0)=some (.str (kw k)):=by cases k<;>simp[du,kw]
theorem Zx(x a b:Str):rn false (.str x) (.aC [.str a,.str b])=some (.bl (a==x || b==x)):=by
 show(if fm [PV.str a,.str b]<=iZ then some (PV.bl (KZ (.str x) [.str a,.str b]))else none)=_
 rw[if_pos (by simp[fm,jd])]
 simp[KZ,eqT]
theorem ad4:((Str.ofString "lent")==(Str.ofString "num") || (Str.ofString "sole")==(Str.ofString "num"))=false:=by decide +kernel
theorem ad5:((Str.ofString "lent")==(Str.ofString "own") || (Str.ofString "sole")==(Str.ofString "own"))=false:=by decide +kernel
theorem ad6:((Str.ofString "lent")==(Str.ofString "strip") || (Str.ofString "sole")==(Str.ofString "strip"))=false:=by decide +kernel
theorem ad7:((Str.ofString "lent")==(Str.ofString "rec") || (Str.ofString "sole")==(Str.ofString "rec"))=false:=by decide +kernel
theorem ad8:((Str.ofString "lent")==(Str.ofString "lent") || (Str.ofString "sole")==(Str.ofString "lent"))=true:=by decide +kernel
theorem ad9:((Str.ofString "lent")==(Str.ofString "sole") || (Str.ofString "sole")==(Str.ofString "sole"))=true:=by decide +kernel
theorem MW(k:Kd):((Str.ofString "lent")==kw k || (Str.ofString "sole")==kw k)=iy k:=by
 cases k with
 | ow s =>
  cases s with
  | num=>exact ad4
  | own=>exact ad5
  | dk n=>exact ad6
  | bJ ps=>exact ad7
 | ho b s =>
  cases b with
  | false=>exact ad8
  | true=>exact ad9
theorem yP(k:Kd):rn false (.str (kw k)) (.aC [.str "lent",.str "sole"])=some (.bl (iy k)):=by rw[Zx,MW]
theorem Vn(b:Bool)(s:Sh):aH (du (.ho b s)) (.int 1)=some (enc s):=by simp[du]
abbrev Rk:=Str×Kd
def bL(r:Rk):PV:=.aC [.str r.1,du r.2]
def oE:List Rk->Str->Option Kd
 | [],_=>none
 | r::l,x=>if r.1=x then some r.2 else oE l x
theorem wC:∀(l:List Rk) (r:Rk),(l.map (·.1)).Nodup->r∈l->oE l r.1=some r.2
 | s::l,r,hn,h=>by
  rw[bX,eA]at hn;rcases aZ.mp h with rfl | h
  ·rw[oE,if_pos rfl]
  ·rw[oE,if_neg,wC l r hn.2 h];intro e;exact hn.1 (bN.mpr ⟨r,h,e.symm⟩)
def aea:Option Kd->cH
 | some p=>some (.val (du p))
 | none=>none
theorem IH(c:eF)(f:Ent)(x:Str)(R:List Rk):∀(o2 o3:Ent),∃ρ,eG (cC 2 (aw (ak 2) (aw (ak 3) cx))) (jj c) (R.map bL) [f,.val (.str x),o2,o3]=some (match oE R x with | some p=>.rt (.val (du p)) | none=>.nx ρ):=by
 induction R with
 | nil=>exact λo2 o3=>⟨_,rfl⟩
 | cons r R ih =>
  intro o2 o3;obtain⟨ρ,e⟩:=ih (.val (.str r.1)) (.val (du r.2));refine⟨ρ,?_⟩;rw[bX,jP];have t:cC 2 (aw (ak 2) (aw (ak 3) cx)) (bL r) [f,.val (.str x),o2,o3]=some [f,.val (.str x),.val (.str r.1),.val (du r.2)]:=rfl;rw[t,aQ,uh,oE];by_cases h:r.1=x
  ·simp[h]
  ·rw[if_neg h];simp[h];exact e
def Ex(nm res body:PV)(R1 R2:List Rk):PV:=.aC [nm,.aC (R1.map bL),res,.aC (R2.map bL),body]
theorem II(k:Nat)(n res body:PV)(R1 R2:List Rk)(x:Str)(h:R1.length+R2.length<=1000):run bq (k+1) "kind_of" [Ex n res body R1 R2,.str x]=aea (oE (R1++R2) x):=by
 rw[Be];obtain⟨ρ,e⟩:=IH (run bq k) (.val (Ex n res body R1 R2)) x (R1++R2) .un .un;have hs:bQ (.aC (R1.map bL)) (.aC (R2.map bL))=some (.aC ((R1++R2).map bL)):=by
  rw[cM];exact aT (by simp;lia)
 have a0:eZ (cF (af (af (rd 0) (kI 1) aH) (af (rd 0) (kI 3) aH) bQ)) (cC 2 (aw (ak 2) (aw (ak 3) cx))) (jj (run bq k)) [.val (Ex n res body R1 R2),.val (.str x),.un,.un]=some (match oE (R1++R2) x with | some p=>.rt (.val (du p)) | none=>.nx ρ):=by
  refine fS ?_ e;rw[Gn,b2 (b2 rfl rfl rfl) (b2 rfl rfl rfl) hs];rfl
 rw[aV];show fW (p9 (run bq k) [.val (Ex n res body R1 R2),.val (.str x),.un,.un])=_;unfold p9;cases hf:oE (R1++R2) x with
 | none =>
  rw[hf]at a0;rw[gj a0];rfl
 | some p =>
  rw[hf]at a0;rw[kz a0];rfl
theorem ip(k:Nat)(d:Kd):run bq (k+1) "is_holder" [du d]=some (.val (.bl (iy d))):=by
 rw[vd];have h:=yP d;rw[aV];show fW (bC _ [.val (du d)])=_;rw[rS (b2 (b2 rfl rfl (lD d)) rfl h)];rfl
theorem Ey(k:Nat)(d:Kd):run bq (k+2) "shape_of" [du d]=some (.val (enc (cR d))):=by
 rw[yA];have h:=ip k d;have t:uT (toB (aD (aR 1 (run bq (k+1) "is_holder")) (aa (rd 0) ai))) (af (rd 0) (kI 1) aH) (rd 0) [.val (du d)]=some (enc (cR d)):=by
  have q:toB (aD (aR 1 (run bq (k+1) "is_holder")) (aa (rd 0) ai)) [.val (du d)]=some (iy d):=bT (dM (cA rfl rfl) rfl h rfl);rw[Gj,q];cases d with
  | ow s=>rfl
  | ho b s=>rfl
 rw[aV];show fW (bC _ [.val (du d)])=_;rw[rS t];rfl
theorem LA:fX (run bq):=⟨λk ps=>Eb k ps⟩
theorem Gy{ps:List Sh}{i:Int}{y:Sh}(h0:0<=i)(hg:ps[i.toNat]?=some y):atI (df ps) i=some (enc y):=by
 have:=dw (xs:=df ps) (j:=i.toNat) (v:=enc y) (by rw[ik,cm,hg];rfl)
 rw[wW h0]at this;exact this
def yQ{α:Type}:Option α->cH
 | some _=>some (.val .cE)
 | none=>none
theorem Gz(k:Nat)(s:Sh)(i:Int):run bq (k+1) "check_part" [enc s,.int i]=yQ (B9 s i):=by
 rw[ug];cases s with
 | num=>simp[gM,enc,B9,yQ,fW]
 | own=>simp[gM,enc,B9,yQ,fW]
 | dk n=>simp[gM,enc,B9,yQ,fW]
 | bJ ps =>
  simp[gM,enc,jQ];by_cases h0:0<=i
  ·by_cases h1:i<(ps.length:Int)
   ·have:i.toNat<ps.length:=by lia
    simp[h0,h1,B9,dG this,yQ,fW]
   ·have:ps.length<=i.toNat:=by lia
    simp[h0,h1,B9,mG this,yQ,fW]
  ·simp[h0,B9,yQ,fW]
theorem By{s:Sh}{i:Int}{x:Sh×Int}(h:B9 s i=some x):∃ps,s=.bJ ps/\0<=i/\ps[i.toNat]?=some x.1/\x.2=((iB (ps.take i.toNat)).length:Int):=by
 cases s with
 | bJ ps =>
  simp only[B9]at h;by_cases h0:0<=i
  ·rw[if_pos h0]at h;cases hg:ps[i.toNat]? with
   | none=>rw[hg]at h;simp at h
   | some y=>rw[hg]at h;simp at h;subst h;exact⟨ps,rfl,h0,hg,rfl⟩
  ·rw[if_neg h0]at h;cases h
 | num=>simp[B9]at h
 | own=>simp[B9]at h
 | dk n=>simp[B9]at h
theorem wD(k:Nat)(S P:Ent):∀(p:List Int) (s:Sh) (a:Int) (o:Ent) (s':Sh) (a':Int),walk s a p=some (s',a')->∃o',eG (ak 3) (oC (run bq (k+1))) (p.map .int) [S,P,.val (enc s),o]=some (.nx [S,P,.val (enc s'),o'])
 | [],s,a,o,s',a',h=>by
  simp[walk]at h;obtain⟨rfl,rfl⟩:=h;exact⟨o,by simp⟩
 | i::p,s,a,o,s',a',h=>by
  obtain⟨x,hx,hw⟩:=wR.mp (show(B9 s i).bind (λx=>walk x.1 (a+x.2) p)=some (s',a')from h)
  have hc:=Gz k s i;rw[hx]at hc;obtain⟨ps,rfl,h0,hg,_⟩:=By hx;obtain⟨o',q⟩:=wD k S P p x.1 (a+x.2) (.val (.int i)) s' a' hw;refine⟨o',?_⟩;have u4:=Gy h0 hg;have body:oC (run bq (k+1)) [S,P,.val (enc (.bJ ps)),.val (.int i)]=some (.nx [S,P,.val (enc x.1),.val (.int i)]):=by
   unfold oC;have a0:qF (aD (aR 2 (run bq (k+1) "check_part")) (aa (rd 2) (aa (rd 3) ai))) [S,P,.val (enc (.bJ ps)),.val (.int i)]=some (.nx [S,P,.val (enc (.bJ ps)),.val (.int i)]):=by
    simp[hc,yQ,fW]
   rw[gj a0];simp[enc,u4]
  simp only[bX,jP];have:ak 3 (.int i) [S,P,.val (enc (.bJ ps)),o]=some [S,P,.val (enc (.bJ ps)),.val (.int i)]:=by simp
  rw[this,aQ,body,aQ,rE];exact q
theorem Vo(k:Nat)(s:Sh)(p:List Int)(x:Sh×Int)(h:walk s 0 p=some x):run bq (k+2) "part" [enc s,.aC (p.map .int)]=some (.val (enc x.1)):=by
 rw[ML];obtain⟨o',q⟩:=wD k (.val (enc s)) (.val (.aC (p.map .int))) p s 0 .un x.1 x.2 h;rw[aV];show fW (Ec (run bq (k+1)) [.val (enc s),.val (.aC (p.map .int)),.un,.un])=_;unfold Ec;have a0:bx (rd 0) (ak 2) [.val (enc s),.val (.aC (p.map .int)),.un,.un]=some (.nx [.val (enc s),.val (.aC (p.map .int)),.val (enc s),.un]):=aS rfl rfl;rw[gj a0,gj (fS rfl q),rS (p:=enc x.1) rfl];rfl
theorem QP(k:Nat)(ps:List Sh)(q:Nat)(hd:ua ps<=k)(hl:(iB ps).length<=1000)(hn:ps.length<=1000)(a b d:Ent) :
  b6 DB (aa (bG (dB [none,none] (cF (cutE (af (rd 2) (kI 1) aH) Pb (kl (rd 4)))) (ak 1) (b6 cJ (aa (aD (aR 1 (run bq (k+1) "leaves")) (aa (rd 1) ai)) ai)))) ai) [a,b,.val (enc (.bJ ps)),d,.val (.int (q:Int))]=some (.int ((iB (ps.take q)).length:Int)):=by
 have hm:∀s∈ps.take q,run bq (k+1) "leaves" [enc s]=some (.val (.aC (df (lv s)))):=λs hs=>fX.each (LA) ps k hd (by lia) s (List.mem_of_mem_take hs)
 have aeb:∀l:List Sh,(l.map λs=>((lv s).length:Int)).sum=((iB l).length:Int):=by
  intro l;induction l with
  | nil=>simp[iB]
  | cons s l ih=>simp[iB,ih]
 have uV:cF (cutE (af (rd 2) (kI 1) aH) Pb (kl (rd 4))) [a,b,.val (enc (.bJ ps)),d,.val (.int (q:Int))]=some ((ps.take q).map enc):=by
  have Zy:=Vj (df ps) q;rw[ik,<-List.map_take]at Zy;simp[enc,ik,Zy]
 have e1:iI (λp=>(ak 1 p (bA [none,none] [a,b,.val (enc (.bJ ps)),d,.val (.int (q:Int))])).bind (b6 cJ (aa (aD (aR 1 (run bq (k+1) "leaves")) (aa (rd 1) ai)) ai))) ((ps.take q).map enc)=some (((ps.take q).map λs=>((lv s).length:Int)).map .int):=by
  rw[gq];refine eP λs hs=>?_
  simp[hm s hs,jQ]
 have e2:=IG ((ps.take q).map λs=>((lv s).length:Int))
 rw[aeb]at e2;refine bV (cA (fF ?_) rfl) e2;rw[A0,uV,aQ,if_pos (mz (by simp;lia))]
 exact e1
theorem Vp{ps:List Sh}{y:Sh}(h:y∈ps):dp y<=ua ps:=by
 induction ps with
 | nil=>cases h
 | cons z zs ih =>
  simp only[ua];rcases aZ.mp h with rfl | hm
  ·lia
  ·have:=ih hm
   lia
theorem ur(k:Nat)(S P:Ent):∀(p:List Int) (s:Sh) (a:Int) (o:Ent) (s':Sh) (a':Int),(tab s).length<=500->dp s<=k->walk s a p=some (s',a')->∃o',eG (ak 4) (lX (run bq (k+1))) (p.map .int) [S,P,.val (enc s),.val (.int a),o]=some (.nx [S,P,.val (enc s'),.val (.int a'),o'])
 | [],s,a,o,s',a',_,_,h=>by
  simp[walk]at h;obtain⟨rfl,rfl⟩:=h;exact⟨o,by simp⟩
 | i::p,s,a,o,s',a',ht,hd,h=>by
  obtain⟨x,hx,hw⟩:=wR.mp (show(B9 s i).bind (λx=>walk x.1 (a+x.2) p)=some (s',a')from h)
  have hc:=Gz k s i;rw[hx]at hc;obtain⟨ps,rfl,h0,hg,hx2⟩:=By hx;have Lk:x.1∈ps:=cS hg;have Js:=Io Lk;have htl:(tab (.bJ ps)).length=jA ps+1:=by simp only[tab,bt,iO]
  have hll:=D5 ps;have hnl:=A7 ps;have hdm:=Vp Lk;have hdd:ua ps+1<=k:=by simpa only[dp]using hd
  obtain⟨o',q⟩:=ur k S P p x.1 (a+x.2) (.val (.int i)) s' a' (by lia) (by lia) hw
  refine⟨o',?_⟩;have MX:=QP k ps i.toNat (by lia) (by lia) (by lia) S P (.val (.int a))
  rw[wW h0,<-hx2]at MX;have u4:=Gy h0 hg;have body:lX (run bq (k+1)) [S,P,.val (enc (.bJ ps)),.val (.int a),.val (.int i)]=some (.nx [S,P,.val (enc x.1),.val (.int (a+x.2)),.val (.int i)]):=by
   unfold lX;have a0:qF (aD (aR 2 (run bq (k+1) "check_part")) (aa (rd 2) (aa (rd 4) ai))) [S,P,.val (enc (.bJ ps)),.val (.int a),.val (.int i)]=some (.nx [S,P,.val (enc (.bJ ps)),.val (.int a),.val (.int i)]):=by
    simp[hc,yQ,fW]
   rw[gj a0];have a1:bx (af (rd 3) (b6 DB (aa (bG (dB [none,none] (cF (cutE (af (rd 2) (kI 1) aH) Pb (kl (rd 4)))) (ak 1) (b6 cJ (aa (aD (aR 1 (run bq (k+1) "leaves")) (aa (rd 1) ai)) ai)))) ai)) Qi) (ak 3) [S,P,.val (enc (.bJ ps)),.val (.int a),.val (.int i)]=some (.nx [S,P,.val (enc (.bJ ps)),.val (.int (a+x.2)),.val (.int i)]):=aS (b2 rfl MX rfl) rfl;rw[gj a1];exact aS (b2 (y:=.int i) (b2 (z:=some (.aC (df ps))) rfl rfl (by simp[enc])) rfl u4) rfl
  simp only[bX,jP];have:ak 4 (.int i) [S,P,.val (enc (.bJ ps)),.val (.int a),o]=some [S,P,.val (enc (.bJ ps)),.val (.int a),.val (.int i)]:=by simp
  rw[this,aQ,body,aQ,rE];exact q
theorem QQ(k:Nat)(s:Sh)(p:List Int)(x:Sh×Int)(ht:(tab s).length<=500)(hd:dp s<=k)(h:walk s 0 p=some x):run bq (k+2) "first" [enc s,.aC (p.map .int)]=some (.val (.int x.2)):=by
 rw[Iu];obtain⟨o',q⟩:=ur k (.val (enc s)) (.val (.aC (p.map .int))) p s 0 .un x.1 x.2 ht hd h;rw[aV];show fW (yz (run bq (k+1)) [.val (enc s),.val (.aC (p.map .int)),.un,.un,.un])=_;unfold yz;have a0:bx (rd 0) (ak 2) [.val (enc s),.val (.aC (p.map .int)),.un,.un,.un]=some (.nx [.val (enc s),.val (.aC (p.map .int)),.val (enc s),.un,.un]):=aS rfl rfl;have a1:bx (kI 0) (ak 3) [.val (enc s),.val (.aC (p.map .int)),.val (enc s),.un,.un]=some (.nx [.val (enc s),.val (.aC (p.map .int)),.val (enc s),.val (.int 0),.un]):=aS rfl rfl;rw[gj a0,gj a1,gj (fS rfl q),rS (p:=.int x.2) rfl];rfl
mutual
theorem MY:∀(s:Sh),∀r∈tab s,r.2.2.1=sz r.2.2.2
 | .num,r,h=>by simp[tab]at h;subst h;simp[sz,lv]
 | .own,r,h=>by simp[tab]at h;subst h;simp[sz,lv]
 | .dk n,r,h=>by simp[tab]at h;subst h;simp[sz,lv]
 | .bJ ps,r,h=>by
  simp only[tab,aZ]at h;rcases h with rfl | h
  ·simp[sz,lv]
  ·exact GA ps 0 0 r h
theorem GA:∀(l:List Sh) (k:Nat) (a:Int),∀r∈tabs k a l,r.2.2.1=sz r.2.2.2
 | [],_,_,r,h=>by simp[tabs]at h
 | s::l,k,a,r,h=>by
  simp only[tabs,cW,bN]at h;rcases h with⟨r0,h0,rfl⟩ | h
  ·exact MY s r0 h0
  ·exact GA l _ _ r h
end
mutual
theorem yR:∀(s:Sh),∀r∈tab s,dp r.2.2.2<=dp s/\(lv r.2.2.2).length<=(lv s).length
 | .num,r,h=>by simp[tab]at h;subst h;simp
 | .own,r,h=>by simp[tab]at h;subst h;simp
 | .dk n,r,h=>by simp[tab]at h;subst h;simp
 | .bJ ps,r,h=>by
  simp only[tab,aZ]at h;rcases h with rfl | h
  ·simp
  ·have:=GB ps 0 0 r h;simp only[dp,lv]
   lia
theorem GB:∀(l:List Sh) (k:Nat) (a:Int),∀r∈tabs k a l,dp r.2.2.2<=ua l/\(lv r.2.2.2).length<=(iB l).length
 | [],_,_,r,h=>by simp[tabs]at h
 | s::l,k,a,r,h=>by
  simp only[tabs,cW,bN]at h;simp only[ua,iB,bF];rcases h with⟨r0,h0,rfl⟩ | h
  ·have:=yR s r0 h0;simp only[mB]
   lia
  ·have:=GB l _ _ r h
   lia
end
structure c8 where
 w:Str
 n:Str
 t:Bool
 f:Int
 m:Int
 k:Str
def fY(a:c8):PV:=.aC [.str a.w,.str a.n,.bl a.t,.int a.f,.int a.m,.str a.k]
def MZ:c8:=⟨"rest","",false,0,0,""⟩
def gE:c8:=⟨"hand","",false,0,0,""⟩
def FQ(x:Str)(th:Bool)(p:List Int)(at_:PV):PV:=.aC [.str x,.bl th,.aC (p.map .int),at_]
def GC(s:Sh):Prop:=(tab s).length<=100/\dp s<=3
def yS(R:Nat->eF)(F:PV)(ks:List Rk):Prop:=∀k,∀r∈ks,run bq (k+1) "kind_of" [F,.str r.1]=some (.val (du r.2))
def tA(w x:Str)(d:Kd)(r:Rw)(t:Str):c8:=⟨w,x,iy d,r.2.1,r.2.2.1,t⟩
theorem Fe(n res body:PV)(R1 R2:List Rk)(h:R1.length+R2.length<=1000)(hn:((R1++R2).map (·.1)).Nodup):yS (run bq) (Ex n res body R1 R2) (R1++R2):=λk r hr=>by
 rw[II k n res body R1 R2 r.1 h,wC _ r hn hr];rfl
theorem hV{F:PV}{ks:List Rk}(hF:yS (run bq) F ks)(k:Nat)(hk:3<=k)(w t:Str){x:Str}{d:Kd}(hx:(x,d)∈ks)(hs:GC (cR d)){r:Rw}(hr:r∈tab (cR d))(a:PV):run bq (k+3) "touch" [F,.str w,FQ x (iy d) r.1 a,.str t]=some (.val (fY (tA w x d r t))):=by
 rw[Iy];have hw:=Ba (cR d) r hr 0;have hd:=yR (cR d) r hr;have hl:=Gr (cR d);have h1:=hF (k+1) (x,d) hx;have h2:=Ey k d;have h3:=Vo k (cR d) r.1 _ hw;have h4:=fX.all (LA) r.2.2.2 (k+1) (by have:=hs.2;lia) (by have:=hs.1;lia)
 have h5:=QQ k (cR d) r.1 _ (by have:=hs.1;lia) (by have:=hs.2;lia) hw
 have h6:=MY (cR d) r hr;have e4:r.2.1=0+r.2.1:=by lia
 rw[aV];show fW (yC (run bq (k+2)) [.val F,.val (.str w),.val (FQ x (iy d) r.1 a),.val (.str t),.un,.un])=_;unfold yC;have a0:bx (aD (aR 1 (run bq (k+2) "shape_of")) (aa (aD (aR 2 (run bq (k+2) "kind_of")) (aa (rd 0) (aa (af (rd 2) (kI 0) aH) ai))) ai)) (ak 4) [.val F,.val (.str w),.val (FQ x (iy d) r.1 a),.val (.str t),.un,.un]=some (.nx [.val F,.val (.str w),.val (FQ x (iy d) r.1 a),.val (.str t),.val (enc (cR d)),.un]) :=
  aS (dM (cA (dM (cA rfl (cA (b2 rfl rfl rfl) rfl)) rfl h1 rfl) rfl) rfl h2 rfl) rfl
 have a1:bx (b6 cJ (aa (aD (aR 1 (run bq (k+2) "leaves")) (aa (aD (aR 2 (run bq (k+2) "part")) (aa (rd 4) (aa (af (rd 2) (kI 2) aH) ai))) ai)) ai)) (ak 5) [.val F,.val (.str w),.val (FQ x (iy d) r.1 a),.val (.str t),.val (enc (cR d)),.un]=some (.nx [.val F,.val (.str w),.val (FQ x (iy d) r.1 a),.val (.str t),.val (enc (cR d)),.val (.int r.2.2.1)]):=by
  refine aS (bV (cA (dM (cA (dM (cA rfl (cA (b2 rfl rfl rfl) rfl)) rfl h3 rfl) rfl) rfl h4 rfl) rfl) ?_) rfl;rw[h6];simp[sz,jQ]
 rw[gj a0,gj a1];have a2:aY (aa (rd 1) (aa (af (rd 2) (kI 0) aH) (aa (af (rd 2) (kI 1) aH) (aa (aD (aR 2 (run bq (k+2) "first")) (aa (rd 4) (aa (af (rd 2) (kI 2) aH) ai))) (aa (rd 5) (aa (rd 3) ai)))))) [.val F,.val (.str w),.val (FQ x (iy d) r.1 a),.val (.str t),.val (enc (cR d)),.val (.int r.2.2.1)]=some (fY (tA w x d r t)):=by
  refine tU (cA rfl (cA (b2 rfl rfl rfl) (cA (b2 rfl rfl rfl) (cA (dM (cA rfl (cA (b2 rfl rfl rfl) rfl)) rfl h5 rfl) (cA rfl (cA rfl rfl)))))) ?_ |>.trans ?_
  ·simp
  ·show some (PV.aC [.str w,.str x,.bl (iy d),.int (0+r.2.1),.int r.2.2.1,.str t])=_;rw[<-e4];rfl
 rw[rS a2];rfl
theorem iS(s:Sh):(([],0,sz s,s):Rw)∈tab s:=by
 obtain⟨L,e⟩:=A6 s;rw[e];exact bo
theorem fZ{F:PV}{ks:List Rk}(hF:yS (run bq) F ks)(k:Nat)(hk:3<=k)(w t:Str){x:Str}{d:Kd}(hx:(x,d)∈ks)(hs:GC (cR d)):run bq (k+4) "touch_whole" [F,.str w,.str x,.str t]=some (.val (fY (tA w x d ([],0,sz (cR d),cR d) t))):=by
 rw[rb];have h1:=hF (k+2) (x,d) hx;have h2:=ip (k+2) d;have h3:=hV hF k hk w t hx hs (iS (cR d)) .cE;rw[aV];show fW (jC (run bq (k+3)) [.val F,.val (.str w),.val (.str x),.val (.str t)])=_;unfold jC;exact dt (rS (dM (cA rfl (cA rfl (cA (tU (cA rfl (cA (dM (cA (dM (cA rfl (cA rfl rfl)) rfl h1 rfl) rfl) rfl h2 rfl) (cA rfl (cA rfl rfl)))) (by simp)) (cA rfl rfl)))) rfl h3 rfl))
inductive IJ (ks:List Rk):PV->Prop
 | cE:IJ ks .cE
 | int (i:Int):IJ ks (.int i)
 | str (y:Str) (h:(y,Kd.ow .num)∈ks):IJ ks (.str y)
def NS:PV->List c8
 | .str y=>[⟨"read",y,false,0,1,""⟩]
 | _=>[]
theorem wF{F:PV}{ks:List Rk}(hF:yS (run bq) F ks)(k:Nat)(hk:3<=k)(x:Str)(th:Bool)(p:List Int){a:PV}(ha:IJ ks a):run bq (k+5) "at_acts" [F,FQ x th p a]=some (.val (.ao ((NS a).map fY))):=by
 rw[Bi,aV];show fW (qa (run bq (k+4)) [.val F,.val (FQ x th p a)])=_;unfold qa;cases ha with
 | cE=>exact dt (kz (iT rfl (rS rfl)))
 | int i=>exact dt (kz (iT rfl (rS rfl)))
 | str y h =>
  have h1:=fZ hF k hk "read" "" h ⟨by simp[cR,tab],by simp[cR,dp]⟩
  have e:tA "read" y (.ow .num) ([],0,sz (cR (.ow .num)),cR (.ow .num)) ""=⟨"read",y,false,0,1,""⟩:=by
   simp[tA,iy,cR,sz,lv]
  rw[e]at h1;exact dt (sq (iF rfl rfl) (rS (fF (lS (cA (dM (cA rfl (cA rfl (cA (b2 rfl rfl rfl) (cA rfl rfl)))) rfl h1 rfl) rfl) (by show 1<=100000;decide)))))
structure Sp where
 x:Str
 d:Kd
 r:Rw
 a:PV
def ck(s:Sp):PV:=FQ s.x (iy s.d) s.r.1 s.a
structure eW (ks:List Rk) (s:Sp):Prop where
 mem:(s.x,s.d)∈ks
 ok:GC (cR s.d)
 row:s.r∈tab (cR s.d)
 at_:IJ ks s.a
def Bz(w:Str)(s:Sp)(t:Str):c8:=tA w s.x s.d s.r t
inductive Op where
 | n (i:Int) | s (s:Sp)
def iU:Op->PV
 | .n i=>.int i
 | .s s=>ck s
def nk(ks:List Rk):Op->Prop
 | .n _=>True
 | .s s=>eW ks s
def uu:Op->List c8
 | .n _=>[]
 | .s s=>NS s.a++[Bz "read" s ""]
theorem yT(a:PV):(NS a).length<=1:=by
 unfold NS;split<;>simp
theorem el{F:PV}{ks:List Rk}(hF:yS (run bq) F ks)(k:Nat)(hk:3<=k){o:Op}(ho:nk ks o):run bq (k+6) "operand_acts" [F,iU o]=some (.val (.ao ((uu o).map fY))):=by
 rw[qb,aV];show fW (iQ (run bq (k+5)) [.val F,.val (iU o)])=_;unfold iQ;cases o with
 | n i=>exact dt (kz (iT rfl (rS rfl)))
 | s s =>
  obtain⟨h1,h2,h3,h4⟩:=ho;have e1:=wF hF k hk s.x (iy s.d) s.r.1 h4;have e2:=hV hF (k+2) (by lia) "read" "" h1 h2 h3 s.a
  have hl:=yT s.a;refine dt (sq (iF rfl rfl) (rS ?_));refine(b2 (dM (cA rfl (cA rfl rfl)) rfl e1 rfl) (fF (lS (cA (dM (cA rfl (cA rfl (cA rfl (cA rfl rfl)))) rfl e2 rfl) rfl) (by simp))) (aL (by simp;lia))).trans ?_
  rw[uu,cM];rfl
def Ez(s:Sp):List c8:=match s.a with
 | .cE=>[Bz "fill" s ""]
 | a=>NS a++[Bz "turn" s ""]
theorem mE{F:PV}{ks:List Rk}(hF:yS (run bq) F ks)(k:Nat)(hk:3<=k){s:Sp}(hs:eW ks s):run bq (k+6) "target_acts" [F,ck s]=some (.val (.ao ((Ez s).map fY))):=by
 rw[rf,aV];show fW (jD (run bq (k+5)) [.val F,.val (ck s)])=_;unfold jD;obtain⟨h1,h2,h3,h4⟩:=hs;have e1:=wF hF k hk s.x (iy s.d) s.r.1 h4;have ef:=hV hF (k+2) (by lia) "fill" "" h1 h2 h3 s.a
 have et:=hV hF (k+2) (by lia) "turn" "" h1 h2 h3 s.a
 obtain⟨x,d,r,a⟩:=s;have hl:=yT a;have uO:∀(z:V5 a .cE=some (.bl false)) (q:Ez ⟨x,d,r,a⟩=NS a++[Bz "turn" ⟨x,d,r,a⟩ ""]),fW (aJ (fJ (toB (af (af (rd 1) (kI 3) aH) (cK .cE) V5)) (bC (bG (cB (aa (aD (aR 4 (run bq (k+5) "touch")) (aa (rd 0) (aa (kS "fill") (aa (rd 1) (aa (kS "") ai))))) ai)))) (λρ=>some (.nx ρ))) (bC (af (aD (aR 2 (run bq (k+5) "at_acts")) (aa (rd 0) (aa (rd 1) ai))) (bG (cB (aa (aD (aR 4 (run bq (k+5) "touch")) (aa (rd 0) (aa (kS "turn") (aa (rd 1) (aa (kS "") ai))))) ai))) bQ)) [.val F,.val (ck ⟨x,d,r,a⟩)])=some (.val (.ao ((Ez ⟨x,d,r,a⟩).map fY))):=by
  intro z q;refine dt (sq (iF (bT (b2 (b2 rfl rfl rfl) rfl z)) rfl) (rS ?_));refine(b2 (dM (cA rfl (cA rfl rfl)) rfl e1 rfl) (fF (lS (cA (dM (cA rfl (cA rfl (cA rfl (cA rfl rfl)))) rfl et rfl) rfl) (by simp))) (aL (by simp only[aB,bt,iG];lia))).trans ?_
  rw[q,cM];rfl
 cases h4 with
 | cE=>exact dt (kz (iT (bT (b2 (b2 rfl rfl rfl) rfl rfl)) (rS (fF (lS (cA (dM (cA rfl (cA rfl (cA rfl (cA rfl rfl)))) rfl ef rfl) rfl) (by show 1<=100000;decide))))))
 | int i=>exact uO rfl rfl
 | str y h=>exact uO rfl rfl
section
def gN(as:List c8):PV:=.ao (as.map fY)
theorem jE(o:Op):(uu o).length<=2:=by
 cases o with
 | n i=>simp[uu]
 | s s=>have:=yT s.a;simp[uu];lia
theorem yU(s:Sp):(Ez s).length<=2:=by
 unfold Ez;split
 ·simp
 ·rename_i a _;have:=yT s.a;simp
  lia
section
variable {F:PV} {ks:List Rk} (hF:yS (run bq) F ks) (k:Nat) (hk:3<=k)
include hF hk
theorem EA(w:Str){s:Sp}(hs:eW ks s){o:Op}(ho:nk ks o):run bq (k+7) "put_acts" [F,.aC [.str w,ck s,iU o]]=some (.val (gN (uu o++Ez s))):=by
 rw[yD,aV];have h1:=el hF k hk ho;have h2:=mE hF k hk hs;have l1:=jE o;have l2:=yU s;unfold gN;rw[cM];exact dt (rS (b2 (dM (cA rfl (cA (b2 rfl rfl rfl) rfl)) rfl h1 rfl) (dM (cA rfl (cA (b2 rfl rfl rfl) rfl)) rfl h2 rfl) (aL (by simp only[aB];lia))))
theorem EB(w:Str){s:Sp}(hs:eW ks s)(q:PV){a b:Op}(ha:nk ks a)(hb:nk ks b):run bq (k+7) "set_acts" [F,.aC [.str w,ck s,q,iU a,iU b]]=some (.val (gN (uu a++uu b++Ez s))):=by
 rw[yE,aV];have h1:=el hF k hk ha;have h3:=el hF k hk hb;have h2:=mE hF k hk hs;have l1:=jE a;have l3:=jE b;have l2:=yU s;unfold gN;rw[cM,cM];exact dt (rS (b2 (b2 (dM (cA rfl (cA (b2 rfl rfl rfl) rfl)) rfl h1 rfl) (dM (cA rfl (cA (b2 rfl rfl rfl) rfl)) rfl h3 rfl) (aL (by simp only[aB];lia))) (dM (cA rfl (cA (b2 rfl rfl rfl) rfl)) rfl h2 rfl) (aL (by simp only[aB,bF];lia))))
theorem IK(w:Str)(q:PV){a b:Op}(ha:nk ks a)(hb:nk ks b):run bq (k+7) "if_acts" [F,.aC [.str w,iU a,iU b,q]]=some (.val (gN (uu a++uu b))):=by
 rw[Bq,aV];have h1:=el hF k hk ha;have h3:=el hF k hk hb;have l1:=jE a;have l3:=jE b;unfold gN;rw[cM];exact dt (rS (b2 (dM (cA rfl (cA (b2 rfl rfl rfl) rfl)) rfl h1 rfl) (dM (cA rfl (cA (b2 rfl rfl rfl) rfl)) rfl h3 rfl) (aL (by simp only[aB];lia))))
theorem EC(w:Str){a:Op}(ha:nk ks a):run bq (k+7) "say_acts" [F,.aC [.str w,iU a]]=some (.val (gN (uu a))):=by
 rw[yF,aV];have h1:=el hF k hk ha;exact dt (rS (dM (cA rfl (cA (b2 rfl rfl rfl) rfl)) rfl h1 rfl))
omit hF hk in
theorem IL(p:PV):run bq (k+7) "go_acts" [F,p]=some (.val (gN [])):=by
 rw[Br,aV];exact dt (rS rfl)
omit hF hk in
theorem yV(w:Str):run bq (k+7) "give_acts" [F,.aC [.str w,.str ""]]=some (.val (gN [])):=by
 rw[mD,aV];have q:eu (.str "") (.str "")=some (.bl true):=by rw[dJ];rfl
 exact dt (kz (iT (bT (b2 (b2 rfl rfl rfl) rfl q)) (rS rfl)))
theorem BA(w:Str){s t:Sp}(hs:eW ks s)(ht:eW ks t):run bq (k+7) "copy_acts" [F,.aC [.str w,ck s,ck t]]=some (.val (gN [Bz "read" t "",Bz "fill" s ""])):=by
 rw[ve,aV];have h1:=hV hF (k+3) (by lia) "read" "" ht.mem ht.ok ht.row t.a
 have h2:=hV hF (k+3) (by lia) "fill" "" hs.mem hs.ok hs.row s.a
 exact dt (rS (fF (lS (cA (dM (cA rfl (cA rfl (cA (b2 rfl rfl rfl) (cA rfl rfl)))) rfl h1 rfl) (cA (dM (cA rfl (cA rfl (cA (b2 rfl rfl rfl) (cA rfl rfl)))) rfl h2 rfl) rfl)) (by simp))))
theorem BB(w:Str){s t:Sp}(hs:eW ks s)(ht:eW ks t):run bq (k+7) "move_acts" [F,.aC [.str w,ck s,ck t]]=some (.val (gN [Bz "empty" t "",Bz "fill" s ""])):=by
 rw[vg,aV];have h1:=hV hF (k+3) (by lia) "empty" "" ht.mem ht.ok ht.row t.a
 have h2:=hV hF (k+3) (by lia) "fill" "" hs.mem hs.ok hs.row s.a
 exact dt (rS (fF (lS (cA (dM (cA rfl (cA rfl (cA (b2 rfl rfl rfl) (cA rfl rfl)))) rfl h1 rfl) (cA (dM (cA rfl (cA rfl (cA (b2 rfl rfl rfl) (cA rfl rfl)))) rfl h2 rfl) rfl)) (by simp))))
theorem BC(w:Str){s:Sp}(hs:eW ks s):run bq (k+7) "drop_acts" [F,.aC [.str w,ck s]]=some (.val (gN [Bz "empty" s ""])):=by
 rw[vh,aV];have h1:=hV hF (k+3) (by lia) "empty" "" hs.mem hs.ok hs.row s.a
 exact dt (rS (fF (lS (cA (dM (cA rfl (cA rfl (cA (b2 rfl rfl rfl) (cA rfl rfl)))) rfl h1 rfl) rfl) (by simp))))
theorem BD(w t:Str){s:Sp}(hs:eW ks s):run bq (k+7) "lend_acts" [F,.aC [.str w,.str t,ck s]]=some (.val (gN [Bz w s t])):=by
 rw[vi,aV];have h1:=hV hF (k+3) (by lia) w t hs.mem hs.ok hs.row s.a
 exact dt (rS (fF (lS (cA (dM (cA rfl (cA (b2 rfl rfl rfl) (cA (b2 rfl rfl rfl) (cA (b2 rfl rfl rfl) rfl)))) rfl h1 rfl) rfl) (by simp))))
end
noncomputable def jF(i:Nat)(a:c8):PV:=.aC [.int i,.str a.w,.str a.n,.bl a.t,.int a.f,.int a.m,.str a.k]
def dS:List c8->List c8
 | []=>[MZ]
 | a::r=>a::r
structure IM (c:eF) (F p:PV) (as:List c8):Prop where
 ex:∃w fn rest,p=.aC (.str w::rest)/\iP.lookup w=some fn/\MJ.lookup fn=some 2/\∃e,c fn [F,p]=some e/\nU e=some (gN as)
 few:as.length<=20
theorem IP{c:eF}{F p:PV}{as:List c8}(M:IM c F p as)(i:Nat)(told:ay)(hl:told.length<=90000)(x0 x1 x6:Ent):oD c [x0,x1,.val F,.own told,.val (.int (i:Int)),.val p,x6]=some (.nx [x0,x1,.val F,.own (told++(dS as).map (jF i)),.val (.int (i:Int)),.val p,.val (gN as)]):=by
 obtain⟨w,fn,rest,rfl,h1,h2,e,h3,h4⟩:=M.ex;have hf:=M.few;unfold oD;have ht:HM iP MJ c (af (rd 5) (kI 0) aH) (aa (rd 2) (aa (rd 5) ai)) [x0,x1,.val F,.own told,.val (.int (i:Int)),.val (.aC (.str w::rest)),x6]=some (gN as):=by
  have hk:af (rd 5) (kI 0) aH [x0,x1,.val F,.own told,.val (.int (i:Int)),.val (.aC (.str w::rest)),x6]=some (.str w):=b2 rfl rfl MC;rw[Qr,hk,aQ,Mp,h1,aQ,h2,aQ];exact dM (cA rfl (cA rfl rfl)) rfl h3 h4
 have a0:bx (HM iP MJ c (af (rd 5) (kI 0) aH) (aa (rd 2) (aa (rd 5) ai))) (ak 6) [x0,x1,.val F,.own told,.val (.int (i:Int)),.val (.aC (.str w::rest)),x6]=some (.nx [x0,x1,.val F,.own told,.val (.int (i:Int)),.val (.aC (.str w::rest)),.val (gN as)]):=aS ht rfl;refine sq a0 ?_;have ho:X4 (rd 6) (bG (cB (aa (cK (.aC [(.str "rest"),(.str ""),(.bl false),(.int 0),(.int 0),(.str "")])) ai))) [x0,x1,.val F,.own told,.val (.int (i:Int)),.val (.aC (.str w::rest)),.val (gN as)]=some (gN (dS as)):=by
  cases as with
  | nil=>rfl
  | cons a r=>rfl
 have hor:(dS as).length<=20:=by
  cases as with
  | nil=>simp[dS]
  | cons a r=>exact hf
 refine mX rfl (fF (cV (sV ho rfl) (by simp only[aB];lia) (?_:_=some ((dS as).map (jF i))))) (by simp only[aB];lia)
 refine eP λa _=>?_
 show(ak 1 (fY a) [Ent.un,.un,.val (.int (i:Int))]).bind _=_;have t:ak 1 (fY a) [Ent.un,.un,.val (.int (i:Int))]=some [.un,.val (fY a),.val (.int (i:Int))]:=rfl;rw[t,aQ];exact b2 (tU (cA rfl rfl) (by simp)) rfl (aT (by simp))
def yW:Nat->List (List c8)->ay
 | _,[]=>[]
 | i,as::r=>(dS as).map (jF i)++yW (i+1) r
theorem wG{c:eF}{F:PV}(x0 x1:Ent):∀(L:List (PV×List c8)) (i:Nat) (told:ay) (x4 x5 x6:Ent),(∀q∈L,IM c F q.1 q.2)->told.length+20*L.length<=90000 ->
  ∃l0 vn x6',eG (cC 2 (aw (ak 4) (aw (ak 5) cx))) (oD c) (dU i (L.map (·.1))) [x0,x1,.val F,.own told,x4,x5,x6]=some (.nx [x0,x1,.val F,.own (told++yW i (L.map (·.2))),l0,vn,x6'])
 | [],i,told,x4,x5,x6,_,_=>⟨x4,x5,x6,by simp[dU,yW]⟩
 | (p,as)::L,i,told,x4,x5,x6,h,hz=>by
  have M:=h (p,as) bo;have hf:=M.few;simp only[bt]at hz;have hor:((dS as).map (jF i)).length<=20:=by
   rw[aB];cases as with
   | nil=>simp[dS]
   | cons a r=>exact hf
  obtain⟨l0,vn,x6',e⟩:=wG x0 x1 L (i+1) (told++(dS as).map (jF i)) (.val (.int (i:Int))) (.val p) (.val (gN as)) (λq hq=>h q (bz _ hq)) (by rw[bF];lia)
  refine⟨l0,vn,x6',?_⟩;have:=IP M i told (by lia) x0 x1 x6
  rw[bX,bX,dU,yW,<-gk];exact fC (eM:=[x0,x1,.val F,.own told,.val (.int (i:Int)),.val p,x6]) rfl this e
theorem Vq(k:Nat){F:PV}{fs:ay}{i:Int}(hi:atI fs i=some F){n res:PV}{R1 R2:List Rk}{L:List (PV×List c8)} (hF:F=Ex n res (.aC (L.map (·.1))) R1 R2) (hL:∀q∈L,IM (run bq k) F q.1 q.2) (hz:L.length<=4000):run bq (k+1) "acts" [.aC fs,.int i]=some (.own (yW 0 (L.map (·.2)))):=by
 rw[MM,aV];obtain⟨x4,x5,x6,e⟩:=wG (.val (.aC fs)) (.val (.int i)) L 0 [] .un .un .un hL (by simp;lia)
 rw[gS]at e;have hr:af (rd 2) (kI 4) aH [.val (.aC fs),.val (.int i),.val F,.own [],.un,.un,.un]=some (.aC (L.map (·.1))):=by rw[hF];exact b2 rfl rfl rfl
 have he:km (af (rd 2) (kI 4) aH) [.val (.aC fs),.val (.int i),.val F,.own [],.un,.un,.un]=some (dU 0 (L.map (·.1))):=by
  show((af (rd 2) (kI 4) aH) _).bind _=_;rw[hr];rfl
 exact A2 (sq (aS (b2 rfl rfl hi) rfl) (sq (sO rfl (by simp)) (sq (fS he e) (A3 rfl))))
theorem QR(k:Nat)(n:Int):run bq (k+1) "_law_whole" [.int n]=some (.val (.bl true)):=by
 rw[Es,aV];rfl
def cell(ns:List Int)(i:Nat):Int:=ns.getD i 0
theorem M0(k:Nat)(ns:List Int)(i:Nat):run bq (k+1) "_law_cell_at" [Gi ns,.int (i:Int)]=some (.val (.int (cell ns i))):=by
 rw[yH];by_cases h:i<ns.length
 ·have:atI (ns.map PV.int) (i:Int)=some (.int (cell ns i)):=dw (by rw[cm,dG h];simp[cell,h])
  simp[m8,Gi,h,this]
 ·have:cell ns i=0:=by simp[cell,List.getD,mG (CN h)]
  simp[m8,Gi,h,this]
theorem dE{i j:Int}(h:0<j):cj (.int i) (.int j)=some (.int (i%j)):=by rw[MB,if_pos h]
theorem yX{i j:Int}(h:0<j/\j<1073741824):dq (.int i) (.int j)=some (.int (i/j)):=by rw[Il,if_pos h]
theorem Sw(s:Sh):(Gx s==(Str.ofString "rec")) = !iM s:=by
 cases s with
 | num=>exact s_1
 | own=>exact s_2
 | dk n=>exact s_3
 | bJ ps=>exact CQ _
theorem M1(s:Sh):rm (.str (Gx s)) (.str "rec")=some (.bl (iM s)):=by rw[rF,Sw];simp
theorem M3(s:Sh):eu (.str (Gx s)) (.str "rec")=some (.bl (!iM s)):=by rw[dJ,Sw]
mutual
theorem GD:∀(s:Sh),∀r∈tab s,(tab r.2.2.2).length<=(tab s).length
 | .num,r,h=>by simp[tab]at h;subst h;simp[tab]
 | .own,r,h=>by simp[tab]at h;subst h;simp[tab]
 | .dk n,r,h=>by simp[tab]at h;subst h;simp[tab]
 | .bJ ps,r,h=>by
  have hl:(tab (.bJ ps)).length=jA ps+1:=by simp only[tab,bt,iO]
  simp only[tab,aZ]at h;rcases h with rfl | h
  ·exact bc _
  ·have:=wH ps 0 0 r h
   lia
theorem wH:∀(l:List Sh) (k:Nat) (a:Int),∀r∈tabs k a l,(tab r.2.2.2).length<=jA l
 | [],_,_,r,h=>by simp[tabs]at h
 | s::l,k,a,r,h=>by
  simp only[tabs,cW,bN]at h;simp only[jA];rcases h with⟨r0,h0,rfl⟩ | h
  ·have:=GD s r0 h0;simp only[mB]
   lia
  ·have:=wH l _ _ r h
   lia
end
theorem BE(k:Nat)(a:Int)(s:Sh)(l:List Sh):tabs k a (s::l)=(tab s).map (mB k a)++tabs (k+1) (a+sz s) l:=rfl
def Wl(ks:List Rk):Prop:=∀r∈ks,GC (cR r.2)
theorem M4(p:List Int):fm (p.map PV.int)=0:=by
 induction p with
 | nil=>rfl
 | cons a p ih=>simp[fm,jd,ih]
mutual
def pos:Sh->Bool
 | .dk n=>decide (0<n)
 | .bJ ps=>M5 ps
 | _=>true
def M5:List Sh->Bool
 | []=>true
 | s::r=>pos s&&M5 r
end
mutual
theorem uv:∀(s:Sh),pos s=true->∀r∈tab s,pos r.2.2.2=true
 | .num,h,r,hr=>by simp[tab]at hr;subst hr;exact h
 | .own,h,r,hr=>by simp[tab]at hr;subst hr;exact h
 | .dk n,h,r,hr=>by simp[tab]at hr;subst hr;exact h
 | .bJ ps,h,r,hr=>by
  simp only[tab,aZ]at hr;rcases hr with rfl | hr
  ·exact h
  ·exact wI ps (by simpa only[pos]using h) 0 0 r hr
theorem wI:∀(l:List Sh),M5 l=true->∀(k:Nat) (a:Int),∀r∈tabs k a l,pos r.2.2.2=true
 | [],_,_,_,r,hr=>by simp[tabs]at hr
 | s::l,h,k,a,r,hr=>by
  simp only[M5,aO]at h;simp only[tabs,cW,bN]at hr;rcases hr with⟨r0,h0,rfl⟩ | hr
  ·exact uv s h.1 r0 h0
  ·exact wI l h.2 _ _ r hr
end
def GF(s:Sh):Prop:=GC s/\pos s=true
abbrev nP:PV:=.aC [.str "num"]
abbrev oP:PV:=.aC [.str "own"]
abbrev sP(n:Int):PV:=.aC [.str "strip",.int n]
abbrev tP:PV:=.aC [.str "rec",.aC [nP,nP]]
theorem eS{α:Type}{F:PV->Option bU}{e:α->PV}{G:α->PV}{f:α->Bool}:∀{l:List α},(∀x∈l,F (e x)=some (if f x=true then some (G x)else none))->kZ F (l.map e)=some ((l.filter f).map G)
 | [],_=>rfl
 | x::r,h=>by
  have ih:=eS λy hy=>h y (bz _ hy)
  rw[bX];show(F (e x)).bind _=_;rw[h x bo,aQ,ih];cases hf:f x with
  | true=>simp[hf]
  | false=>simp[hf]
mutual
theorem yY:∀s:Sh,jd (enc s)<=2*dp s+1
 | .num=>by simp[enc,jd,fm]
 | .own=>by simp[enc,jd,fm]
 | .dk n=>by simp[enc,jd,fm]
 | .bJ ps=>by
  have:=BF ps;simp[enc,jd,fm,dp]
  lia
theorem BF:∀l:List Sh,fm (df l)<=2*ua l+1
 | []=>by simp[df,fm]
 | s::l=>by
  have:=yY s;have:=BF l;simp only[df,fm,ua]
  lia
end
abbrev KL(ks:List Rk):PV:=.ao (ks.map bL)
variable {ks:List Rk}
theorem M6{s:Sp}(h:eW ks s):jd (ck s)<=2:=by
 have ha:=h.at_;have:jd s.a=0:=by cases h2:s.a<;>rw[h2]at ha<;>cases ha<;>rfl
 simp only[ck,FQ,jd,fm,this,M4]
 lia
theorem dZ{α:Type}(N:List α)(e:α->PV)(m:Int)(h:0<N.length):∃s∈N,atI (N.map e) (m%((N.map e).length:Int))=some (e s):=by
 rw[aB];have hj0:=kJ m (show(N.length:Int)≠0 by lia)
 have hj1:=rQ m (show(0:Int)<(N.length:Int) by lia)
 obtain⟨j,hj⟩:=Int.eq_ofNat_of_zero_le hj0;have hjl:j<N.length:=by lia
 refine⟨N[j],wZ hjl,?_⟩;rw[hj];exact dw (by rw[cm,dG hjl];rfl)
theorem QS(d:Kd):rm (.str (kw d)) (.str "lent")=some (.bl (!(kw d==(Str.ofString "lent")))):=rF
end
def oF:Sh->Bool
 | .own=>true
 | _=>false
theorem aed:((Str.ofString "num")==(Str.ofString "own"))=false:=by decide +kernel
theorem Vr(s:Sh):eqT (enc s) oP=oF s:=by
 cases s with
 | num=>simp[enc,eqT,ku,oF,aed]
 | own=>simp[enc,eqT,ku,oF]
 | dk n=>simp[enc,eqT,ku,oF]
 | bJ ps=>simp[enc,eqT,ku,oF]
theorem ED:∀l:List Sh,KZ oP (df l)=l.any oF
 | []=>rfl
 | s::l=>by
  have:=ED l;unfold KZ at this ⊢;rw[df,ph,ph,this,Vr]
def cpd(s:Sh):Bool:=!(lv s).any oF
theorem Vs(s:Sh):rn true oP (.aC (df (lv s)))=some (.bl (cpd s)):=by
 have hd:=ue (yw s);show(if fm (df (lv s))<=iZ then some (PV.bl (!KZ oP (df (lv s))))else none)=_
 rw[if_pos (by rw[lW];lia),ED]
 rfl
def oW(s:Sh):Str:=if cpd s=true then "read" else "empty"
abbrev vo(s:Sh):Rw:=([],0,sz s,s)
def Vt(x:Str)(d:Kd)(t:Str):c8:=match d with
 | .ow s=>tA (oW s) x (.ow s) (vo s) ""
 | .ho b s=>tA (if b=true then "sole" else "lend") x (.ho b s) (vo s) t
def gvA(x:Str)(d:Kd):c8:=match d with
 | .ow s=>tA (oW s) x (.ow s) (vo s) ""
 | .ho b s=>tA "give" x (.ho b s) (vo s) ""
abbrev sI(i:Nat):Str:=Str.ofString (toString (i:Int))
def gy:Nat->List Rk->List c8
 | _,[]=>[]
 | i,r::l=>Vt r.1 r.2 (sI i)::gy (i+1) l
theorem uw:∀(l:List Rk) (i:Nat),(gy i l).length=l.length
 | [],_=>rfl
 | r::l,i=>by simp[gy,uw l]
def j9:Option Rk->List c8
 | none=>[]
 | some (x,.ow s)=>[tA "fill" x (.ow s) (vo s) ""]
 | some (x,.ho _ _)=>[⟨"take","",false,0,0,x⟩]
def BG:Option Rk->Str
 | none=>""
 | some r=>r.1
theorem Zz(i:Nat)(h:i<1000):Az [.int (i:Int)]=some (.str (sI i)):=if_pos ⟨by lia,by lia⟩
theorem GG{G:PV->bU}:∀(l:List Rk) (i:Nat),(∀r∈l,∀j:Nat,j<1000->G (Av (.int (j:Int)) (.str r.1))=some (fY (Vt r.1 r.2 (sI j))))->i+l.length<=1000->iI G (dU i (l.map λr=>PV.str r.1))=some ((gy i l).map fY)
 | [],_,_,_=>rfl
 | r::l,i,h,hz=>by
  simp only[bt]at hz;rw[bX,dU,iI,h r bo i (by lia),GG l (i+1) (λq hq=>h q (bz _ hq)) (by lia)]
  rfl
theorem GH{α β:Type}{F:PV->bU}{e:α->PV}{P:PV->β->Prop}:∀{l:List α},(∀x∈l,∃p a,F (e x)=some p/\P p a)->∃L:List (PV×β),iI F (l.map e)=some (L.map (·.1))/\(∀q∈L,P q.1 q.2)/\L.length=l.length
 | [],_=>⟨[],rfl,(λq hq=>by cases hq),rfl⟩
 | x::r,h=>by
  obtain⟨p,a,h1,h2⟩:=h x bo;obtain⟨L,h3,h4,h5⟩:=GH λy hy=>h y (bz _ hy)
  refine⟨(p,a)::L,?_,λq hq=>?_,by simp[h5]⟩
  ·rw[bX,iI,h1,h3];rfl
  ·rcases aZ.mp hq with rfl | hq
   ·exact h2
   ·exact h4 q hq
theorem ZA(d:Kd)(h:GC (cR d))(q:PV):eu (du d) q=some (.bl (eqT (du d) q)):=by
 have hd:jd (du d)<=1000:=by
  have h1:=yY (cR d);have h2:=h.2;cases d with
  | ow s=>simp only[du,cR]at *;lia
  | ho b s=>simp only[du,cR,jd,fm]at *;lia
 exact D0 (by rw[lW];exact hd)
theorem Sx{s:Sh}(h:GC s)(q:PV):eu (enc s) q=some (.bl (eqT (enc s) q)):=by
 have h1:=yY s;have h2:=h.2;exact D0 (by rw[lW];lia)
theorem yZ{s:Sh}(h:GC s){r:Rw}(hr:r∈tab s):GC r.2.2.2:=by
 have h1:=GD s r hr;have h2:=(yR s r hr).1;have h3:=h.1;have h4:=h.2;exact⟨by lia,by lia⟩
theorem BH(k:Nat)(s:Sh)(hd:dp s<=k)(hz:(lv s).length<=100000):run bq (k+2) "is_copied" [enc s]=some (.val (.bl (cpd s))):=by
 rw[vc,aV];have h:=fX.all (LA) s k hd hz;exact dt (rS (b2 rfl (dM (cA rfl rfl) rfl h rfl) (Vs s)))
section
variable {F:PV} {ks:List Rk} (hF:yS (run bq) F ks) (k:Nat) (hk:3<=k)
include hF hk
theorem qP{x:Str}{s:Sh}(hx:(x,Kd.ow s)∈ks)(hs:GC s):run bq (k+5) "owner_act" [F,.str x]=some (.val (fY (tA (oW s) x (.ow s) (vo s) ""))):=by
 rw[vk,aV];have h1:=hF (k+3) _ hx;have hl:=Gr s;have h2:=BH (k+2) s (by have:=hs.2;lia) (by have:=hs.1;lia)
 have h3:=fZ hF k hk (oW s) "" hx hs;have hw:uT (toB (aD (aR 1 (run bq (k+4) "is_copied")) (aa (aD (aR 2 (run bq (k+4) "kind_of")) (aa (rd 0) (aa (rd 1) ai))) ai))) (kS "read") (kS "empty") [.val F,.val (.str x)]=some (.str (oW s)):=by
  refine iV (bT (dM (cA (dM (cA rfl (cA rfl rfl)) rfl h1 rfl) rfl) rfl h2 rfl)) ?_;unfold oW;cases cpd s<;>rfl
 exact dt (rS (dM (cA rfl (cA hw (cA rfl (cA rfl rfl)))) rfl h3 rfl))
theorem IQ{x:Str}{d:Kd}(hx:(x,d)∈ks)(hs:GC (cR d))(t:Str):run bq (k+6) "arg_act" [F,.str x,.str t]=some (.val (fY (Vt x d t))):=by
 rw[Bo,aV];have h1:=hF (k+4) _ hx;have h2:=ip (k+4) d;have a0:bx (aD (aR 2 (run bq (k+5) "kind_of")) (aa (rd 0) (aa (rd 1) ai))) (ak 3) [.val F,.val (.str x),.val (.str t),.un]=some (.nx [.val F,.val (.str x),.val (.str t),.val (du d)]):=aS (dM (cA rfl (cA rfl rfl)) rfl h1 rfl) rfl;have t0:gP (toB (aD (aR 1 (run bq (k+5) "is_holder")) (aa (rd 3) ai))) [.val F,.val (.str x),.val (.str t),.val (du d)]=some (!iy d):=nB (bT (dM (cA rfl rfl) rfl h2 rfl));cases d with
 | ow s =>
  have h3:=qP hF k hk hx hs;exact dt (sq a0 (kz (iT t0 (rS (dM (cA rfl (cA rfl rfl)) rfl h3 rfl)))))
 | ho b s =>
  have h3:=fZ hF (k+1) (by lia) (if b=true then "sole" else "lend") t hx hs
  have hw:uT (toB (af (af (rd 3) (kI 0) aH) (kS "lent") eu)) (kS "lend") (kS "sole") [.val F,.val (.str x),.val (.str t),.val (du (.ho b s))]=some (.str (if b=true then "sole" else "lend")):=by
   cases b with
   | false=>exact iV (b:=true) (bT (b2 (b2 rfl rfl rfl) rfl (by rw[dJ];exact dy (λz=>some (PV.bl z)) (by decide +kernel)))) rfl
   | true=>exact iV (b:=false) (bT (b2 (b2 rfl rfl rfl) rfl (by rw[dJ];exact dy (λz=>some (PV.bl z)) (by decide +kernel)))) rfl
  exact dt (sq a0 (sq (iF t0 rfl) (rS (dM (cA rfl (cA hw (cA rfl (cA rfl rfl)))) rfl h3 rfl))))
theorem BI(w:Str){x:Str}{d:Kd}(hx:(x,d)∈ks)(hs:GC (cR d))(hne:(x==(Str.ofString ""))=false):run bq (k+7) "give_acts" [F,.aC [.str w,.str x]]=some (.val (gN [gvA x d])):=by
 rw[mD,aV];have h1:=hF (k+5) _ hx;have h2:=ip (k+5) d;have t0:toB (af (af (rd 1) (kI 1) aH) (kS "") eu) [.val F,.val (.aC [.str w,.str x])]=some false:=by
  refine bT (b2 (b2 rfl rfl rfl) rfl ?_);rw[dJ,hne]
 have t1:toB (aD (aR 1 (run bq (k+6) "is_holder")) (aa (aD (aR 2 (run bq (k+6) "kind_of")) (aa (rd 0) (aa (af (rd 1) (kI 1) aH) ai))) ai)) [.val F,.val (.aC [.str w,.str x])]=some (iy d):=bT (dM (cA (dM (cA rfl (cA (b2 rfl rfl rfl) rfl)) rfl h1 rfl) rfl) rfl h2 rfl);cases d with
 | ow s =>
  have h3:=qP hF (k+1) (by lia) hx hs
  exact dt (sq (iF t0 rfl) (sq (iF t1 rfl) (rS (fF (lS (cA (dM (cA rfl (cA (b2 rfl rfl rfl) rfl)) rfl h3 rfl) rfl) (by simp))))))
 | ho b s =>
  have h3:=fZ hF (k+2) (by lia) "give" "" hx hs
  exact dt (sq (iF t0 rfl) (kz (iT t1 (rS (fF (lS (cA (dM (cA rfl (cA rfl (cA (b2 rfl rfl rfl) (cA rfl rfl)))) rfl h3 rfl) rfl) (by simp)))))))
theorem BJ(w:Str)(fn:PV){ar:List Rk}(ha:∀r∈ar,r∈ks)(ho:Wl ks)(hl:ar.length<=10){tk:Option Rk}(ht:∀r,tk=some r->r∈ks/\(r.1==(Str.ofString ""))=false):∃e,run bq (k+7) "call_acts" [F,.aC [.str w,.str (BG tk),fn,.aC (ar.map λr=>.str r.1)]]=some e/\nU e=some (gN (gy 0 ar++gE::j9 tk)):=by
 rw[vj,aV];obtain⟨p,hp⟩:∃p,p=PV.aC [.str w,.str (BG tk),fn,.aC (ar.map λr=>.str r.1)]:=⟨_,rfl⟩
 have i3:aH p (.int 3)=some (.aC (ar.map λr=>.str r.1)):=by rw[hp];rfl
 have i1:aH p (.int 1)=some (.str (BG tk)):=by rw[hp];rfl
 rw[<-hp];have en:km (af (rd 1) (kI 3) aH) [.val F,.val p,.un]=some (dU 0 (ar.map λr=>PV.str r.1)):=by
  show((af (rd 1) (kI 3) aH) _).bind _=_;rw[b2 rfl rfl i3];rfl
 have hm:iI (λq=>(cC 2 (aw (ak 1) (aw (ak 2) cx)) q (bA [none,none,none,some 0] [.val F,.val p,.un])).bind (aD (aR 3 (run bq (k+6) "arg_act")) (aa (rd 3) (aa (rd 2) (aa (b6 Az (aa (rd 1) ai)) ai))))) (dU 0 (ar.map λr=>PV.str r.1))=some ((gy 0 ar).map fY):=by
  refine GG ar 0 (λr hr j hj=>?_) (by lia)
  have t:cC 2 (aw (ak 1) (aw (ak 2) cx)) (Av (.int (j:Int)) (.str r.1)) (bA [none,none,none,some 0] [.val F,.val p,.un])=some [.un,.val (.int (j:Int)),.val (.str r.1),.val F]:=rfl;have h:=IQ hF k hk (x:=r.1) (d:=r.2) (ha r hr) (ho r (ha r hr)) (sI j);show(cC 2 _ _ _).bind _=_;rw[t,aQ];exact dM (cA rfl (cA rfl (cA (bV (cA rfl rfl) (Zz j hj)) rfl))) rfl h rfl
 have le:(dU 0 (ar.map λr=>PV.str r.1)).length<=100000:=by
  have:∀(l:ay) (i:Nat),(dU i l).length=l.length:=λl=>by
   induction l with
   | nil=>intro i;rfl
   | cons a l ih=>intro i;simp[dU,ih]
  rw[this,aB]
  lia
 have tl:=uw ar 0;have s1:iY 2 (dB [none,none,none,some 0] (km (af (rd 1) (kI 3) aH)) (cC 2 (aw (ak 1) (aw (ak 2) cx))) (aD (aR 3 (run bq (k+6) "arg_act")) (aa (rd 3) (aa (rd 2) (aa (b6 Az (aa (rd 1) ai)) ai))))) [.val F,.val p,.un]=some (.nx [.val F,.val p,.own ((gy 0 ar).map fY)]):=sO (cV en le hm) (by simp)
 have s2:gI 2 (aa (cK (.aC [(.str "hand"),(.str ""),(.bl false),(.int 0),(.int 0),(.str "")])) ai) mR [.val F,.val p,.own ((gy 0 ar).map fY)]=some (.nx [.val F,.val p,.own ((gy 0 ar++[gE]).map fY)]):=by
  rw[cM];exact mA rfl rfl (by rw[aB];lia)
 have t0:fP (toB (af (af (rd 1) (kI 1) aH) (kS "") eu)) [.val F,.val p,.own ((gy 0 ar++[gE]).map fY)]=some (BG tk==(Str.ofString "")):=bT (b2 (b2 rfl rfl i1) rfl dJ);have la:((gy 0 ar++[gE]).map fY).length<=100:=by simp[tl];lia
 have done:∀q:c8,fW (me [2] (bC (af (rd 2) (cK (.ao [fY q])) bQ)) [.val F,.val p,.own ((gy 0 ar++[gE]).map fY)])=some (.val (gN (gy 0 ar++gE::[q]))):=by
  intro q;show fW (bC _ (dX (some [2]) [.val F,.val p,.own ((gy 0 ar++[gE]).map fY)]))=_;refine dt (rS ?_);refine(b2 (x:=.ao ((gy 0 ar++[gE]).map fY)) (y:=.ao [fY q]) rfl rfl (aL (by simp only[bt,iG];lia))).trans ?_
  simp[gN]
 cases tk with
 | none =>
  have:(BG none==(Str.ofString ""))=true:=by decide +kernel
  rw[this]at t0;exact⟨_,A2 (sq s1 (sq s2 (kz (iT t0 (A3 rfl))))),rfl⟩
 | some r =>
  obtain⟨g1,g2⟩:=ht r rfl;obtain⟨x,d⟩:=r;rw[show BG (some (x,d))=x from rfl]at t0 i1
  simp only at g2;rw[g2]at t0;have h1:=hF (k+5) _ g1;have h2:=ip (k+5) d;have t1:fP (toB (aD (aR 1 (run bq (k+6) "is_holder")) (aa (aD (aR 2 (run bq (k+6) "kind_of")) (aa (rd 0) (aa (af (rd 1) (kI 1) aH) ai))) ai))) [.val F,.val p,.own ((gy 0 ar++[gE]).map fY)]=some (iy d):=bT (dM (cA (dM (cA rfl (cA (b2 rfl rfl i1) rfl)) rfl h1 rfl) rfl) rfl h2 rfl);cases d with
  | ho b s =>
   refine⟨_,(dy fW (sq s1 (sq s2 (sq (iF t0 rfl) (kz (iT t1 (z:=some (.rt (.val (gN (gy 0 ar++gE::j9 (some (x,.ho b s))))))) ?_)))))).trans rfl,rfl⟩;show bC _ (dX (some [2]) [.val F,.val p,.own ((gy 0 ar++[gE]).map fY)])=_;refine rS ((b2 (x:=.ao ((gy 0 ar++[gE]).map fY)) rfl (fF (lS (cA (tU (cA rfl (cA rfl (cA rfl (cA rfl (cA rfl (cA (b2 rfl rfl i1) rfl)))))) (by simp)) rfl) (by simp))) (aL (by simp only[bt,iG];lia))).trans ?_)
   simp[gN,j9,fY]
  | ow s =>
   have h3:=fZ hF (k+2) (by lia) "fill" "" g1 (ho _ g1)
   refine⟨_,(dy fW (sq s1 (sq s2 (sq (iF t0 rfl) (sq (iF t1 rfl) (z:=some (.rt (.val (gN (gy 0 ar++gE::j9 (some (x,.ow s))))))) ?_))))).trans rfl,rfl⟩;show bC _ (dX (some [2]) [.val F,.val p,.own ((gy 0 ar++[gE]).map fY)])=_;refine rS ((b2 (x:=.ao ((gy 0 ar++[gE]).map fY)) rfl (fF (lS (cA (dM (cA rfl (cA rfl (cA (b2 rfl rfl i1) (cA rfl rfl)))) rfl h3 rfl) rfl) (by simp))) (aL (by simp only[bt,iG];lia))).trans ?_)
   simp[gN,j9,cR]
end
def eN(q:Nat×c8):PV:=jF q.1 q.2
def eQ:Nat->List (List c8)->List (Nat×c8)
 | _,[]=>[]
 | i,as::r=>(dS as).map (λa=>(i,a))++eQ (i+1) r
theorem oG:∀(L:List (List c8)) (i:Nat),yW i L=(eQ i L).map eN
 | [],_=>rfl
 | as::L,i=>by
  rw[yW,eQ,cM,gq,oG L (i+1)];rfl
theorem BL:∀(L:List (List c8)) (i:Nat),∀q∈eQ i L,i<=q.1/\q.1<i+L.length
 | [],_,_,h=>nomatch h
 | as::L,i,q,h=>by
  rw[eQ,cW]at h;rw[bt];rcases h with h | h
  ·obtain⟨a,_,rfl⟩:=bN.mp h;show i<=i/\i<i+(L.length+1)
   lia
  ·have:=BL L (i+1) q h
   lia
theorem BM:∀(L:List (List c8)) (i j:Nat),i<=j->j<i+L.length->∃a,(j,a)∈eQ i L
 | [],_,_,h1,h2=>by simp at h2;lia
 | as::L,i,j,h1,h2=>by
  rw[bt]at h2;by_cases e:j=i
  ·subst e;obtain⟨a,ha⟩:∃a,a∈dS as:=by
    cases as with
    | nil=>exact⟨MZ,bo⟩
    | cons a r=>exact⟨a,bo⟩
   exact⟨a,by rw[eQ];exact iD _ (bN.mpr ⟨a,ha,rfl⟩)⟩
  ·obtain⟨a,ha⟩:=BM L (i+1) j (by lia) (by lia)
   exact⟨a,by rw[eQ];exact dH _ ha⟩
def Wm(N:Nat)(kvs:List (cf×PV)):Prop:=∀q∈kvs,∃m:Nat,q.2=.int (m:Int)/\m<N
theorem EE(kvs:List (cf×PV))(k:cf)(p:PV):(dW (kvs++[(k,p)]) k).isSome=true:=by
 unfold dW;rw[CJ,List.find?_isSome];exact⟨(k,p),by simp,by simp⟩
theorem ux(kvs ms:List (cf×PV))(k:cf)(h:(dW kvs k).isSome=true):(dW (kvs++ms) k).isSome=true:=by
 unfold dW at h ⊢;rw[CJ,List.find?_isSome]at h ⊢;obtain⟨x,h1,h2⟩:=h;exact⟨x,iD _ h1,h2⟩
theorem M7{N:Nat}{kvs:List (cf×PV)}(h:Wm N kvs){k:cf}(hk:(dW kvs k).isSome=true):∃m:Nat,dW kvs k=some (.int (m:Int))/\m<N:=by
 unfold dW at hk ⊢;cases e:kvs.find? λkv=>decide (kv.1=k)with
 | none=>rw[e]at hk;cases hk
 | some q =>
  obtain⟨m,h1,h2⟩:=h q (List.mem_of_find?_eq_some e);exact⟨m,by rw[pd,h1],h2⟩
def EF:List (Nat×c8)->Nat->List (cf×PV)->List (cf×PV)
 | [],_,kvs=>kvs
 | (j,_)::as,i,kvs=>match dW kvs (.inl (j:Int))with
  | some _=>EF as (i+1) kvs
  | none=>EF as (i+1) (kvs++[(.inl (j:Int),.int (i:Int))])
theorem lE(c:eF)(P I A:PV):∀(as:List (Nat×c8)) (i:Nat) (kvs:List (cf×PV)) (x4 x5:Ent),Wm i kvs->kvs.length<=i->i+as.length<=90000 ->
  (∃l0 vn,eG (cC 2 (aw (ak 4) (aw (ak 5) cx))) (lY c) (dU i (as.map eN)) [.val P,.val I,.val A,.cn (.k kvs),x4,x5,.un]=some (.nx [.val P,.val I,.val A,.cn (.k (EF as i kvs)),l0,vn,.un]))/\Wm (i+as.length) (EF as i kvs)/\(∃ms,EF as i kvs=kvs++ms)/\∀q∈as,(dW (EF as i kvs) (.inl (q.1:Int))).isSome=true
 | [],i,kvs,x4,x5,h,_,_=>⟨⟨x4,x5,rfl⟩,h,⟨[],by simp[EF]⟩,λ_ z=>nomatch z⟩
 | (j,a)::as,i,kvs,x4,x5,h,hl,hz=>by
  rw[bt]at hz;have Hg:cC 2 (aw (ak 4) (aw (ak 5) cx)) (Av (.int (i:Int)) (jF j a)) [.val P,.val I,.val A,.cn (.k kvs),x4,x5,.un]=some [.val P,.val I,.val A,.cn (.k kvs),.val (.int (i:Int)),.val (jF j a),.un]:=rfl;have hb:lY c [.val P,.val I,.val A,.cn (.k kvs),.val (.int (i:Int)),.val (jF j a),.un]=(match dW kvs (.inl (j:Int))with
    | some _=>some (.nx [.val P,.val I,.val A,.cn (.k kvs),.val (.int (i:Int)),.val (jF j a),.un])
    | none=>some (.nx [.val P,.val I,.val A,.cn (.k (kvs++[(.inl (j:Int),.int (i:Int))])),.val (.int (i:Int)),.val (jF j a),.un])):=by
   unfold lY;have hc:kvs.length<gH/\(([.val P,.val I,.val A,.cn (.k kvs),.val (.int (i:Int)),.val (jF j a),.un]:aG).set 3 .un).all FW=true:=⟨by have:=DY;lia,rfl⟩
   show(if(kvs.length<gH/\(([.val P,.val I,.val A,.cn (.k kvs),.val (.int (i:Int)),.val (jF j a),.un]:aG).set 3 .un).all FW=true)then _ else _)=_
   rw[if_pos hc];rfl
  cases e:dW kvs (.inl (j:Int))with
  | some v =>
   have ek:EF ((j,a)::as) i kvs=EF as (i+1) kvs:=by rw[EF,e]
   rw[e]at hb;obtain⟨⟨y4,y5,h1⟩,h2,⟨ms,h3⟩,h4⟩:=lE c P I A as (i+1) kvs (.val (.int (i:Int))) (.val (jF j a)) (λq hq=>by obtain⟨m,z1,z2⟩:=h q hq;exact⟨m,z1,by lia⟩) (by lia) (by lia)
   rw[ek];refine⟨⟨y4,y5,fC Hg hb h1⟩,?_,⟨ms,h3⟩,λq hq=>?_⟩
   ·rw[bt,show i+(as.length+1)=i+1+as.length by lia];exact h2
   ·rcases aZ.mp hq with rfl | hq
    ·rw[h3];exact ux _ _ _ (by rw[e];rfl)
    ·exact h4 q hq
  | none =>
   have ek:EF ((j,a)::as) i kvs=EF as (i+1) (kvs++[(.inl (j:Int),.int (i:Int))]):=by rw[EF,e]
   rw[e]at hb;obtain⟨⟨y4,y5,h1⟩,h2,⟨ms,h3⟩,h4⟩:=lE c P I A as (i+1) (kvs++[(.inl (j:Int),.int (i:Int))]) (.val (.int (i:Int))) (.val (jF j a)) (λq hq=>by
    rcases cW.mp hq with hq | hq
    ·obtain⟨m,z1,z2⟩:=h q hq;exact⟨m,z1,by lia⟩
    ·rw[cu]at hq;subst hq;exact⟨i,rfl,by lia⟩) (by rw[bF];simp;lia) (by lia)
   rw[ek];refine⟨⟨y4,y5,fC Hg hb h1⟩,?_,⟨(.inl (j:Int),.int (i:Int))::ms,by rw[h3];simp⟩,λq hq=>?_⟩
   ·rw[bt,show i+(as.length+1)=i+1+as.length by lia];exact h2
   ·rcases aZ.mp hq with rfl | hq
    ·rw[h3];exact ux _ _ _ (EE _ _ _)
    ·exact h4 q hq
def nT(l:List Nat):PV:=.aC (l.map λm:Nat=>PV.int (m:Int))
def y0(c:eF)(b8:PV)(n:Nat)(nx:Nat->List Nat):Prop:=∀j:Nat,j<n->c "row_nexts" [b8,.int (j:Int)]=some (.val (nT (nx j)))/\(nx j).length<=2/\∀m∈nx j,m<n
def uy(kvs:List (cf×PV))(m:Nat):Nat:=match dW kvs (.inl (m:Int))with
 | some (.int v)=>v.toNat
 | _=>0
theorem BN{N:Nat}{kvs:List (cf×PV)}(h:Wm N kvs){m:Nat} (hk:(dW kvs (.inl (m:Int))).isSome=true):dW kvs (.inl (m:Int))=some (.int (uy kvs m:Int))/\uy kvs m<N:=by
 obtain⟨v,h1,h2⟩:=M7 h hk;have e:uy kvs m=v:=by unfold uy;rw[h1];rfl
 rw[e];exact⟨h1,h2⟩
def rg(as:List (Nat×c8))(kvs:List (cf×PV))(nx:Nat->List Nat)(i:Nat)(q:Nat×c8):List Nat:=if as[i+1]?.map (·.1)=some q.1 then [i+1]else(nx q.1).map (uy kvs)
def NT(as:List (Nat×c8))(kvs:List (cf×PV))(nx:Nat->List Nat):Nat->List (Nat×c8)->List (List Nat)
 | _,[]=>[]
 | i,q::bs=>rg as kvs nx i q::NT as kvs nx (i+1) bs
inductive IT (kvs:List (cf×PV)):Ent->Prop
 | d:IT kvs (.cn (.k kvs))
 | o:IT kvs (.ob (.dct (.k kvs)))
section
variable {c:eF} {fs:ay} {I:Int} {nm res b8:PV} {R1 R2:List Rk} {n:Nat} {as:List (Nat×c8)} {kvs:List (cf×PV)} {nx:Nat->List Nat}
theorem EG(hP:atI fs I=some (Ex nm res b8 R1 R2))(hR:y0 c b8 n nx)(hk:Wm as.length kvs) (hf:∀j:Nat,j<n->(dW kvs (.inl (j:Int))).isSome=true) (hl:as.length<=90000)
  (i:Nat) (q:Nat×c8) (hq:as[i]?=some q) (hr:∀q∈as,q.1<n) {D:Ent} (hD:IT kvs D) (told:ay) (ht:told.length<=90000) :
  ∃(D':Ent),jR c [.val (.aC fs),.val (.int I),.val (.ao (as.map eN)),D,.val (.int (i:Int)),.val (eN q),.own told]=some (.nx [.val (.aC fs),.val (.int I),.val (.ao (as.map eN)),D',.val (.int (i:Int)),.val (eN q),.own (told++[nT (rg as kvs nx i q)])])/\IT kvs D'/\(rg as kvs nx i q).length<=2/\∀m∈rg as kvs nx i q,m<as.length:=by
 have hi:i<as.length:=(dF.mp hq).1;have V9:dX none [.val (.aC fs),.val (.int I),.val (.ao (as.map eN)),D,.val (.int (i:Int)),.val (eN q),.own told]=[.val (.aC fs),.val (.int I),.val (.ao (as.map eN)),.ob (.dct (.k kvs)),.val (.int (i:Int)),.val (eN q),.val (.ao told)]:=by
  cases hD<;>rfl
 have hfs:dX (some [3]) [.val (.aC fs),.val (.int I),.val (.ao (as.map eN)),D,.val (.int (i:Int)),.val (eN q),.own told]=[.val (.aC fs),.val (.int I),.val (.ao (as.map eN)),.ob (.dct (.k kvs)),.val (.int (i:Int)),.val (eN q),.own told]:=by
  cases hD<;>rfl
 have fg:∀x6:Ent,toB (af (af (rd 4) (kI 1) bQ) (eV (b6 cJ (aa (rd 2) ai))) Jp) [.val (.aC fs),.val (.int I),.val (.ao (as.map eN)),.ob (.dct (.k kvs)),.val (.int (i:Int)),.val (eN q),x6]=some (decide (((i:Int)+1)<(as.length:Int))):=λx6=>by
  refine bT (b2 (x:=.int ((i:Int)+1)) (y:=.int (as.length:Int)) rfl ?_ rfl);show some (PV.int (((as.map eN).length:Nat):Int))=_;rw[aB]
 have go:∀b:Bool,fP (gU (toB (af (af (rd 4) (kI 1) bQ) (eV (b6 cJ (aa (rd 2) ai))) Jp)) (toB (af (af (af (rd 2) (af (rd 4) (kI 1) bQ) aH) (kI 0) aH) (af (rd 5) (kI 0) aH) eu))) [.val (.aC fs),.val (.int I),.val (.ao (as.map eN)),D,.val (.int (i:Int)),.val (eN q),.own told]=some b->(b=true↔as[i+1]?.map (·.1)=some q.1) ->
  ∃(D':Ent),jR c [.val (.aC fs),.val (.int I),.val (.ao (as.map eN)),D,.val (.int (i:Int)),.val (eN q),.own told]=some (.nx [.val (.aC fs),.val (.int I),.val (.ao (as.map eN)),D',.val (.int (i:Int)),.val (eN q),.own (told++[nT (rg as kvs nx i q)])])/\IT kvs D'/\(rg as kvs nx i q).length<=2/\∀m∈rg as kvs nx i q,m<as.length:=λb hb h1=>by
  unfold jR;cases b with
  | true =>
   have h2:=h1.mp rfl;have h3:i+1<as.length:=by
    cases z:as[i+1]? with
    | none=>rw[z]at h2;cases h2
    | some _=>exact(dF.mp z).1
   have en:rg as kvs nx i q=[i+1]:=if_pos h2;rw[en];refine⟨D,iT hb (mA rfl (tU (cA rfl rfl) (by simp)) (by lia)),hD,by simp,λm hm=>?_⟩
   simp at hm;lia
  | false =>
   obtain⟨r1,r2,r3⟩:=hR q.1 (hr q (cS hq));have en:rg as kvs nx i q=(nx q.1).map (uy kvs):=if_neg λz=>nomatch h1.mpr z
   have m1:iI (λp=>(ak 1 p (bA [none,none,some 3] [.val (.aC fs),.val (.int I),.val (.ao (as.map eN)),.ob (.dct (.k kvs)),.val (.int (i:Int)),.val (eN q),.own told])).bind (getD 2 (rd 1))) ((nx q.1).map λm:Nat=>PV.int (m:Int))=some ((nx q.1).map λm=>PV.int (uy kvs m:Int)):=eP λm hm=>(BN hk (hf m (r3 m hm))).1
   rw[en];refine⟨.ob (.dct (.k kvs)),iF hb ?_,.o,by rw[aB];exact r2,λm hm=>?_⟩
   ·show gI 6 _ mR (dX (some [3]) _)=_;rw[hfs];refine mA rfl (bV (cA (fF (cV (sV (dM (cA (b2 (b2 rfl rfl hP) rfl rfl) (cA (b2 rfl rfl MC) rfl)) rfl r1 rfl) rfl) ?_ m1)) rfl) ?_) (by lia)
    ·rw[aB];lia
    ·unfold nT;rw[gq];rfl
   ·obtain⟨x,hx,rfl⟩:=bN.mp hm;exact(BN hk (hf x (r3 x hx))).2
 by_cases h:i+1<as.length
 ·obtain⟨q',NR⟩:∃q',as[i+1]?=some q':=⟨_,dG h⟩
  refine go (decide ((q'.1:Int)=(q.1:Int))) ?_ (by rw[NR];simp only[jo,pd,Option.some.injEq];lia)
  show gU _ _ (dX none _)=_;rw[V9];show(toB _ _).bind _=_;rw[fg,aQ,if_pos (by rw[jo];lia)]
  have e0:af (rd 2) (af (rd 4) (kI 1) bQ) aH [.val (.aC fs),.val (.int I),.val (.ao (as.map eN)),.ob (.dct (.k kvs)),.val (.int (i:Int)),.val (eN q),.val (.ao told)]=some (eN q'):=b2 (y:=.int (((i+1:Nat):Nat):Int)) rfl (by rfl) (dw (by rw[cm,NR];rfl))
  exact bT (b2 (x:=.int (q'.1:Int)) (y:=.int (q.1:Int)) (b2 e0 rfl rfl) (b2 rfl rfl rfl) ji)
 ·refine go false ?_ ⟨(λz=>nomatch z),λz=>by rw[mG (by lia)]at z;cases z⟩
  show gU _ _ (dX none _)=_;rw[V9];show(toB _ _).bind _=_;rw[fg,aQ,if_neg (by rw[jo];lia)]
theorem uz(hP:atI fs I=some (Ex nm res b8 R1 R2))(hR:y0 c b8 n nx)(hk:Wm as.length kvs) (hf:∀j:Nat,j<n->(dW kvs (.inl (j:Int))).isSome=true) (hl:as.length<=40000) (hr:∀q∈as,q.1<n):∀(bs pre:List (Nat×c8)) (told:ay) (D x4 x5:Ent),as=pre++bs->IT kvs D->told.length=pre.length ->
  ∃(D' l0 vn:Ent),eG (cC 2 (aw (ak 4) (aw (ak 5) cx))) (jR c) (dU pre.length (bs.map eN)) [.val (.aC fs),.val (.int I),.val (.ao (as.map eN)),D,x4,x5,.own told]=some (.nx [.val (.aC fs),.val (.int I),.val (.ao (as.map eN)),D',l0,vn,.own (told++(NT as kvs nx pre.length bs).map nT)])/\(NT as kvs nx pre.length bs).length=bs.length/\∀l∈NT as kvs nx pre.length bs,l.length<=2/\∀m∈l,m<as.length
 | [],pre,told,D,x4,x5,_,hD,_=>⟨D,x4,x5,by simp[dU,NT],rfl,λ_ z=>nomatch z⟩
 | q::bs,pre,told,D,x4,x5,e,hD,ht=>by
  have Js:pre.length<=as.length:=by rw[e,bF];lia
  have hq:as[pre.length]?=some q:=by rw[e];simp
  obtain⟨D1,h1,h2,h3,h4⟩:=EG hP hR hk hf (by lia) pre.length q hq hr hD told (by lia)
  obtain⟨D2,y4,y5,h5,h6,h7⟩:=uz hP hR hk hf hl hr bs (pre++[q]) (told++[nT (rg as kvs nx pre.length q)]) D1 (.val (.int (pre.length:Int))) (.val (eN q)) (by rw[e];simp) h2 (by simp[ht])
  rw[show(pre++[q]).length=pre.length+1 by simp]at h5 h6 h7
  refine⟨D2,y4,y5,?_,by simp[NT,h6],λx hx=>?_⟩
  ·rw[bX,dU,NT,bX,show told++nT (rg as kvs nx pre.length q)::(NT as kvs nx (pre.length+1) bs).map nT=told++[nT (rg as kvs nx pre.length q)]++(NT as kvs nx (pre.length+1) bs).map nT by simp]
   exact fC rfl h1 h5
  ·rcases aZ.mp hx with rfl | hx
   ·exact⟨h3,h4⟩
   ·exact h7 x hx
end
def oH(L:List (List c8))(nx:Nat->List Nat):List (List Nat):=NT (eQ 0 L) (EF (eQ 0 L) 0 []) nx 0 (eQ 0 L)
theorem QT(k:Nat){fs:ay}{I:Int}{nm res b8:PV}{R1 R2:List Rk}{L:List (List c8)}{nx:Nat->List Nat}(hP:atI fs I=some (Ex nm res b8 R1 R2))(hA:run bq k "acts" [.aC fs,.int I]=some (.own (yW 0 L)))(hR:y0 (run bq k) b8 L.length nx)(hz:(eQ 0 L).length<=40000) :
  run bq (k+1) "nexts" [.aC fs,.int I]=some (.own ((oH L nx).map nT))/\(oH L nx).length=(eQ 0 L).length/\∀l∈oH L nx,l.length<=2/\∀m∈l,m<(eQ 0 L).length:=by
 rw[oG]at hA;obtain⟨⟨x4,x5,h1⟩,h2,-,h4⟩:=lE (run bq k) (.aC fs) (.int I) (.ao ((eQ 0 L).map eN)) (eQ 0 L) 0 [] .un .un (λ_ z=>nomatch z) (by simp) (by lia)
 rw[jX]at h2;obtain⟨D',y4,y5,g1,g2,g3⟩:=uz (as:=eQ 0 L) hP hR h2 (λj hj=>by
  obtain⟨a,ha⟩:=BM L 0 j (gr _) (by lia)
  exact h4 _ ha) hz (λq hq=>by have:=BL L 0 q hq;lia) (eQ 0 L) [] [] (.cn (.k (EF (eQ 0 L) 0 []))) x4 x5 rfl .d rfl
 refine⟨?_,g2,g3⟩;rw[Iv,aV];rw[gS]at g1;exact A2 (sq (aS (dM (cA rfl (cA rfl rfl)) rfl hA rfl) rfl) (sq (fA:=[.val (.aC fs),.val (.int I),.val (.ao ((eQ 0 L).map eN)),.cn (.k []),.un,.un,.un]) rfl (sq (fS rfl h1) (sq (sO rfl (by simp)) (sq (fS rfl g1) (A3 rfl))))))
end cz
namespace cz
open PySem L2 L2.PL nu zr
def iN(n:Nat):PV:=.int (n:Int)
structure QU (ls:List (List Nat)) (N:Nat):Prop where
 len:ls.length=N
 ok:∀l∈ls,l.length<=2/\∀m∈l,m<N
 pos:0<N
 few:N<128
noncomputable def kF(n:Nat)(x:Str)(j:Nat):List cf:=[.inl (n:Int),.inr x,.inl (j:Int)]
def pF(n:Nat)(x:Str)(j:Nat):PV:=.aC [.int (n:Int),.str x,.int (j:Int)]
structure Sy (a:c8) (f m:Nat):Prop where
 ef:a.f=(f:Int)
 em:a.m=(m:Int)
 few:f+m<=1000
theorem IU(k i:Nat){a:c8}{f m:Nat}(h:Sy a f m):run bq (k+1) "touched" [jF i a]=some (.val (.ao ((List.range m).map λj=>iN (f+j)))):=by
 rw[Bh,aV];refine dt (rS (fF ?_));have e4:af (rd 0) (kI 4) aH [.val (jF i a)]=some (.int (f:Int)):=by rw[<-h.ef];rfl
 have e5:af (rd 0) (kI 5) aH [.val (jF i a)]=some (.int (m:Int)):=by rw[<-h.em];rfl
 have ha:(aa (af (rd 0) (kI 4) aH) (aa (af (af (rd 0) (kI 4) aH) (af (rd 0) (kI 5) aH) bQ) ai)) [.val (jF i a)]=some [.int (f:Int),.int ((f:Int)+(m:Int))]:=cA e4 (cA (b2 e4 e5 rfl) rfl);show((aa _ _) [.val (jF i a)]).bind _=_;rw[ha,aQ];have hl:UE [.int (f:Int),.int ((f:Int)+(m:Int))]=some (PyProof.Rows.rangeInts (f:Int) 1 ((f:Int)+(m:Int)-(f:Int)).toNat):=if_pos ⟨by lia,by lia,by have:=h.few;lia⟩
 rw[hl,show((f:Int)+(m:Int)-(f:Int)).toNat=m by lia]
 show some (((List.range m).map fun(i:Nat)=>(f:Int)+(i:Int)*1).map PV.int)=_
 rw[gq]
 congr 1
 refine Cv λj _=>?_
 show PV.int ((f:Int)+(j:Int)*1)=PV.int ((f+j:Nat):Int)
 congr 1
 lia
theorem Vu{fa fb fc:FE}{ρ:aG}{f j g:Nat}(h1:fa ρ=some (.int (f:Int)))(h2:fb ρ=some (.int (j:Int)))(h3:fc ρ=some (.int (g:Int))):chain fa fb fc O7 Jp ρ=some (.bl (decide (f<=j)&&decide (j<g))):=by
 rw[Mq,h1,h2];simp only[aQ];have e:O7 (.int (f:Int)) (.int (j:Int))=some (.bl (decide (f<=j))):=by
  show some (PV.bl (decide ((f:Int)<=(j:Int))))=_;simp
 rw[e,aQ];by_cases hfj:f<=j
 ·rw[gp hfj,Mr,h3,aQ,QF];simp
 ·rw[gn hfj,Ms];simp
theorem GI{fa fb:FE}{ρ:aG}{b:Bool}{c:Bool}(h1:fa ρ=some (.bl b))(h2:b=true->fb ρ=some (.bl c)):uS fa fb ρ=some (.bl (b&&c)):=by
 rw[Qq,h1];cases b with
 | true=>simp[h2 rfl,toBE_bl]
 | false=>simp[toBE_bl]
section
variable {X:List Str} {Bd N:Nat}
def kU(N:Nat)(X:List Str)(Bd:Nat):List (List cf):=(List.range N).flatMap λn=>X.flatMap λx=>(List.range Bd).map λj=>kF n x j
theorem qf{f:List cf}:f∈kU N X Bd↔∃n x j,n<N/\x∈X/\j<Bd/\f=kF n x j:=by
 unfold kU;constructor
 ·intro h;obtain⟨n,hn,h⟩:=ju.mp h;obtain⟨x,hx,h⟩:=ju.mp h;obtain⟨j,hj,rfl⟩:=bN.mp h;exact⟨n,x,j,e9.mp hn,hx,e9.mp hj,rfl⟩
 ·rintro⟨n,x,j,hn,hx,hj,rfl⟩
  exact ju.mpr ⟨n,e9.mpr hn,ju.mpr ⟨x,hx,bN.mpr ⟨j,e9.mpr hj,rfl⟩⟩⟩
theorem wJ{α:Type}(l:List α)(c:Nat):(l.map λ_=>c).sum=l.length*c:=by
 induction l with
 | nil=>simp
 | cons x l ih=>rw[bX,List.sum_cons,ih,bt,xf];lia
theorem EH:(kU N X Bd).length=N*(X.length*Bd):=by
 unfold kU;rw[List.length_flatMap];have e:((List.range N).map λn=>(X.flatMap λx=>(List.range Bd).map λj=>kF n x j).length)=(List.range N).map λ_=>X.length*Bd:=Cv λn _=>by
  rw[List.length_flatMap];have e:(X.map λx=>((List.range Bd).map λj=>kF n x j).length)=X.map λ_=>Bd:=Cv λx _=>by simp
  rw[e,wJ]
 rw[e,wJ,oZ]
theorem BO{α β:Type}(f:α->List β)(c:Nat):∀l:List α,(∀x∈l,(f x).length<=c)->(l.flatMap f).length<=l.length*c
 | [],_=>by simp
 | x::l,h=>by
  have:=h x bo;have:=BO f c l λy hy=>h y (bz _ hy)
  rw[oY,bF,bt,xf]
  lia
end
theorem GJ{ga gb:eY}{ρ:aG}{b c:Bool}(h1:ga ρ=some b)(h2:b=true->gb ρ=some c):gU ga gb ρ=some (b&&c):=by
 rw[Qo,h1,aQ];cases b with
 | true=>rw[if_pos rfl,h2 rfl];rfl
 | false=>rfl
def Vv(n:Nat)(x:Str)(j:Nat)(c:Int):PV:=.aC [.int (n:Int),.str x,.int (j:Int),.int c]
theorem Vw{ga gb:eY}{ρ:aG}{b:Bool}(h1:ga ρ=some false)(h2:gb ρ=some b):Fq ga gb ρ=some b:=by
 rw[Mo,h1,aQ,if_neg (by simp),h2]
section
variable {α:Type} {e:α->PV}
def IV(acc:List (List α))(m:Nat)(v:α):Prop:=∃ns,acc[m]?=some ns/\v∈ns
def QV(acc:List (List α))(j:Nat)(n:α):List (List α):=acc.set j ((acc[j]?.getD [])++[n])
theorem M8{acc:List (List α)}{j:Nat}(hl:j<acc.length)(n:α)(m:Nat)(v:α):IV (QV acc j n) m v↔IV acc m v\/v=n/\m=j:=by
 obtain⟨ns,h⟩:∃ns,acc[j]?=some ns:=⟨_,dG hl⟩
 unfold IV QV;rw[h];by_cases z:j=m
 ·subst z;rw[b7 hl,h];constructor
  ·rintro⟨l,z,hv⟩
   cases z;rcases cW.mp hv with z | z
   ·exact .inl ⟨ns,rfl,z⟩
   ·exact .inr ⟨cu.mp z,rfl⟩
  ·rintro(⟨l,z,hv⟩ | ⟨rfl,_⟩)
   ·cases z;exact⟨_,rfl,iD _ hv⟩
   ·exact⟨_,rfl,dH _ (cu.mpr rfl)⟩
 ·rw[bE z];constructor
  ·exact .inl
  ·rintro(w | ⟨_,w⟩)
   ·exact w
   ·exact absurd w.symm z
abbrev oQ(e:α->PV)(acc:List (List α)):List ay:=acc.map λl=>l.map e
theorem GL{acc:List (List α)}{j:Nat}{n:α}{C:Nat}(h:∀ns∈acc,ns.length<=C):(QV acc j n).length=acc.length/\∀ns∈QV acc j n,ns.length<=C+1:=by
 unfold QV;refine⟨iq ..,λns hn=>?_⟩
 rcases List.mem_or_eq_of_mem_set hn with z | z
 ·have:=h ns z;lia
 ·subst z;rw[bF];cases w:acc[j]? with
  | none=>simp
  | some l=>have:=h l (cS w);simp;lia
theorem GN{ρ:aG}{i:Nat}{fk fe:FE}{acc:List (List α)}{j:Nat}{n:α}{C:Nat} (hi:ρ[i]?=some (.cn (.l (oQ e acc)))) (hk:fk ρ=some (iN j)) (he:fe (dX none ρ)=some (e n)) (hf:FZ (e n)=true) (ho:(ρ.set i .un).all (fu true)=true) (hj:j<acc.length) (hz:∀ns∈acc,ns.length<=C) (hC:C<=90000) :
  DQ i fk fe ρ=some (.nx (ρ.set i (.cn (.l (oQ e (QV acc j n)))))):=by
 obtain⟨ns,h⟩:∃ns,acc[j]?=some ns:=⟨_,dG hj⟩
 have hl:=hz ns (cS h);unfold DQ QV;rw[hk,aQ,he,aQ,hi,h];show(if(0:Int)<=(j:Int)/\FZ (e n)=true/\(ρ.set i .un).all (fu true)=true then((oQ e acc)[((j:Int)).toNat]?).bind (λps=>if ps.length<gH then some (nv.nx (ρ.set i (.cn (.l ((oQ e acc).set ((j:Int)).toNat (ps++[e n]))))))else none)else none)=_
 rw[if_pos ⟨by lia,hf,ho⟩,fH]
 unfold oQ;rw[cm,h];show(if(ns.map e).length<gH then _ else _)=_
 rw[if_pos (Gq (by rw[aB];lia)),List.map_set]
 simp
end
def lT(l:List Nat):PV:=.ao (l.map iN)
theorem M9(c:eF)(S b:PV)(n:Nat):∀(l:List Nat) (acc:List (List Nat)) (C:Nat) (x4:Ent),(∀m∈l,m<acc.length)->(∀ns∈acc,ns.length<=C)->C+l.length<=1000 ->
  ∃ka l0,eG (ak 4) (lA c) (l.map iN) [.val S,.val b,.cn (.l (oQ iN acc)),.val (iN n),x4]=some (.nx [.val S,.val b,.cn (.l (oQ iN ka)),.val (iN n),l0])/\ka.length=acc.length/\(∀ns∈ka,ns.length<=C+l.length)/\(∀m v,IV ka m v↔IV acc m v\/v=n/\m∈l)/\(fu true x4=true->fu true l0=true)
 | [],acc,C,x4,_,hc,_=>⟨acc,x4,rfl,rfl,by simpa using hc,by simp,id⟩
 | j::l,acc,C,x4,h,hc,hz=>by
  rw[bt]at hz;have hj:=h j bo;obtain⟨a1,a2⟩:=GL (j:=j) (n:=n) hc;obtain⟨ka,l0,e1,e2,e3,e4,e5⟩:=M9 c S b n l (QV acc j n) (C+1) (.val (iN j)) (λm hm=>by rw[a1];exact h m (bz _ hm)) a2 (by lia)
  refine⟨ka,l0,?_,by rw[e2,a1],λms hm=>by have:=e3 ms hm;rw[bt];lia,λm v=>?_,λ_=>e5 rfl⟩
  ·exact fC (eM:=[.val S,.val b,.cn (.l (oQ iN acc)),.val (iN n),.val (iN j)]) rfl (GN (e:=iN) (n:=n) (j:=j) rfl rfl rfl rfl rfl hj hc (by lia)) e1
  ·rw[e4,M8 hj];simp only[aZ];constructor
   ·rintro((z | ⟨z,w⟩) | ⟨z,w⟩)
    ·exact .inl z
    ·exact .inr ⟨z,.inl w⟩
    ·exact .inr ⟨z,.inr w⟩
   ·rintro(z | ⟨z,w | w⟩)
    ·exact .inl (.inl z)
    ·exact .inl (.inr ⟨z,w⟩)
    ·exact .inr ⟨z,w⟩
theorem GO(c:eF)(S:PV):∀(ls:List (List Nat)) (i:Nat) (acc:List (List Nat)) (C:Nat) (x1 x3 x4:Ent),(∀l∈ls,l.length<=2/\∀m∈l,m<acc.length)->(∀ns∈acc,ns.length<=C)->C+2*ls.length<=1000 ->
  ∃ka x1' IW l0,eG (cC 2 (aw (ak 3) (aw (ak 1) cx))) (lB c) (dU i (ls.map nT)) [.val S,x1,.cn (.l (oQ iN acc)),x3,x4]=some (.nx [.val S,x1',.cn (.l (oQ iN ka)),IW,l0])/\ka.length=acc.length/\(∀ns∈ka,ns.length<=C+2*ls.length)/\(∀m v,IV ka m v↔IV acc m v\/∃(k:Nat) (l:List Nat),ls[k]?=some l/\m∈l/\v=i+k)/\([x1,x3,x4].all (fu true)=true->[x1',IW,l0].all (fu true)=true)
 | [],i,acc,C,x1,x3,x4,_,hc,_=>⟨acc,x1,x3,x4,rfl,rfl,by simpa using hc,by simp,id⟩
 | l::ls,i,acc,C,x1,x3,x4,h,hc,hz=>by
  rw[bt]at hz;obtain⟨h1,h2⟩:=h l bo;obtain⟨ac,y4,a1,a2,a3,a4,a5⟩:=M9 c S (nT l) i l acc C x4 h2 hc (by lia)
  obtain⟨ka,x1',IW,l0,e1,e2,e3,e4,e5⟩:=GO c S ls (i+1) ac (C+2) (.val (nT l)) (.val (iN i)) y4 (λl' hl=>by rw[a2];exact h l' (bz _ hl)) (λns hn=>by have:=a3 ns hn;lia) (by lia)
  refine⟨ka,x1',IW,l0,?_,by rw[e2,a2],λns hn=>by have:=e3 ns hn;rw[bt];lia,λm v=>?_,λh=>e5 ?_⟩
  ·exact fC (eM:=[.val S,.val (nT l),.cn (.l (oQ iN acc)),.val (iN i),x4]) rfl (fS (sV rfl rfl) a1) e1
  ·rw[e4,a4];constructor
   ·rintro((z | ⟨z,w⟩) | ⟨k,l',z1,z2,z3⟩)
    ·exact .inl z
    ·exact .inr ⟨0,l,rfl,w,z⟩
    ·exact .inr ⟨k+1,l',z1,z2,by lia⟩
   ·rintro(z | ⟨k,l',z1,z2,z3⟩)
    ·exact .inl (.inl z)
    ·cases k with
     | zero=>cases z1;exact .inl (.inr ⟨z3,z2⟩)
     | succ k=>exact .inr ⟨k,l',z1,z2,by lia⟩
  ·simp only[fI,pw,pe,aO]at h ⊢;exact⟨rfl,rfl,a5 h.2.2⟩
theorem QW{ls:List (List Nat)}{N:Nat}(H:QU ls N)(k:Nat):∃ah:List (List Nat),run bq (k+1) "acts_ahead" [.ao (ls.map nT)]=some (.val (.ao (ah.map lT)))/\ah.length=N/\∀(m:Nat) (l:List Nat),ah[m]?=some l->l.length<=300/\∀n,n∈l↔∃l',ls[n]?=some l'/\m∈l':=by
 have hf:=H.few;obtain⟨acc,x1,x3,x4,e1,e2,e3,e4,e5⟩:=GO (run bq k) (.ao (ls.map nT)) ls 0 (List.replicate ls.length []) 0 .un .un .un (λl hl=>by rw[jn,H.len];exact H.ok l hl) (λns hn=>by rw[(Cy.mp hn).2];simp) (by rw[H.len];lia)
 refine⟨acc,?_,by rw[e2,jn,H.len],λm l h=>⟨by have:=e3 l (cS h);rw[H.len]at this;lia,λn=>?_⟩⟩
 ·rw[uj,aV];have hc:dB [none,none] (cF (rd 0)) (ak 1) (λ_=>some PV.cE) [.val (.ao (ls.map nT)),.un,.un,.un,.un]=some ((ls.map nT).map λ_=>.cE):=cV (ps:=ls.map nT) rfl (by rw[aB,H.len];lia) (t9 λ_ _=>rfl)
  have hs:yb [none,none] (ak 1) 2 0 [.val (.ao (ls.map nT)),.un,.un,.un,.un]=some (.nx [.val (.ao (ls.map nT)),.un,.cn (.l (oQ iN (List.replicate ls.length []))),.un,.un]):=by
   show(if((dB [none,none] (cF (rd 0)) (ak 1) (λ_=>some PV.cE) [Ent.val (.ao (ls.map nT)),.un,.un,.un,.un]).isSome&&decide (2<5))=true then some (nv.nx [Ent.val (.ao (ls.map nT)),.un,.cn (.l (List.replicate (ls.map nT).length [])),.un,.un])else none)=_
   rw[hc,aB];unfold oQ;rw[List.map_replicate];rfl
  have hl:DR 2 (bC (rd 2)) [.val (.ao (ls.map nT)),x1,.cn (.l (oQ iN acc)),x3,x4]=some (.rt (.val (.ao (acc.map lT)))):=by
   have e5:=e5 rfl;simp only[fI,pw,pe,aO]at e5;show(if [Ent.val (.ao (ls.map nT)),x1,.un,x3,x4].all (fu true)=true then bC (rd 2) [.val (.ao (ls.map nT)),x1,.val (.ao ((oQ iN acc).map .ao)),x3,x4]else none)=_
   rw[if_pos (by simp only[fI,pw,pe,e5.1,e5.2.1,e5.2.2];rfl)]
   refine rS ?_;show some (PV.ao ((oQ iN acc).map .ao))=_;rw[gq];rfl
  exact dt (sq hs (sq (fS rfl e1) hl))
 ·have:=e4 m n;unfold IV at this;rw[h]at this;constructor
  ·intro hn;rcases this.mp ⟨l,rfl,hn⟩with⟨ns,z,w⟩ | ⟨k,l',z1,z2,z3⟩
   ·rw[jm]at z;split at z
    ·cases z;cases w
    ·cases z
   ·exact⟨l',by rw[z3,jX];exact z1,z2⟩
  ·rintro⟨l',z1,z2⟩
   obtain⟨ms,w1,w2⟩:=this.mpr (.inr ⟨n,l',z1,z2,by lia⟩)
   cases w1;exact w2
noncomputable def GP(a:c8):Bool:=(Str.ofString "lend")==a.w || (Str.ofString "sole")==a.w
theorem za(k i:Nat)(a:c8):run bq (k+1) "is_lending" [jF i a]=some (.val (.bl (GP a))):=by
 rw[ui,aV];exact dt (rS (b2 (x:=.str a.w) rfl rfl (Zx _ _ _)))
structure nq (X:List Str) (Bd:Nat) (a:c8):Prop where
 at_:Sy a a.f.toNat a.m.toNat
 thr:a.t=true->a.n∈X/\a.f.toNat+a.m.toNat<=Bd
 few:a.m.toNat<=Bd
def pP(p:Str×Nat):PV:=.aC [.str p.1,iN p.2]
def NU(r:Nat)(q:Nat×c8):List (Str×Nat):=if(decide (q.1=r)&&GP q.2)=true then(List.range q.2.m.toNat).map λj=>(q.2.k,j)else []
def Na(as:List (Nat×c8))(r:Nat):List (Str×Nat):=as.flatMap (NU r)
section
variable {X:List Str} {Bd:Nat} {as:List (Nat×c8)}
theorem GQ{q:Nat×c8}(h:nq X Bd q.2)(r:Nat):(NU r q).length<=Bd:=by
 unfold NU;split
 ·rw[aB,oZ];exact h.few
 ·simp
theorem qQ(k:Nat)(L:PV)(r:Nat)(hB:Bd<=10):∀(as:List (Nat×c8)) (told:ay) (x3:Ent),(∀q∈as,nq X Bd q.2)->told.length+10*as.length<=90000 ->
  ∃IW,eG (ak 3) (j5 (run bq (k+1))) (as.map eN) [.val L,.val (iN r),.own told,x3]=some (.nx [.val L,.val (iN r),.own (told++(Na as r).map pP),IW])
 | [],told,x3,_,_=>⟨x3,by simp[Na]⟩
 | q::as,told,x3,h,hz=>by
  rw[bt]at hz;have ok:=h q bo;have hl:=GQ ok r;have hc:fP (gU (toB (af (af (rd 3) (kI 0) aH) (rd 1) eu)) (toB (aD (aR 1 (run bq (k+1) "is_lending")) (aa (rd 3) ai)))) [.val L,.val (iN r),.own told,.val (eN q)]=some (decide (q.1=r)&&GP q.2):=by
   show gU _ _ (dX none _)=_;refine GJ (bT (b2 (x:=.int (q.1:Int)) (y:=.int (r:Int)) rfl rfl ?_)) λ_=>bT (dM (cA rfl rfl) rfl (za k q.1 q.2) rfl)
   rw[ji,decide_eq_decide.mpr (show(q.1:Int)=(r:Int)↔q.1=r by lia)]
  have hb:j5 (run bq (k+1)) [.val L,.val (iN r),.own told,.val (eN q)]=some (.nx [.val L,.val (iN r),.own (told++(NU r q).map pP),.val (eN q)]):=by
   unfold j5;by_cases hw:(decide (q.1=r)&&GP q.2)=true
   ·refine iT (hc.trans (by rw[hw])) ?_
    have e1:NU r q=(List.range q.2.m.toNat).map λj=>(q.2.k,j):=if_pos hw
    rw[e1]at hl ⊢;rw[aB,oZ]at hl;have e5:af (rd 3) (kI 5) aH [.val L,.val (iN r),.own told,.val (eN q)]=some (.int (q.2.m.toNat:Int)):=by rw[<-ok.at_.em];rfl
    rw[gq];refine mX rfl (fF (cV (hJ (j:=(q.2.m.toNat:Int)) (cA e5 rfl) (by lia)) (by simp;lia) ?_)) (by simp;lia)
    rw[fH];refine eP (e:=λi:Nat=>PV.int (0+(i:Int))) λj _=>?_
    show some (PV.aC [.str q.2.k,.int (0+(j:Int))])=_;rw[jW];rfl
   ·have e1:NU r q=[]:=if_neg hw;rw[e1];simp only[Bool.not_eq_true]at hw;refine iF (hc.trans (by rw[hw])) ?_
    simp
  obtain⟨IW,e⟩:=qQ k L r hB as (told++(NU r q).map pP) (.val (eN q)) (λp hp=>h p (bz _ hp)) (by rw[bF,aB];lia)
  refine⟨IW,?_⟩;have ex:told++(Na (q::as) r).map pP=told++(NU r q).map pP++(Na as r).map pP:=by
   unfold Na;rw[oY,cM,gk]
  rw[bX,ex];exact fC rfl hb e
theorem Nb(k r:Nat)(hB:Bd<=10)(h:∀q∈as,nq X Bd q.2)(hz:as.length<=200):run bq (k+2) "handed" [.ao (as.map eN),iN r]=some (.own ((Na as r).map pP)):=by
 rw[Eh,aV];obtain⟨x3,e⟩:=qQ k (.ao (as.map eN)) r hB as [] .un h (by simp;lia)
 rw[gS]at e;exact A2 (sq (sO rfl (by simp)) (sq (fS (sV rfl rfl) e) (A3 rfl)))
def Cb(as:List (Nat×c8))(q:Nat×c8):List (Str×Nat):=if(q.2.w==(Str.ofString "hand"))=true then Na as q.1 else if q.2.t=true then(List.range q.2.m.toNat).map (λj=>(q.2.n,q.2.f.toNat+j))else []
theorem BP(k:Nat)(hB:Bd<=10)(h:∀q∈as,nq X Bd q.2)(hz:as.length<=200){q:Nat×c8}(hq:q∈as):run bq (k+3) "needed_by" [.ao (as.map eN),eN q]=some (.val (.ao ((Cb as q).map pP))):=by
 have ok:=h q hq;rw[vm,aV];have hc:toB (af (af (rd 1) (kI 1) aH) (kS "hand") eu) [.val (.ao (as.map eN)),.val (eN q)]=some (q.2.w==(Str.ofString "hand")):=bT (b2 (x:=.str q.2.w) (y:=.str "hand") rfl rfl dJ);have ht:gP (toB (af (rd 1) (kI 3) aH)) [.val (.ao (as.map eN)),.val (eN q)]=some (!q.2.t):=rfl;by_cases hw:(q.2.w==(Str.ofString "hand"))=true
 ·have e1:Cb as q=Na as q.1:=if_pos hw;rw[e1];exact dt (kz (iT (hc.trans (by rw[hw])) (rS (dM (cA rfl (cA rfl rfl)) rfl (Nb k q.1 hB h hz) rfl))))
 ·have hw':=hw;simp only[Bool.not_eq_true]at hw';cases th:q.2.t with
  | false =>
   have e1:Cb as q=[]:=by unfold Cb;rw[if_neg hw,th];rfl
   rw[e1];exact dt (sq (iF (hc.trans (by rw[hw'])) rfl) (kz (iT (ht.trans (by rw[th];rfl)) (rS rfl))))
  | true =>
   have e1:Cb as q=(List.range q.2.m.toNat).map (λj=>(q.2.n,q.2.f.toNat+j)):=by unfold Cb;rw[if_neg hw,th];rfl
   have hm:=ok.few;rw[e1,gq];refine dt (sq (iF (hc.trans (by rw[hw'])) rfl) (sq (iF (ht.trans (by rw[th];rfl)) rfl) (rS (fF (cV (sV (dM (cA rfl rfl) rfl (IU (k+1) q.1 ok.at_) rfl) rfl) (by simp;lia) ?_)))))
   exact eP (e:=λj=>iN (q.2.f.toNat+j)) (G:=λj=>pP (q.2.n,q.2.f.toNat+j)) λj _=>rfl
def Sz(as:List (Nat×c8))(n:Nat)(q:Nat×c8):List (List cf):=(Cb as q).map λp=>kF n p.1 p.2
def vp(as:List (Nat×c8)):Nat->List (Nat×c8)->List (List cf)
 | _,[]=>[]
 | n,q::bs=>Sz as n q++vp as (n+1) bs
theorem zb{f:List cf}:∀{bs:List (Nat×c8)} {n:Nat},f∈vp as n bs↔∃(i:Nat) (q:Nat×c8),bs[i]?=some q/\f∈Sz as (n+i) q
 | [],n=>by simp[vp]
 | q::bs,n=>by
  rw[vp,cW,zb (bs:=bs)];constructor
  ·rintro(h | ⟨i,p,h1,h2⟩)
   ·exact⟨0,q,rfl,h⟩
   ·exact⟨i+1,p,h1,by rw[show n+(i+1)=n+1+i by lia];exact h2⟩
  ·rintro⟨i,p,h1,h2⟩
   cases i with
   | zero=>cases h1;exact .inl h2
   | succ i=>exact .inr ⟨i,p,h1,by rw[show n+1+i=n+(i+1) by lia];exact h2⟩
theorem QX(h:∀q∈as,nq X Bd q.2)(r:Nat):(Na as r).length<=as.length*Bd:=BO _ Bd as λq hq=>GQ (h q hq) r
theorem GR(h:∀q∈as,nq X Bd q.2){q:Nat×c8}(hq:q∈as):(Cb as q).length<=as.length*Bd+Bd:=by
 have h1:=QX h q.1;unfold Cb;split
 ·lia
 ·split
  ·rw[aB,oZ];have:=(h q hq).few
   lia
  ·simp
theorem wK(k:Nat)(P I A:PV)(hB:Bd<=10)(h:∀q∈as,nq X Bd q.2)(hz:as.length<=200)(M:Nat)(hM:as.length*Bd+Bd<=M):∀(bs:List (Nat×c8)) (n:Nat) (told:ay) (x3 x4:Ent),(∀q∈bs,q∈as)->told.length+bs.length*M<=90000 ->
  ∃IW l0,eG (cC 2 (aw (ak 3) (aw (ak 4) cx))) (lZ (run bq (k+3))) (dU n (bs.map eN)) [.val P,.val I,.own told,x3,x4,.val A,.val (.ao (as.map eN))]=some (.nx [.val P,.val I,.own (told++(vp as n bs).map fK),IW,l0,.val A,.val (.ao (as.map eN))])
 | [],n,told,x3,x4,_,_=>⟨x3,x4,by simp[vp,dU]⟩
 | q::bs,n,told,x3,x4,hs,ht=>by
  rw[bt,xf]at ht;have hq:=hs q bo;have hl:=GR h hq;have hb:lZ (run bq (k+3)) [.val P,.val I,.own told,.val (.int (n:Int)),.val (eN q),.val A,.val (.ao (as.map eN))]=some (.nx [.val P,.val I,.own (told++(Sz as n q).map fK),.val (.int (n:Int)),.val (eN q),.val A,.val (.ao (as.map eN))]):=by
   unfold lZ;unfold Sz;rw[gq];refine mX rfl (fF (cV (sV (dM (cA rfl (cA rfl rfl)) rfl (BP k hB h hz hq) rfl) rfl) (by rw[aB];lia) ?_)) (by rw[aB];lia)
   exact eP λp _=>rfl
  obtain⟨IW,l0,e⟩:=wK k P I A hB h hz M hM bs (n+1) (told++(Sz as n q).map fK) (.val (.int (n:Int))) (.val (eN q)) (λp hp=>hs p (bz _ hp)) (by
   unfold Sz;rw[bF,aB,aB]
   lia)
  refine⟨IW,l0,?_⟩;have ex:told++(vp as n (q::bs)).map fK=told++(Sz as n q).map fK++(vp as (n+1) bs).map fK:=by
   rw[vp,cM,gk]
  rw[bX,dU,ex];exact fC rfl hb e
def takes(as:List (Nat×c8))(n:Nat)(x:Str):Bool:=match as[n]? with
 | some q=>q.2.k==x
 | none=>true
def naF(as:List (Nat×c8))(l:List Nat)(x:Str)(j:Nat):List (List cf):=(l.filter λn=>!takes as n x).map λn=>kF n x j
theorem uA(k:Nat){l:List Nat}(hl:l.length<=300)(hn:∀n∈l,n<as.length)(m:Nat)(x:Str)(j:Nat):run bq (k+1) "needed_ahead" [.ao (as.map eN),lT l,pF m x j]=some (.val (.ao ((naF as l x j).map fK))):=by
 rw[qc,aV];unfold naF;rw[gq];refine dt (rS (fF (cT (ps:=l.map iN) rfl (by rw[aB];lia) ?_)))
 refine eS λn hm=>?_
 obtain⟨q,hq⟩:∃q,as[n]?=some q:=⟨_,dG (hn n hm)⟩
 have t:ak 1 (iN n) (bA [none,none,some 2,some 0] [.val (.ao (as.map eN)),.val (lT l),.val (pF m x j)])=some [.un,.val (iN n),.val (pF m x j),.val (.ao (as.map eN))]:=rfl;have g:toB (af (af (af (rd 3) (rd 1) aH) (kI 6) aH) (af (rd 2) (kI 1) aH) rm) [.un,.val (iN n),.val (pF m x j),.val (.ao (as.map eN))]=some (!takes as n x):=by
  unfold takes;rw[hq];exact bT (b2 (x:=.str q.2.k) (y:=.str x) (b2 (b2 (x:=.ao (as.map eN)) (y:=.int (n:Int)) rfl rfl (dw (v:=eN q) (by rw[cm,hq];rfl))) rfl rfl) rfl rF)
 show(ak 1 (iN n) (bA [none,none,some 2,some 0] [.val (.ao (as.map eN)),.val (lT l),.val (pF m x j)])).bind _=_;rw[t,aQ,g,aQ];cases takes as n x<;>rfl
end
structure EI (X:List Str) (as:List (Nat×c8)):Prop where
 inX:∀q∈as,(q.2.w==(Str.ofString "hand"))=true->∀p∈as,p.1=q.1->GP p.2=true->p.2.k∈X
 thr:∀q∈as,(q.2.w==(Str.ofString "hand"))=true->q.2.t=false
section
variable {X:List Str} {Bd N:Nat} {as:List (Nat×c8)} {ls ah:List (List Nat)}
abbrev Vx(k:Nat)(as:List (Nat×c8))(ah:List (List Nat)):List cf->Option (List (List cf)):=AN (aD (aR 3 (run bq (k+1) "needed_ahead")) (aa (rd 2) (aa (af (rd 1) (af (rd 0) (kI 0) aH) aH) (aa (rd 0) ai)))) [.val (.ao (ah.map lT)),.val (.ao (as.map eN))]
theorem GS(k:Nat){n:Nat}{l:List Nat}(hl:ah[n]?=some l)(h3:l.length<=300)(hn:∀n∈l,n<as.length)(x:Str)(j:Nat):Vx k as ah (kF n x j)=some (naF as l x j):=by
 refine QJ ?_ λf hf=>?_
 ·exact dM (cA rfl (cA (b2 (x:=.ao (ah.map lT)) (y:=.int (n:Int)) rfl rfl (dw (v:=lT l) (by rw[cm,hl];rfl))) (cA rfl rfl))) rfl (uA k h3 hn n x j) rfl
 ·obtain⟨m,_,rfl⟩:=bN.mp hf;show 3<1000
  lia
theorem Vy{n m:Nat}{x y:Str}{i j:Nat}(h:kF n x i=kF m y j):n=m/\x=y/\i=j:=by
 unfold kF at h;injection h with e1 e2
 injection e2 with e2 e3
 injection e3 with e3 _
 injection e1 with e1
 injection e2 with e2
 injection e3 with e3
 exact⟨by lia,e2,by lia⟩
theorem GU{r:Nat}{x:Str}{j:Nat}:(x,j)∈Na as r↔∃p∈as,p.1=r/\GP p.2=true/\p.2.k=x/\j<p.2.m.toNat:=by
 unfold Na;constructor
 ·intro h;obtain⟨p,hp,h⟩:=ju.mp h;unfold NU at h;split at h
  ·rename_i hc;rw[aO,jo]at hc;obtain⟨i,hi,e⟩:=bN.mp h;cases e;exact⟨p,hp,hc.1,hc.2,rfl,e9.mp hi⟩
  ·cases h
 ·rintro⟨p,hp,h1,h2,h3,h4⟩
  refine ju.mpr ⟨p,hp,?_⟩;unfold NU;rw[if_pos (by rw[aO,jo];exact⟨h1,h2⟩)]
  exact bN.mpr ⟨j,e9.mpr h4,by rw[h3]⟩
theorem ZC(hA:∀q∈as,nq X Bd q.2)(hH:EI X as){q:Nat×c8}(hq:q∈as){x:Str}{j:Nat}(h:(x,j)∈Cb as q):x∈X/\j<Bd:=by
 unfold Cb at h;split at h
 ·rename_i hw;obtain⟨p,hp,h1,h2,rfl,h4⟩:=GU.mp h;have:=(hA p hp).few;exact⟨hH.inX q hq hw p hp h1 h2,by lia⟩
 ·split at h
  ·rename_i ht;obtain⟨i,hi,e⟩:=bN.mp h;cases e;obtain⟨g1,g2⟩:=(hA q hq).thr ht;have:=e9.mp hi;exact⟨g1,by lia⟩
  ·cases h
theorem Vz{n:Nat}{x:Str}{j:Nat}:kF n x j∈vp as 0 as↔∃q,as[n]?=some q/\(x,j)∈Cb as q:=by
 rw[zb];constructor
 ·rintro⟨i,q,h1,h2⟩
  obtain⟨p,hp,e⟩:=bN.mp h2;obtain⟨e1,e2,e3⟩:=Vy e;have:i=n:=by lia
  subst this;obtain⟨p1,p2⟩:=p;simp only at e2 e3;subst e2 e3;exact⟨q,h1,hp⟩
 ·rintro⟨q,h1,h2⟩
  exact⟨n,q,h1,bN.mpr ⟨_,h2,by rw[jX]⟩⟩
theorem QY(k:Nat){fs:ay}{I:Int}(hAc:run bq (k+4) "acts" [.aC fs,.int I]=some (.own (as.map eN)))(hNx:run bq (k+4) "nexts" [.aC fs,.int I]=some (.own (ls.map nT)))
  (hAh:run bq (k+4) "acts_ahead" [.ao (ls.map nT)]=some (.val (.ao (ah.map lT)))) (R7:ah.length=N) (haN:∀(m:Nat) (l:List Nat),ah[m]?=some l->l.length<=300/\∀n,n∈l->n<N)
  (hA:∀q∈as,nq X Bd q.2) (hH:EI X as) (hN:as.length=N) (hf:N<128) (hB:Bd<=3) (hU:N*(X.length*Bd)<5000) :
  ∃told:fD,run bq (k+5) "needs" [.aC fs,.int I]=some (.val (.ao (told.map toldP)))/\(∀t∈told,t.1∈kU N X Bd)/\(told.map (·.1)).Nodup/\(∀f∈vp as 0 as,f∈told.map (·.1))/\∀n x j l m,kF n x j∈told.map (·.1)->ah[n]?=some l->m∈l->takes as m x=false->kF m x j∈told.map (·.1):=by
 have PQ:∀g∈kU N X Bd,∃fs,Vx (k+3) as ah g=some fs/\(∀f∈fs,f∈kU N X Bd)/\fs.length<=300:=λg hg=>by
  obtain⟨n,x,j,hn,hx,hj,rfl⟩:=qf.mp hg;obtain⟨l,hl⟩:∃l,ah[n]?=some l:=⟨_,dG (by lia)⟩
  obtain⟨o1,o2⟩:=haN n l hl;refine⟨_,GS (k+3) hl o1 (by rw[hN];exact o2) x j,λf hf=>?_,?_⟩
  ·obtain⟨m,hm,rfl⟩:=bN.mp hf;exact qf.mpr ⟨m,x,j,o2 m (gT.mp hm).1,hx,hj,rfl⟩
  ·unfold naF;rw[aB];exact cG (List.length_filter_le _ _) o1
 have Nc:∀f∈vp as 0 as,f∈kU N X Bd:=λf hf=>by
  obtain⟨i,q,h1,h2⟩:=zb.mp hf;obtain⟨p,hp,rfl⟩:=bN.mp h2;obtain⟨g1,g2⟩:=ZC hA hH (cS h1) (x:=p.1) (j:=p.2) hp;have:=(dF.mp h1).1;exact qf.mpr ⟨0+i,p.1,p.2,by lia,g1,g2,rfl⟩
 obtain⟨told,t1,t2,t3,t4,t5,t6⟩:=D8 (Vx (k+3) as ah) (vp as 0 as) (kU N X Bd) 300 (by rw[EH,DY];lia) (by rw[EH];exact hU) PQ Nc
 refine⟨told,?_,t3,t2,t6,λn x j l m hf hl hm ht=>?_⟩
 case refine_2 =>
  obtain⟨⟨f,c⟩,hc,e⟩:=bN.mp hf;obtain⟨i,hi⟩:=rN hc;simp only at e;subst e;obtain⟨fs,f1,f2⟩:=t5 i _ c (dF.mp hi).1 hi;obtain⟨o1,o2⟩:=haN n l hl;rw[GS (k+3) hl o1 (by rw[hN];exact o2) x j]at f1
  cases f1;exact f2 _ (bN.mpr ⟨m,gT.mpr ⟨hm,by rw[ht];rfl⟩,rfl⟩)
 have hm1:as.length*Bd+Bd<=400:=by
  have:as.length*Bd<=127*3:=Nat.mul_le_mul (by lia) hB
  lia
 have hm2:as.length*400<=60000:=by
  have:as.length*400<=127*400:=Nat.mul_le_mul_right _ (by lia)
  lia
 obtain⟨IW,l0,e⟩:=wK (k+1) (.aC fs) (.int I) (.ao (ah.map lT)) (by lia) hA (by lia) 400 hm1 as 0 [] .un .un (λ_ z=>z) (by simp only[iG];lia)
 rw[gS]at e;have V8:(vp as 0 as).length<=60000:=by
  have:∀(bs:List (Nat×c8)) (n:Nat),(∀q∈bs,q∈as)->(vp as n bs).length<=bs.length*400:=λbs=>by
   induction bs with
   | nil=>intro n _;simp[vp]
   | cons q r ih =>
    intro n hs;have h1:=GR hA (hs q bo);have h2:=ih (n+1) λp hp=>hs p (bz _ hp)
    rw[vp,bF,bt,xf];unfold Sz;rw[aB]
    lia
  have:=this as 0 λ_ z=>z
  lia
 rw[IC,aV];refine dt (sq (aS (dM (cA rfl (cA rfl rfl)) rfl hAc rfl) rfl) (sq (aS (dM (cA (dM (cA rfl (cA rfl rfl)) rfl hNx rfl) rfl) rfl hAh rfl) rfl) (sq (sO rfl (by simp)) (sq (fS rfl e) ?_))))
 refine rS (fF (D9 (fk:=vp as 0 as) rfl (λf hf=>?_) (by rw[DY];lia) t1))
 obtain⟨n,x,j,_,_,_,rfl⟩:=qf.mp (Nc f hf);show 3<1000
 lia
end
theorem oI{c:eF}(S:Ent):∀(ps:List Sh) (told:ay) (x2:Ent),(∀s∈ps,c "_law_leaves" [enc s]=some (.val (.ao (df (lv s)))))->told.length+(iB ps).length<=90000->∃x2',eG (ak 2) (jk c) (df ps) [S,.val (.ao told),x2]=some (.nx [S,.val (.ao (told++df (iB ps))),x2'])
 | [],told,x2,_,_=>⟨x2,by simp[df,iB]⟩
 | s::ps,told,x2,h,hz=>by
  simp only[iB,bF]at hz;have hb:jk c [S,.val (.ao told),.val (enc s)]=some (.nx [S,.val (.ao (told++df (lv s))),.val (enc s)]):=by
   unfold jk;exact aS (b2 rfl (dM (cA rfl rfl) rfl (h s bo) rfl) (aL (by rw[jQ];lia))) rfl
  obtain⟨x2',e⟩:=oI S ps (told++df (lv s)) (.val (enc s)) (λt ht=>h t (bz _ ht)) (by rw[bF,jQ];lia)
  refine⟨x2',?_⟩;have ex:told++df (iB (s::ps))=told++df (lv s)++df (iB ps):=by
   simp only[iB,ik,cM,gk]
  rw[ex];show eG _ _ (enc s::df ps) _=_;exact fC rfl hb e
theorem kc(k:Nat){s:Sh}(h:iM s=true):run bq (k+1) "_law_leaves" [enc s]=some (.val (.ao [enc s])):=by
 rw[qO,aV];have h0:af (rd 0) (kI 0) aH [.val (enc s),.un,.un]=some (.str (Gx s)):=b2 rfl rfl (lD (.ow s));exact dt (kz (iT (bT (b2 h0 rfl ((M1 s).trans (by rw[h])))) (rS rfl)))
mutual
theorem wL:∀(s:Sh) (k:Nat),dp s<=k->(lv s).length<=90000->run bq (k+1) "_law_leaves" [enc s]=some (.val (.ao (df (lv s))))
 | .num,k,_,_=>by rw[kc k rfl];simp[lv,df]
 | .own,k,_,_=>by rw[kc k rfl];simp[lv,df]
 | .dk n,k,_,_=>by rw[kc k rfl];simp[lv,df]
 | .bJ ps,0,hd,_=>by simp[dp]at hd
 | .bJ ps,k+1,hd,hz=>by
  simp only[dp]at hd;simp only[lv]at hz;rw[qO,aV];have h0:af (rd 0) (kI 0) aH [.val (enc (.bJ ps)),.un,.un]=some (.str (Gx (.bJ ps))):=b2 rfl rfl (lD (.ow (.bJ ps)));obtain⟨x2',e⟩:=oI (c:=run bq (k+1)) (.val (enc (.bJ ps))) ps [] .un (lF ps k (by lia) hz) (by simp;lia)
  rw[gS]at e;refine dt (sq (iF (bT (b2 h0 rfl (M1 (.bJ ps)))) rfl) (sq (aS (fF rfl) rfl) (sq (fS (sV (b2 rfl rfl rfl) rfl) e) (rS ?_))));simp only[lv];rfl
theorem lF:∀(ps:List Sh) (k:Nat),ua ps<=k->(iB ps).length<=90000->∀s∈ps,run bq (k+1) "_law_leaves" [enc s]=some (.val (.ao (df (lv s))))
 | [],_,_,_,s,hs=>by cases hs
 | p::r,k,hd,hz,s,hs=>by
  simp only[ua]at hd;simp only[iB,bF]at hz;rcases aZ.mp hs with e | e
  ·rw[e];exact wL p k (by lia) (by lia)
  ·exact lF r k (by lia) (by lia) s e
end
def kn(told:fD):List (List cf×PV):=told.map λt=>(t.1,.bl true)
theorem VA{told:fD}{k:List cf}(h:k∈told.map (·.1)):pW (kn told) k=true:=by
 unfold pW kn;rw[xg,List.any_eq_true];obtain⟨t,ht,rfl⟩:=bN.mp h;exact⟨t,ht,gp rfl⟩
theorem VB{told:fD}{k:List cf}(h:k∉told.map (·.1))(c:Int):LN (kn told) k (.bl true)=kn (told++[(k,c)]):=by
 have e:pW (kn told) k=false:=by
  unfold pW kn;rw[xg,List.any_eq_false];intro t ht z;exact h (bN.mpr ⟨t,ht,rW z⟩)
 unfold LN;rw[e,if_neg (by simp)]
 unfold kn;rw[cM];rfl
theorem ZD(n:Nat)(x:Str)(j:Nat):mx (pF n x j)=some (kF n x j):=rfl
theorem tV3{fa fb fc:FE}{ρ:aG}{a b c:PV}(h1:fa ρ=some a)(h2:fb ρ=some b)(h3:fc ρ=some c):aY (aa fa (aa fb (aa fc ai))) ρ=some (.aC [a,b,c]):=by
 rw[Zt,h1,h2,h3];rfl
theorem EJ{fk:FE}{ρ:aG}{i:Nat}{told:fD}{n:Nat}{x:Str}{j:Nat}(h1:fk ρ=some (pF n x j))(h2:AQ ρ i=some (kn told))(h3:kF n x j∈told.map (·.1)):inB true i fk ρ=some false:=by
 unfold inB;rw[h1,aQ,ZD,aQ,h2];show some (!pW (kn told) (kF n x j))=_;rw[VA h3];rfl
theorem QZ{fk fv:FE}{ρ:aG}{i:Nat}{told:fD}{n:Nat}{x:Str}{j:Nat}(c:Int) (h0:ρ[i]?=some (.cn (.t (kn told)))) (h1:fk ρ=some (pF n x j)) (h2:fv ρ=some (.bl true)) (h3:kF n x j∉told.map (·.1)) (hl:told.length<=90000) (ho:(ρ.set i .un).all (fu false)=true):Ic i fk fv ρ=some (.nx (ρ.set i (.cn (.t (kn (told++[(kF n x j,c)])))))):=by
 unfold Ic;rw[h2,aQ,h1,aQ,h0];show(mx (pF n x j)).bind _=_;rw[ZD,aQ,if_pos ⟨Gq (by unfold kn;rw[aB];lia),ho⟩,VB h3 c]
theorem zc{fe:FE}{ρ:aG}{p:PV}(h:fe (dX none ρ)=some p)(hp:k8 p=true):eV fe ρ=some p:=by
 unfold eV;rw[h,aQ,if_pos hp]
theorem IX{g:Ob->ay->cH}{i:Nat}{f1 f2:FE}{ρ:aG}{p1 p2 p:PV}{o:Ob}(h1:f1 ρ=some p1)(h2:f2 ρ=some p2)(h0:rdO i ρ=some o)(h:g o [p1,p2]=some (.val p)):mZ (HX 2 g) i f1 f2 ρ=some p:=by
 unfold mZ;rw[h1,aQ,h2,aQ,h0,aQ];show(g o [p1,p2]).bind nU=_;rw[h];rfl
section
variable {X:List Str} {Bd N:Nat} {as:List (Nat×c8)} {ls ah:List (List Nat)} {told:fD}
abbrev IS(R:PV)(n:Nat)(told:fD)(q:Nat×c8)(x4 x5:Ent):aG:=[.val R,.val (iN n),.ob (.dct (.t (kn told))),.val (eN q),x4,x5]
theorem it3(c:eF)(R:PV)(n:Nat)(q:Nat×c8)(f:Nat):∀(L:List Nat) (x4 x5:Ent),(∀i∈L,kF n q.2.n (f+i)∈told.map (·.1))->∃l0,eG (ak 4) (jl c) (L.map fun(i:Nat)=>.int ((f:Int)+(i:Int))) (IS R n told q x4 x5)=some (.nx (IS R n told q l0 x5))
 | [],x4,x5,_=>⟨x4,rfl⟩
 | i::L,x4,x5,h=>by
  obtain⟨l0,e⟩:=it3 c R n q f L (.val (iN (f+i))) x5 λm hm=>h m (bz _ hm)
  refine⟨l0,?_⟩;rw[bX,show PV.int ((f:Int)+(i:Int))=iN (f+i)from rfl]
  refine fC (eM:=IS R n told q (.val (iN (f+i))) x5) rfl ?_ e;unfold jl;exact iF (EJ (told:=told) (n:=n) (x:=q.2.n) (j:=f+i) (tV3 rfl rfl rfl) rfl (h i bo)) rfl
theorem it1(c:eF)(R:PV)(n:Nat)(q p:Nat×c8):∀(L:List Nat) (x4:Ent),(∀i∈L,kF n p.2.k i∈told.map (·.1))->∃l0,eG (ak 4) (lC c) (L.map fun(i:Nat)=>.int (0+(i:Int))) (IS R n told q x4 (.val (eN p)))=some (.nx (IS R n told q l0 (.val (eN p))))
 | [],x4,_=>⟨x4,rfl⟩
 | i::L,x4,h=>by
  obtain⟨l0,e⟩:=it1 c R n q p L (.val (iN i)) λm hm=>h m (bz _ hm)
  refine⟨l0,?_⟩;rw[bX,show(PV.int (0+(i:Int)))=iN i by rw[jW];rfl]
  refine fC (eM:=IS R n told q (.val (iN i)) (.val (eN p))) rfl ?_ e;unfold lC;exact iF (EJ (told:=told) (n:=n) (x:=p.2.k) (j:=i) (tV3 rfl rfl rfl) rfl (h i bo)) rfl
theorem it2(c:eF)(R:PV)(n:Nat)(q:Nat×c8)(hB:Bd<=3):∀(bs:List (Nat×c8)) (x4 x5:Ent),(∀p∈bs,nq X Bd p.2)->(∀p∈bs,p.1=q.1->GP p.2=true->∀i,i<p.2.m.toNat->kF n p.2.k i∈told.map (·.1)) ->
  ∃l0 vn,eG (ak 5) (il c) (bs.map eN) (IS R n told q x4 x5)=some (.nx (IS R n told q l0 vn))
 | [],x4,x5,_,_=>⟨x4,x5,rfl⟩
 | p::bs,x4,x5,hA,h=>by
  have ok:=hA p bo;have hc:gU (toB (af (af (rd 5) (kI 0) aH) (af (rd 3) (kI 0) aH) eu)) (toB (af (af (rd 5) (kI 1) aH) (aY (aa (kS "lend") (aa (kS "sole") ai))) (rn false))) (IS R n told q x4 (.val (eN p)))=some (decide (p.1=q.1)&&GP p.2):=by
   refine GJ (bT (b2 (x:=.int (p.1:Int)) (y:=.int (q.1:Int)) rfl rfl ?_)) λ_=>bT (b2 (x:=.str p.2.w) (y:=.aC [.str "lend",.str "sole"]) rfl rfl (Zx _ _ _))
   rw[ji,decide_eq_decide.mpr (show(p.1:Int)=(q.1:Int)↔p.1=q.1 by lia)]
  have hb:∃y4,il c (IS R n told q x4 (.val (eN p)))=some (.nx (IS R n told q y4 (.val (eN p)))):=by
   unfold il;cases z:(decide (p.1=q.1)&&GP p.2)with
   | false=>exact⟨x4,iF (hc.trans (by rw[z])) rfl⟩
   | true =>
    rw[aO,jo]at z;obtain⟨y4,e⟩:=it1 (told:=told) c R n q p (List.range p.2.m.toNat) x4 λi hi=>h p bo z.1 z.2 i (e9.mp hi)
    have e5:af (rd 5) (kI 5) aH (IS R n told q x4 (.val (eN p)))=some (.int (p.2.m.toNat:Int)):=by rw[<-ok.at_.em];rfl
    have hr:=hJ (ts:=aa (af (rd 5) (kI 5) aH) ai) (cA e5 rfl) (by have:=ok.few;lia)
    rw[fH]at hr;exact⟨y4,iT (hc.trans (by rw[z.2,gp z.1];rfl)) (fS hr e)⟩
  obtain⟨y4,e1⟩:=hb;obtain⟨l0,vn,e2⟩:=it2 c R n q hB bs y4 (.val (eN p)) (λr hr=>hA r (bz _ hr)) λr hr=>h r (bz _ hr)
  exact⟨l0,vn,fC (eM:=IS R n told q x4 (.val (eN p))) rfl e1 e2⟩
theorem Nd(k:Nat)(hB:Bd<=3)(hA:∀q∈as,nq X Bd q.2)(hH:EI X as){n:Nat}{q:Nat×c8}(hq:as[n]?=some q)(hT:∀f∈vp as 0 as,f∈told.map (·.1)):q9 bq (k+1) "_law_itself" (.dct (.t (kn told))) [.ao (as.map eN),iN n]=some (.val (.bl true)):=by
 have hm:=cS hq;have ok:=hA q hm;have hT':∀x j,(x,j)∈Cb as q->kF n x j∈told.map (·.1):=λx j h=>hT _ (Vz.mpr ⟨q,hq,h⟩)
 rw[Bv _ _ _ rfl,QH];have a0:bx (af (rd 0) (rd 1) aH) (ak 3) [.val (.ao (as.map eN)),.val (iN n),.ob (.dct (.t (kn told))),.un,.un,.un]=some (.nx (IS (.ao (as.map eN)) n told q .un .un)):=aS (b2 (x:=.ao (as.map eN)) (y:=.int (n:Int)) rfl rfl (dw (v:=eN q) (by rw[cm,hq];rfl))) rfl
 have a1:∃y4,fJ (toB (af (rd 3) (kI 3) aH)) (eZ (wm (aa (af (rd 3) (kI 4) aH) (aa (af (af (rd 3) (kI 4) aH) (af (rd 3) (kI 5) aH) bQ) ai))) (ak 4) (jl (run bq k))) (λρ=>some (.nx ρ)) (IS (.ao (as.map eN)) n told q .un .un)=some (.nx (IS (.ao (as.map eN)) n told q y4 .un)):=by
  have hc:toB (af (rd 3) (kI 3) aH) (IS (.ao (as.map eN)) n told q .un .un)=some q.2.t:=bT (b2 (x:=eN q) rfl rfl rfl);cases ht:q.2.t with
  | false=>exact⟨.un,iF (hc.trans (by rw[ht])) rfl⟩
  | true =>
   have hw:¬(q.2.w==(Str.ofString "hand"))=true:=λz=>by rw[hH.thr q hm z]at ht;cases ht
   have nb:∀i,i<q.2.m.toNat->(q.2.n,q.2.f.toNat+i)∈Cb as q:=λi hi=>by
    unfold Cb;rw[if_neg hw,if_pos ht];exact bN.mpr ⟨i,e9.mpr hi,rfl⟩
   obtain⟨y4,e⟩:=it3 (told:=told) (run bq k) (.ao (as.map eN)) n q q.2.f.toNat (List.range q.2.m.toNat) .un .un λi hi=>hT' _ _ (nb i (e9.mp hi))
   have e4:af (rd 3) (kI 4) aH (IS (.ao (as.map eN)) n told q .un .un)=some (.int (q.2.f.toNat:Int)):=by rw[<-ok.at_.ef];rfl
   have e5:af (rd 3) (kI 5) aH (IS (.ao (as.map eN)) n told q .un .un)=some (.int (q.2.m.toNat:Int)):=by rw[<-ok.at_.em];rfl
   have ea:(aa (af (rd 3) (kI 4) aH) (aa (af (af (rd 3) (kI 4) aH) (af (rd 3) (kI 5) aH) bQ) ai)) (IS (.ao (as.map eN)) n told q .un .un)=some [.int (q.2.f.toNat:Int),.int ((q.2.f.toNat:Int)+(q.2.m.toNat:Int))]:=cA e4 (cA (b2 e4 e5 rfl) rfl);have hr:wm (aa (af (rd 3) (kI 4) aH) (aa (af (af (rd 3) (kI 4) aH) (af (rd 3) (kI 5) aH) bQ) ai)) (IS (.ao (as.map eN)) n told q .un .un)=some ((List.range q.2.m.toNat).map fun(i:Nat)=>.int ((q.2.f.toNat:Int)+(i:Int))):=by
    unfold wm;rw[ea,aQ];have:=ok.at_.few;show(if(0:Int)<=(q.2.f.toNat:Int)/\(q.2.f.toNat:Int)<1000000/\(0:Int)<=(q.2.f.toNat:Int)+(q.2.m.toNat:Int)/\(q.2.f.toNat:Int)+(q.2.m.toNat:Int)<1000000 then _ else _)=_
    rw[if_pos (by lia),show((q.2.f.toNat:Int)+(q.2.m.toNat:Int)-(q.2.f.toNat:Int)).toNat=q.2.m.toNat by lia]
   exact⟨y4,iT (hc.trans (by rw[ht])) (fS hr e)⟩
 obtain⟨y4,a1⟩:=a1;have a2:∃z4 z5,fJ (toB (af (af (rd 3) (kI 1) aH) (kS "hand") eu)) (eZ (cF (rd 0)) (ak 5) (il (run bq k))) (λρ=>some (.nx ρ)) (IS (.ao (as.map eN)) n told q y4 .un)=some (.nx (IS (.ao (as.map eN)) n told q z4 z5)):=by
  have hc:toB (af (af (rd 3) (kI 1) aH) (kS "hand") eu) (IS (.ao (as.map eN)) n told q y4 .un)=some (q.2.w==(Str.ofString "hand")):=bT (b2 (x:=.str q.2.w) (y:=.str "hand") rfl rfl dJ);cases hw:(q.2.w==(Str.ofString "hand"))with
  | false=>exact⟨y4,.un,iF (hc.trans (by rw[hw])) rfl⟩
  | true =>
   obtain⟨z4,z5,e⟩:=it2 (told:=told) (run bq k) (.ao (as.map eN)) n q hB as y4 .un hA λp hp e1 e2 i hi=>hT' _ _ (by
    unfold Cb;rw[if_pos hw];exact GU.mpr ⟨p,hp,e1,e2,rfl,hi⟩)
   exact⟨z4,z5,iT (hc.trans (by rw[hw])) (fS (sV rfl rfl) e)⟩
 obtain⟨z4,z5,a2⟩:=a2;exact dt (sq a0 (sq a1 (sq a2 (rS rfl))))
end
abbrev LR(P I:PV)(as:List (Nat×c8))(ls:List (List Nat))(told:fD)(x5 x6 x7 x8 x9 lG wM:Ent):aG :=
 [.val P,.val I,.val (.ao (as.map eN)),.val (.ao (ls.map nT)),.val (.ao (told.map toldP)),x5,x6,x7,x8,x9,lG,wM]
def lP(l:List (Str×Nat)):PV:=.ao (l.map pP)
def aeh(ls ah:List (List Nat)):Prop:=∀(m:Nat) (l:List Nat),ah[m]?=some l->l.length<=300/\∀n,n∈l↔∃l',ls[n]?=some l'/\m∈l'
theorem IY(k n:Nat)(x:Str)(j:Nat)(c:Int):run bq (k+2) "_law_is_fact" [Vv n x j c]=some (.val (.bl true)):=by
 rw[yO,aV];have w:∀{i:Int} {m:Int},af (rd 0) (cK (.int i)) aH [.val (Vv n x j c)]=some (.int m)->aD (aR 1 (run bq (k+1) "_law_whole")) (aa (af (rd 0) (cK (.int i)) aH) ai) [.val (Vv n x j c)]=some (.bl true):=λh=>dM (cA h rfl) rfl (QR k _) rfl
 refine dt (sq (iF (Vw (nB (bT (b:=true) rfl)) (Vw (bT (b2 (x:=.int 4) (y:=.int 4) rfl rfl rfl)) (nB (bT (b:=true) rfl)))) rfl) (rS ?_));exact(GI (w (i:=0) (m:=(n:Int)) rfl) λ_=>GI (w (i:=2) (m:=(j:Int)) rfl) λ_=>w (i:=3) (m:=c) rfl)
section
variable {X:List Str} {Bd N:Nat} {as:List (Nat×c8)} {ls ah:List (List Nat)} {told:fD} {P I:PV}
theorem GV(c:eF)(d:Str->Ob->ay->cH):∀(p3 pre:fD) (acc:List (List (Str×Nat))) (x7 x8 x9 lG:Ent),((pre++p3).map (·.1)).Nodup->(∀t∈p3,t.1∈kU as.length X Bd)->acc.length=as.length->(∀ns∈acc,ns.length<=pre.length)->pre.length+p3.length<=6000 ->
  ∃ka Wn Cc Cd ZE,eG (cC 4 (aw (ak 7) (aw (ak 8) (aw (ak 9) (aw (ak 10) cx))))) (nj c d) (p3.map toldP) (LR P I as ls told (.cn (.t (kn pre))) (.cn (.l (oQ pP acc))) x7 x8 x9 lG .un)=some (.nx (LR P I as ls told (.cn (.t (kn (pre++p3)))) (.cn (.l (oQ pP ka))) Wn Cc Cd ZE .un)) /\
   ka.length=as.length/\(∀m x j,IV ka m (x,j)->IV acc m (x,j)\/kF m x j∈p3.map (·.1))/\([x7,x8,x9,lG].all (fu true)=true->[Wn,Cc,Cd,ZE].all (fu true)=true)
 | [],pre,acc,x7,x8,x9,lG,_,_,hl,_,_=>⟨acc,x7,x8,x9,lG,by rw[gG];rfl,hl,λ_ _ _ h=>.inl h,id⟩
 | (f,c')::p3,pre,acc,x7,x8,x9,lG,hn,hU,hl,hc,hz=>by
  obtain⟨n,x,j,h1,_,_,rfl⟩:=qf.mp (hU _ bo);rw[bt]at hz;have aei:kF n x j∉pre.map (·.1):=λz=>by
   rw[cM,CI]at hn;exact hn.2.2 _ z _ bo rfl
  have WG:((pre++[(kF n x j,c')]++p3).map (·.1)).Nodup:=by rw[gk];exact hn
  obtain⟨a1,a2⟩:=GL (j:=n) (n:=(x,j)) hc;obtain⟨ka,y7,y8,y9,y10,e1,e2,e3,e4⟩:=GV c d p3 (pre++[(kF n x j,c')]) (QV acc n (x,j)) (.val (iN n)) (.val (.str x)) (.val (iN j)) (.val (.int c')) WG (λt ht=>hU t (bz _ ht)) (by rw[a1,hl]) (λns h=>by have:=a2 ns h;rw[bF];exact this) (by rw[bF];show pre.length+1+p3.length<=6000;lia)
  refine⟨ka,y7,y8,y9,y10,?_,e2,λm x' j' h=>?_,λ_=>e4 rfl⟩
  ·rw[gk]at e1;refine fC (eM:=LR P I as ls told (.cn (.t (kn pre))) (.cn (.l (oQ pP acc))) (.val (iN n)) (.val (.str x)) (.val (iN j)) (.val (.int c')) .un) rfl ?_ e1;unfold nj;have dD:eV (b6 cJ (aa (rd 2) ai)) (dX none (LR P I as ls told (.cn (.t (kn pre))) (.cn (.l (oQ pP acc))) (.val (iN n)) (.val (.str x)) (.val (iN j)) (.val (.int c')) .un))=some (.int (as.length:Int)):=zc (bV (as:=[.ao (as.map eN)]) (cA rfl rfl) (by rw[oz,aB])) rfl
   have hi:fP (gP (toB (chain (kI 0) (rd 7) (eV (b6 cJ (aa (rd 2) ai))) O7 Jp))) (LR P I as ls told (.cn (.t (kn pre))) (.cn (.l (oQ pP acc))) (.val (iN n)) (.val (.str x)) (.val (iN j)) (.val (.int c')) .un)=some false:=by
    refine(nB (bT (Vu (f:=0) (j:=n) (g:=as.length) rfl rfl dD))).trans ?_;rw[gp (gr n),gp h1];rfl
   exact sq (iF hi rfl) (sq (QZ (n:=n) (x:=x) (j:=j) c' rfl (tV3 rfl rfl rfl) rfl aei (by lia) rfl) (GN (e:=pP) (acc:=acc) (j:=n) (n:=(x,j)) rfl rfl (by rw[Zs];rfl) rfl rfl (by lia) hc (by lia)))
  ·rcases e3 m x' j' h with z | z
   ·rcases(M8 (by lia) _ _ _).mp z with w | ⟨w1,w2⟩
    ·exact .inl w
    ·cases w1;subst w2;exact .inr bo
   ·exact .inr (bz _ z)
theorem GW(c:eF)(d:Str->Ob->ay->cH){n:Nat}{q:Nat×c8}(hq:as[n]?=some q)(x6 lG wM:Ent):∀(ps:List (Str×Nat)) (x8 x9:Ent),(∀x j,(x,j)∈ps->takes as n x=false->kF n x j∈told.map (·.1)) ->
  ∃Cc Cd,eG (cC 2 (aw (ak 8) (aw (ak 9) cx))) (ni c d) (ps.map pP) (LR P I as ls told (.cn (.t (kn told))) x6 (.val (iN n)) x8 x9 lG wM)=some (.nx (LR P I as ls told (.cn (.t (kn told))) x6 (.val (iN n)) Cc Cd lG wM))
 | [],x8,x9,_=>⟨x8,x9,rfl⟩
 | (x,j)::ps,x8,x9,h=>by
  obtain⟨Cc,Cd,e⟩:=GW c d hq x6 lG wM ps (.val (.str x)) (.val (iN j)) λx' j' h'=>h x' j' (bz _ h')
  refine⟨Cc,Cd,fC (eM:=LR P I as ls told (.cn (.t (kn told))) x6 (.val (iN n)) (.val (.str x)) (.val (iN j)) lG wM) rfl ?_ e⟩;unfold ni;refine iF ?_ rfl;have e1:toB (af (af (af (rd 2) (rd 7) aH) (kI 6) aH) (rd 8) rm) (dX none (LR P I as ls told (.cn (.t (kn told))) x6 (.val (iN n)) (.val (.str x)) (.val (iN j)) lG wM))=some (!takes as n x):=by
   unfold takes;rw[hq];exact bT (b2 (x:=.str q.2.k) (y:=.str x) (b2 (b2 (x:=.ao (as.map eN)) (y:=.int (n:Int)) rfl rfl (dw (v:=eN q) (by rw[cm,hq];rfl))) rfl rfl) rfl rF)
  refine(GJ (c:=false) e1 λz=>?_).trans (by rw[Bool.and_false])
  exact EJ (n:=n) (x:=x) (j:=j) (tV3 rfl rfl rfl) rfl (h x j bo (by simpa using z))
theorem GX(c:eF)(d:Str->Ob->ay->cH){n:Nat}{q:Nat×c8}(hq:as[n]?=some q)(acc:List (List (Str×Nat)))(lG:Ent):∀(l:List Nat) (x8 x9 wM:Ent),(∀m∈l,m<acc.length)->(∀m∈l,∀x j,IV acc m (x,j)->takes as n x=false->kF n x j∈told.map (·.1)) ->
  ∃Cc Cd EK,eG (ak 11) (uq c d) (l.map iN) (LR P I as ls told (.cn (.t (kn told))) (.val (.ao (acc.map lP))) (.val (iN n)) x8 x9 lG wM)=some (.nx (LR P I as ls told (.cn (.t (kn told))) (.val (.ao (acc.map lP))) (.val (iN n)) Cc Cd lG EK))
 | [],x8,x9,wM,_,_=>⟨x8,x9,wM,rfl⟩
 | m::l,x8,x9,wM,hm,h=>by
  obtain⟨ps,hp⟩:∃ps,acc[m]?=some ps:=⟨_,dG (hm m bo)⟩
  obtain⟨y8,y9,e1⟩:=GW (P:=P) (I:=I) (ls:=ls) (told:=told) c d hq (.val (.ao (acc.map lP))) lG (.val (iN m)) ps x8 x9 λx j hx=>h m bo x j ⟨ps,hp,hx⟩
  obtain⟨Cc,Cd,EK,e2⟩:=GX c d hq acc lG l y8 y9 (.val (iN m)) (λm' h'=>hm m' (bz _ h')) λm' h'=>h m' (bz _ h')
  refine⟨Cc,Cd,EK,fC (eM:=LR P I as ls told (.cn (.t (kn told))) (.val (.ao (acc.map lP))) (.val (iN n)) x8 x9 lG (.val (iN m))) rfl ?_ e2⟩;exact fS (sV (b2 (x:=.ao (acc.map lP)) (y:=.int (m:Int)) rfl rfl (dw (v:=lP ps) (by rw[cm,hp];rfl))) rfl) e1
theorem GY(k:Nat)(hB:Bd<=3)(hA:∀q∈as,nq X Bd q.2)(hH:EI X as)(H:QU ls N)(hN:as.length=N)(hT:∀f∈vp as 0 as,f∈told.map (·.1)){acc:List (List (Str×Nat))}(hl:acc.length=as.length)(hn:∀(n:Nat) (l:List Nat),ls[n]?=some l->∀m∈l,∀x j,IV acc m (x,j)->takes as n x=false->kF n x j∈told.map (·.1))(lG:Ent):∀(L:List Nat) (x7 x8 x9 wM:Ent),(∀n∈L,n<as.length) ->
  ∃Wn Cc Cd EK,eG (ak 7) (iR (run bq (k+1)) (q9 bq (k+1))) (L.map fun(i:Nat)=>.int (0+(i:Int))) (LR P I as ls told (.cn (.t (kn told))) (.val (.ao (acc.map lP))) x7 x8 x9 lG wM)=some (.nx (LR P I as ls told (.cn (.t (kn told))) (.val (.ao (acc.map lP))) Wn Cc Cd lG EK))
 | [],x7,x8,x9,wM,_=>⟨x7,x8,x9,wM,rfl⟩
 | n::L,x7,x8,x9,wM,h=>by
  have fg:=h n bo;obtain⟨q,hq⟩:∃q,as[n]?=some q:=⟨_,dG fg⟩
  obtain⟨l,hln⟩:∃l,ls[n]?=some l:=⟨_,dG (by rw[H.len];lia)⟩
  obtain⟨y8,y9,y11,e1⟩:=GX (P:=P) (I:=I) (ls:=ls) (told:=told) (run bq (k+1)) (q9 bq (k+1)) hq acc lG l x8 x9 wM (λm hm=>by have:=(H.ok l (cS hln)).2 m hm;lia) (hn n l hln)
  obtain⟨Wn,Cc,Cd,EK,e2⟩:=GY k hB hA hH H hN hT hl hn lG L (.val (iN n)) y8 y9 y11 λm hm=>h m (bz _ hm)
  refine⟨Wn,Cc,Cd,EK,?_⟩;rw[bX,show(PV.int (0+(n:Int)))=iN n by rw[jW];rfl]
  refine fC (eM:=LR P I as ls told (.cn (.t (kn told))) (.val (.ao (acc.map lP))) (.val (iN n)) x8 x9 lG wM) rfl ?_ e2;unfold iR;have hi:fP (gP (toB (mZ (HX 2 (q9 bq (k+1) "_law_itself")) 5 (rd 2) (rd 7)))) (LR P I as ls told (.cn (.t (kn told))) (.val (.ao (acc.map lP))) (.val (iN n)) x8 x9 lG wM)=some false:=nB (bT (IX (o:=.dct (.t (kn told))) rfl rfl rfl (Nd k hB hA hH hq hT)));exact sq (iF hi rfl) (fS (sV (b2 (x:=.ao (ls.map nT)) (y:=.int (n:Int)) rfl rfl (dw (v:=nT l) (by rw[cm,hln];rfl))) rfl) e1)
theorem Nf(k:Nat){fs:ay}{i:Int}(hAc:run bq (k+2) "acts" [.aC fs,.int i]=some (.own (as.map eN)))(hNx:run bq (k+2) "nexts" [.aC fs,.int i]=some (.own (ls.map nT))) (hNe:run bq (k+2) "needs" [.aC fs,.int i]=some (.val (.ao (told.map toldP))))
  (hB:Bd<=3) (hA:∀q∈as,nq X Bd q.2) (hH:EI X as) (H:QU ls N) (hN:as.length=N) (R7:ah.length=N) (hah:aeh ls ah) (hU:∀t∈told,t.1∈kU N X Bd) (Qc:(told.map (·.1)).Nodup) (hT:∀f∈vp as 0 as,f∈told.map (·.1)) (hC:∀n x j l m,kF n x j∈told.map (·.1)->ah[n]?=some l->m∈l->takes as m x=false->kF m x j∈told.map (·.1)) (hz:told.length<=6000) :
  run bq (k+3) "_law_right" [.aC fs,.int i]=some (.val (.bl true)):=by
 subst hN;have Ou:=H.few;rw[Ew,aV];have ael:∀t∈told,∃n x j,t.1=kF n x j:=λt ht=>by
  obtain⟨n,x,j,_,_,_,e⟩:=qf.mp (hU t ht);exact⟨n,x,j,e⟩
 have ZF:er [none,none] (cF (rd 4)) (ak 1) (gP (toB (aD (aR 1 (run bq (k+2) "_law_is_fact")) (aa (rd 1) ai)))) (rd 1) (dX none (LR (.aC fs) (.int i) as ls told .un .un .un .un .un .un .un))=some []:=by
  refine(cT (ps:=told.map toldP) rfl (by rw[aB];lia) (eS (f:=λ_=>false) (G:=toldP) λt ht=>?_)).trans ?_
  ·obtain⟨n,x,j,e⟩:=ael t ht;obtain⟨f,c⟩:=t;simp only at e;subst e;show(ak 1 (Vv n x j c) [Ent.un,.un]).bind _=_;rw[show ak 1 (Vv n x j c) [Ent.un,.un]=some [Ent.un,.val (Vv n x j c)]from rfl,aQ,show gP (toB (aD (aR 1 (run bq (k+2) "_law_is_fact")) (aa (rd 1) ai))) [Ent.un,.val (Vv n x j c)]=some false from nB (bT (dM (cA rfl rfl) rfl (IY k n x j c) rfl))]
   rfl
  ·rw[List.filter_eq_nil_iff.mpr λ_ _ z=>by cases z]
   rfl
 have a0:fJ (fP (Fq (gP (toB (Jq .list (rd 4)))) (toB (af (bG (er [none,none] (cF (rd 4)) (ak 1) (gP (toB (aD (aR 1 (run bq (k+2) "_law_is_fact")) (aa (rd 1) ai)))) (rd 1))) (bG (cB ai)) rm)))) (bC (cK (.bl false))) (λρ=>some (.nx ρ)) (LR (.aC fs) (.int i) as ls told .un .un .un .un .un .un .un)=some (.nx (LR (.aC fs) (.int i) as ls told .un .un .un .un .un .un .un)):=by
  refine iF ?_ rfl;exact Vw (nB (bT (b:=true) rfl)) (bT (b2 (x:=.ao []) (y:=.ao []) (fF ZF) (fF rfl) rfl))
 have hc:dB [none,none] (cF (rd 2)) (ak 1) (λ_=>some PV.cE) [.un,.un,.val (.ao (as.map eN)),.un,.un,.un,.un,.un,.un,.un,.un,.un]=some ((as.map eN).map λ_=>.cE):=cV (ps:=as.map eN) rfl (by rw[aB];lia) (t9 λ_ _=>rfl)
 have a1:yb [none,none] (ak 1) 6 2 (LR (.aC fs) (.int i) as ls told (.cn (.t [])) .un .un .un .un .un .un)=some (.nx (LR (.aC fs) (.int i) as ls told (.cn (.t (kn []))) (.cn (.l (oQ pP (List.replicate as.length [])))) .un .un .un .un .un)):=by
  show(if((dB [none,none] (cF (rd 2)) (ak 1) (λ_=>some PV.cE) [Ent.un,.un,.val (.ao (as.map eN)),.un,.un,.un,.un,.un,.un,.un,.un,.un]).isSome&&decide (6<12))=true then some (nv.nx (LR (.aC fs) (.int i) as ls told (.cn (.t [])) (.cn (.l (List.replicate (as.map eN).length []))) .un .un .un .un .un))else none)=_
  rw[hc,aB];unfold oQ;rw[List.map_replicate];rfl
 obtain⟨acc,x7,x8,x9,lG,e1,e2,e3,e4⟩:=GV (P:=.aC fs) (I:=.int i) (ls:=ls) (told:=told) (as:=as) (X:=X) (Bd:=Bd) (run bq (k+2)) (q9 bq (k+2)) told [] (List.replicate as.length []) .un .un .un .un (by simpa using Qc) hU (jn ..) (λns hn=>by rw[(Cy.mp hn).2];simp) (by simpa using hz)
 rw[gS]at e1;have a2:fJ (fP (toB (af (LU 5) (eV (b6 cJ (aa (rd 4) ai))) rm))) (bC (cK (.bl false))) (λρ=>some (.nx ρ)) (LR (.aC fs) (.int i) as ls told (.cn (.t (kn told))) (.cn (.l (oQ pP acc))) x7 x8 x9 lG .un)=some (.nx (LR (.aC fs) (.int i) as ls told (.cn (.t (kn told))) (.cn (.l (oQ pP acc))) x7 x8 x9 lG .un)):=by
  refine iF ?_ rfl;refine bT (b2 (x:=.int (told.length:Int)) (y:=.int (told.length:Int)) ?_ (zc (bV (as:=[.ao (told.map toldP)]) (cA rfl rfl) (by rw[oz,aB])) rfl) ?_)
  ·show some (PV.int ((kn told).length:Int))=_;unfold kn;rw[aB]
  ·rw[QG,gp rfl];rfl
 have hn:∀(n:Nat) (l:List Nat),ls[n]?=some l->∀m∈l,∀x j,IV acc m (x,j)->takes as n x=false->kF n x j∈told.map (·.1):=λn l hl m hm x j hi ht=>by
  rcases e3 m x j hi with⟨ns,z,w⟩ | z
  ·rw[jm]at z;split at z
   ·cases z;cases w
   ·cases z
  ·obtain⟨l',hl'⟩:∃l',ah[m]?=some l':=⟨_,dG (by rw[R7];exact(H.ok l (cS hl)).2 m hm)⟩
   exact hC m x j l' n z hl' (((hah m l' hl').2 n).mpr ⟨l,hl,hm⟩) ht
 obtain⟨y7,y8,y9,y11,e5⟩:=GY (P:=.aC fs) (I:=.int i) (k+1) hB hA hH H rfl hT e2 hn lG (List.range as.length) x7 x8 x9 .un λn hn=>e9.mp hn
 have hr:gF (aa (eV (b6 cJ (aa (rd 2) ai))) ai) (LR (.aC fs) (.int i) as ls told (.cn (.t (kn told))) (.val (.ao (acc.map lP))) x7 x8 x9 lG .un)=some ((List.range (as.length:Int).toNat).map fun(i:Nat)=>PV.int (0+(i:Int))):=hJ (j:=(as.length:Int)) (cA (zc (bV (as:=[.ao (as.map eN)]) (cA rfl rfl) (by rw[oz,aB])) rfl) rfl) (by lia)
 rw[fH]at hr;have a3:DR 6 (eZ (gF (aa (eV (b6 cJ (aa (rd 2) ai))) ai)) (ak 7) (iR (run bq (k+2)) (q9 bq (k+2)))) (LR (.aC fs) (.int i) as ls told (.cn (.t (kn told))) (.cn (.l (oQ pP acc))) x7 x8 x9 lG .un)=some (.nx (LR (.aC fs) (.int i) as ls told (.cn (.t (kn told))) (.val (.ao (acc.map lP))) y7 y8 y9 lG y11)):=by
  have e4:=e4 rfl;simp only[fI,pw,pe,aO]at e4;show(if(LR (.aC fs) (.int i) as ls told (.cn (.t (kn told))) .un x7 x8 x9 lG .un).all (fu true)=true then eZ (gF (aa (eV (b6 cJ (aa (rd 2) ai))) ai)) (ak 7) (iR (run bq (k+2)) (q9 bq (k+2))) (LR (.aC fs) (.int i) as ls told (.cn (.t (kn told))) (.val (.ao ((oQ pP acc).map .ao))) x7 x8 x9 lG .un)else none)=_
  rw[if_pos (by simp only[LR,fI,pw,pe,e4.1,e4.2.1,e4.2.2.1,e4.2.2.2];rfl),show((oQ pP acc).map PV.ao)=acc.map lP from gq ..]
  exact fS hr e5
 refine dt (sq (aS (dM (cA rfl (cA rfl rfl)) rfl hAc rfl) rfl) (sq (aS (dM (cA rfl (cA rfl rfl)) rfl hNx rfl) rfl) (sq (aS (dM (cA rfl (cA rfl rfl)) rfl hNe rfl) rfl) (sq a0 (sq (fA:=LR (.aC fs) (.int i) as ls told (.cn (.t [])) .un .un .un .un .un .un) rfl (sq a1 (sq (fS (sV rfl rfl) e1) (sq a2 (sq a3 (rS rfl))))))))))
end
structure qR (n j:Nat) (p:PV):Prop where
 ok:∃s,aH p (.int 0)=some (.str s)/\((s==(Str.ofString "go"))=true->∃m:Nat,aH p (.int 1)=some (iN m)/\m<n)/\((s==(Str.ofString "if"))=true->∃m:Nat,aH p (.int 3)=some (iN m)/\m<n)/\((s==(Str.ofString "give"))=false->(s==(Str.ofString "go"))=false->j+1<n)
def two(a b:Int):List Int:=if b<a then [b,a]else if a<b then [a,b]else [a]
theorem Ng(a b:Int):om (pT (λi=>[a,b].getD i 0) 2)=two a b:=by
 have e:pT (λi=>[a,b].getD i 0) 2=if b=a then [a]else [a,b]:=by
  show mw (mw [] a) b=_;unfold mw;by_cases h:b=a
  ·simp[h]
  ·simp[h]
 rw[e];unfold two;by_cases h1:b<a
 ·rw[if_pos h1,if_neg (by lia)]
  show(if a<=b then [a,b]else [b,a])=_
  rw[if_neg (by lia)]
 ·rw[if_neg h1];by_cases h2:a<b
  ·rw[if_pos h2,if_neg (by lia)]
   show(if a<=b then [a,b]else [b,a])=_
   rw[if_pos (by lia)]
  ·rw[if_neg h2,if_pos (by lia)]
   rfl
def EL(a b:Nat):List Nat:=if b<a then [b,a]else if a<b then [a,b]else [a]
theorem ZG(a b:Nat):two (a:Int) (b:Int)=(EL a b).map λn:Nat=>(n:Int):=by
 unfold two EL;by_cases h1:b<a
 ·rw[if_pos (by lia),if_pos h1];rfl
 ·rw[if_neg (by lia),if_neg h1]
  by_cases h2:a<b
  ·rw[if_pos (by lia),if_pos h2];rfl
  ·rw[if_neg (by lia),if_neg h2];rfl
theorem IZ(k:Nat){R:ay}{n:Nat}(hn:n<=60)(hR:R.length=n)(h:∀(j:Nat) (p:PV),R[j]?=some p->qR n j p)(i:Nat)(hi:i<n):∃l:List Nat,run bq (k+1) "row_nexts" [.aC R,.int (i:Int)]=some (.val (nT l))/\l.length<=2/\∀m∈l,m<n:=by
 obtain⟨p,hp⟩:∃p,R[i]?=some p:=⟨_,dG (by lia)⟩
 have ha:atI R (i:Int)=some p:=dw hp;obtain⟨s,h0,hgo,hif,hot⟩:=(h i p hp).ok;rw[jB,aV];have a1:bx (af (rd 0) (rd 1) aH) (ak 2) [.val (.aC R),.val (.int (i:Int)),.un]=some (.nx [.val (.aC R),.val (.int (i:Int)),.val p]):=aS (b2 (x:=.aC R) (y:=.int (i:Int)) rfl rfl ha) rfl;have w:=λv:Str=>(bT (b2 (b2 (x:=p) (y:=.int 0) rfl rfl h0) rfl dJ):toB (af (af (rd 2) (kI 0) aH) (kS v) eu) [.val (.aC R),.val (.int (i:Int)),.val p]=some (s==v))
 have wg:=w "give";have wo:=w "go";have wi:=w "if"
 have k1:af (rd 1) (kI 1) bQ [.val (.aC R),.val (.int (i:Int)),.val p]=some (iN (i+1)):=b2 rfl rfl iL;cases qg:(s==(Str.ofString "give"))with
 | true =>
  rw[qg]at wg;exact⟨[],dt (sq a1 (kz (iT wg (rS rfl)))),by simp,λ_ z=>nomatch z⟩
 | false =>
  rw[qg]at wg;cases qo:(s==(Str.ofString "go"))with
  | true =>
   rw[qo]at wo;obtain⟨m,hm,hmn⟩:=hgo qo;have x1:af (rd 2) (kI 1) aH [.val (.aC R),.val (.int (i:Int)),.val p]=some (iN m):=b2 (x:=p) rfl rfl hm;refine⟨[m],dt (sq a1 (sq (iF wg rfl) (kz (iT wo (rS (tU (ps:=[iN m]) (cA x1 rfl) (by simp))))))),by simp,λq hq=>?_⟩
   rw[cu]at hq
   lia
  | false =>
   rw[qo]at wo;have hj:=hot qg qo;cases qi:(s==(Str.ofString "if"))with
   | true =>
    rw[qi]at wi;obtain⟨m,hm,hmn⟩:=hif qi;have x3:af (rd 2) (kI 3) aH [.val (.aC R),.val (.int (i:Int)),.val p]=some (iN m):=b2 (x:=p) rfl rfl hm;have hs:Lm (aa (af (rd 1) (kI 1) bQ) (aa (af (rd 2) (kI 3) aH) ai)) [.val (.aC R),.val (.int (i:Int)),.val p]=some (.ao ((EL (i+1) m).map iN)):=by
     unfold Lm;rw[cA k1 (cA x3 rfl),aQ,show je [iN (i+1),iN m]=some [((i+1:Nat):Int),(m:Int)]from rfl,aQ]
     rw[if_pos ⟨by simp,by
      simp only[fI,pw,pe,aO,jo];exact⟨by lia,by lia⟩⟩]
     rw[show [((i+1:Nat):Int),(m:Int)].length=2 from rfl,Ng,ZG,gq]
     rfl
    refine⟨EL (i+1) m,dt (sq a1 (sq (iF wg rfl) (sq (iF wo rfl) (kz (iT wi (rS (bV (as:=[.ao ((EL (i+1) m).map iN)]) (cA hs rfl) rfl))))))),?_,λq hq=>?_⟩
    ·unfold EL;split
     ·simp
     ·split<;>simp
    ·unfold EL at hq;split at hq
     ·simp at hq;lia
     ·split at hq
      ·simp at hq;lia
      ·simp at hq;lia
   | false =>
    rw[qi]at wi;refine⟨[i+1],dt (sq a1 (sq (iF wg rfl) (sq (iF wo rfl) (sq (iF wi rfl) (rS (tU (ps:=[iN (i+1)]) (cA k1 rfl) (by simp))))))),by simp,λq hq=>?_⟩
    rw[cu]at hq
    lia
theorem Q0{R:ay}{n:Nat}(hn:n<=60)(hR:R.length=n)(h:∀(j:Nat) (p:PV),R[j]?=some p->qR n j p):∃nx:Nat->List Nat,∀k,y0 (run bq (k+1)) (.aC R) n nx:=by
 have e:∀i:Nat,∃l:List Nat,i<n->run bq (0+1) "row_nexts" [.aC R,.int (i:Int)]=some (.val (nT l))/\l.length<=2/\∀m∈l,m<n:=λi=>by
  by_cases hi:i<n
  ·obtain⟨l,hl⟩:=IZ 0 hn hR h i hi;exact⟨l,λ_=>hl⟩
  ·exact⟨[],λz=>absurd z hi⟩
 obtain⟨nx,hx⟩:=Classical.axiomOfChoice e;refine⟨nx,λk j hj=>?_⟩
 have s:run bq (k+1) "row_nexts" [.aC R,.int (j:Int)]=run bq (0+1) "row_nexts" [.aC R,.int (j:Int)]:=by
  rw[jB,jB];rfl
 rw[s];exact hx j hj
def ZH(X:List Str)(as:List c8):Prop:=(∃a∈as,(a.w==(Str.ofString "hand"))=true)->(∀a∈as,GP a=true->a.k∈X)/\∀a∈as,(a.w==(Str.ofString "hand"))=true->a.t=false
structure Q1 (X:List Str) (Bd:Nat) (fs:ay) (I:Int) (nm res:PV) (R1 R2:List Rk) (L:List (PV×List c8)):Prop where
 at_:atI fs I=some (Ex nm res (.aC (L.map (·.1))) R1 R2)
 made:∀K,12<=K->∀q∈L,IM (run bq K) (Ex nm res (.aC (L.map (·.1))) R1 R2) q.1 q.2
 pos:0<L.length
 few:L.length<=20
 six:∀q∈L,q.2.length<=6
 row:∀(j:Nat) (p:PV),(L.map (·.1))[j]?=some p->qR L.length j p
 acts:∀q∈L,∀a∈dS q.2,nq X Bd a
 hand:∀q∈L,ZH X q.2
 bd:Bd<=3
 all:6*L.length*(X.length*Bd)<5000
theorem BQ:∀(L:List (List c8)) (i:Nat),(∀a∈L,a.length<=6)->(eQ i L).length<=6*L.length/\L.length<=(eQ i L).length
 | [],i,_=>by simp[eQ]
 | as::L,i,h=>by
  have h1:=h as bo;have h2:=BQ L (i+1) λa ha=>h a (bz _ ha)
  have hor:(dS as).length<=6/\1<=(dS as).length:=by
   cases as with
   | nil=>simp[dS]
   | cons a r=>exact⟨h1,by simp[dS]⟩
  simp only[eQ,bF,aB,bt]
  lia
theorem BR:∀(L:List (List c8)) (i:Nat),∀q∈eQ i L,∃as∈L,q.2∈dS as
 | [],_,_,h=>nomatch h
 | as::L,i,q,h=>by
  rw[eQ,cW]at h;rcases h with h | h
  ·obtain⟨a,ha,rfl⟩:=bN.mp h;exact⟨as,bo,ha⟩
  ·obtain⟨bs,hb,hq⟩:=BR L (i+1) q h;exact⟨bs,bz _ hb,hq⟩
theorem zd:∀(L:List (List c8)) (i:Nat),∀q∈eQ i L,∃as,L[q.1-i]?=some as/\i<=q.1/\q.2∈dS as
 | [],_,_,h=>nomatch h
 | as::L,i,q,h=>by
  rw[eQ,cW]at h;rcases h with h | h
  ·obtain⟨a,ha,rfl⟩:=bN.mp h;exact⟨as,by show(as::L)[i-i]?=_;rw[Nat.sub_self];rfl,bc _,ha⟩
  ·obtain⟨bs,h1,h2,h3⟩:=zd L (i+1) q h;refine⟨bs,?_,by lia,h3⟩
   rw[show q.1-i=(q.1-(i+1))+1 by lia]
   exact h1
theorem ZI{X:List Str}{L:List (List c8)}(h:∀as∈L,ZH X as):EI X (eQ 0 L):=by
 have key:∀q∈eQ 0 L,(q.2.w==(Str.ofString "hand"))=true->∃as∈L,(∃a∈as,(a.w==(Str.ofString "hand"))=true)/\∀p∈eQ 0 L,p.1=q.1->p.2∈as:=λq hq hw=>by
  obtain⟨as,h1,_,h3⟩:=zd L 0 q hq;cases as with
  | nil =>
   simp only[dS,cu]at h3;rw[h3]at hw;exact absurd (show(Str.ofString _==Str.ofString _)=true from hw) (by decide +kernel)
  | cons a r =>
   refine⟨a::r,cS h1,⟨q.2,h3,hw⟩,λp hp e=>?_⟩
   obtain⟨bs,g1,_,g3⟩:=zd L 0 p hp;rw[e,h1]at g1;cases g1;exact g3
 refine⟨λq hq hw p hp e hl=>?_,λq hq hw=>?_⟩
 ·obtain⟨as,ha,hh,hm⟩:=key q hq hw;exact(h as ha hh).1 p.2 (hm p hp e) hl
 ·obtain⟨as,ha,hh,hm⟩:=key q hq hw;exact(h as ha hh).2 q.2 (hm q hq rfl) hw
abbrev w12:List Str:=["put","set","fill","copy","move","drop","lend","lend","lend","lend","call","call"]
abbrev w19:List Str:=["put","set","fill","copy","move","drop","lend","lend","lend","lend","call","call","call","if","if","go","say","put","give"]
theorem Nh(k:Nat)(hk:20<=k){X:List Str}{Bd:Nat}{fs:ay}{I:Int}{nm res:PV}{R1 R2:List Rk}{L:List (PV×List c8)}(P:Q1 X Bd fs I nm res R1 R2 L):run bq k "_law_right" [.aC fs,.int I]=some (.val (.bl true)):=by
 obtain⟨k,rfl⟩:∃m,k=m+13:=⟨k-13,by lia⟩
 have dD:((L.map (·.2)).length)=L.length:=aB ..;obtain⟨n1,n2⟩:=BQ (L.map (·.2)) 0 λa ha=>by
  obtain⟨q,hq,rfl⟩:=bN.mp ha;exact P.six q hq
 rw[dD]at n1 n2;have hp:=P.pos;have hf:=P.few;obtain⟨nx,hnx⟩:=Q0 (R:=L.map (·.1)) (n:=L.length) (by lia) (aB ..) P.row
 have Ni:∀m,13<=m->run bq m "acts" [.aC fs,.int I]=some (.own (yW 0 (L.map (·.2)))):=λm hm=>by
  obtain⟨m,rfl⟩:∃q,m=q+1:=⟨m-1,by lia⟩
  exact Vq m P.at_ rfl (P.made m (by lia)) (by lia)
 have EM:∀m,14<=m->run bq m "nexts" [.aC fs,.int I]=some (.own ((oH (L.map (·.2)) nx).map nT))/\QU (oH (L.map (·.2)) nx) (eQ 0 (L.map (·.2))).length:=λm hm=>by
  obtain⟨m,rfl⟩:∃q,m=q+2:=⟨m-2,by lia⟩
  obtain⟨h1,h2,h3⟩:=QT (m+1) P.at_ (Ni (m+1) (by lia)) (by rw[dD];exact hnx m) (by lia)
  exact⟨h1,⟨h2,h3,by lia,by lia⟩⟩
 have H:=(EM 14 (by lia)).2
 have hA:∀q∈eQ 0 (L.map (·.2)),nq X Bd q.2:=λq hq=>by
  obtain⟨as,ha,hq⟩:=BR _ 0 q hq;obtain⟨p,hp,rfl⟩:=bN.mp ha;exact P.acts p hp q.2 hq
 have hH:EI X (eQ 0 (L.map (·.2))):=ZI λas ha=>by
  obtain⟨p,hp,rfl⟩:=bN.mp ha;exact P.hand p hp
 obtain⟨ah,a1,a2,a3⟩:=QW H (k+10);have nS:(eQ 0 (L.map (·.2))).length*(X.length*Bd)<5000:=jT (Nat.mul_le_mul_right _ n1) P.all;have haN:∀(m:Nat) (l:List Nat),ah[m]?=some l->l.length<=300/\∀n,n∈l->n<(eQ 0 (L.map (·.2))).length:=λm l hl=>⟨(a3 m l hl).1,λn hn=>by
  obtain⟨l',h1,_⟩:=((a3 m l hl).2 n).mp hn;have:=(dF.mp h1).1;rw[H.len]at this;exact this⟩
 obtain⟨told,t1,t2,t4,t5,t6⟩:=QY (as:=eQ 0 (L.map (·.2))) (X:=X) (Bd:=Bd) (k+7) (by rw[<-oG];exact Ni (k+7+4) (by lia)) (EM (k+7+4) (by lia)).1 a1 a2 haN hA hH rfl H.few P.bd nS
 have htl:told.length<5000:=by
  have:=p4 (told.map (·.1)) (kU (eQ 0 (L.map (·.2))).length X Bd) t4 λf hf=>by
   obtain⟨t,ht,rfl⟩:=bN.mp hf;exact t2 t ht
  rw[aB,EH]at this
  lia
 have hac:=Ni (k+12) (by lia)
 rw[oG]at hac;exact Nf (k+10) hac (EM (k+12) (by lia)).1 t1 P.bd hA hH H rfl a2 a3 t2 t4 t5 t6 (by lia)
theorem VC(k:Nat)(hk:20<=k)(ns:List Int){fs:ay}(hM:run bq k "_law_program" [Gi ns,.int 16,.ao (w19.map .str)]=some (.val (.aC fs)))(h:∀I:Int,I=0\/I=1\/I=2->∃X nm res R1 R2 L,Q1 X 3 fs I nm res R1 R2 L):run bq (k+1) "law" [Gi ns]=some (.val (.bl true)):=by
 have hr:∀I:Int,I=0\/I=1\/I=2->run bq k "_law_right" [.aC fs,.int I]=some (.val (.bl true)):=λI hI=>by
  obtain⟨X,nm,res,R1,R2,L,P⟩:=h I hI;exact Nh k hk P
 rw[QO,aV];refine dt (sq (aS (p:=.ao (w12.map .str)) rfl rfl) (sq (aS (dM (cA rfl (cA rfl (cA (b2 rfl rfl (aL (by simp))) rfl))) rfl hM rfl) rfl) (rS ?_)))
 exact GI (b:=true) (dM (cA rfl (cA rfl rfl)) rfl (hr 1 (.inr (.inl rfl))) rfl) λ_=>GI (b:=true) (dM (cA rfl (cA rfl rfl)) rfl (hr 2 (.inr (.inr rfl))) rfl) λ_=>dM (cA rfl (cA rfl rfl)) rfl (hr 0 (.inl rfl)) rfl
noncomputable def mxA:Nat->Int×Int
 | 0=>(48271,2147483647)
 | 1=>(69621,998244353)
 | 2=>(40692,1000000007)
 | _=>(16807,2147483629)
def I0(c:Int)(i:Nat):Int:=(c%1000000000039+(i:Int))*(mxA i).1%(mxA i).2
theorem oJ(k:Nat)(c:Int){i:Nat}(hi:i<4):run bq (k+1) "_law_mixed" [.int c,.int (i:Int)]=some (.val (.int (I0 c i))):=by
 rw[Ei,aV];have h0:=kJ c (show(1000000000039:Int)≠0 by decide)
 have h1:=rQ c (show(0:Int)<1000000000039 by decide)
 have hm:cj (.int c) (.int 1000000000039)=some (.int (c%1000000000039)):=dE (by decide)
 match i,hi with
 | 0,_=>exact dt (sq (aS (p:=.aC [.int 48271,.int 2147483647]) rfl rfl) (rS (b2 (b2 (b2 (b2 rfl rfl hm) rfl rfl) rfl (ly (by decide))) rfl (dE (by decide)))))
 | 1,_=>exact dt (sq (aS (p:=.aC [.int 69621,.int 998244353]) rfl rfl) (rS (b2 (b2 (b2 (b2 rfl rfl hm) rfl rfl) rfl (ly (by decide))) rfl (dE (by decide)))))
 | 2,_=>exact dt (sq (aS (p:=.aC [.int 40692,.int 1000000007]) rfl rfl) (rS (b2 (b2 (b2 (b2 rfl rfl hm) rfl rfl) rfl (ly (by decide))) rfl (dE (by decide)))))
 | 3,_=>exact dt (sq (aS (p:=.aC [.int 16807,.int 2147483629]) rfl rfl) (rS (b2 (b2 (b2 (b2 rfl rfl hm) rfl rfl) rfl (ly (by decide))) rfl (dE (by decide)))))
 | n+4,h=>lia
abbrev BS:PV:=.str "abcdefghijklmnopqrstuvwxyz"
def VD(B:List Int)(pl q i:Nat):Nat:=cp (B.getD i 0+(q:Int)*(if i=pl then 1 else 0))
def GZ(B:List Int)(pl q:Nat):Str:=gL ((List.range B.length).map (VD B pl q))
section
variable (c:eF) (x0 x1:Ent) (B:List Int) (pl q:Nat)
theorem BU(F:ay)(i:Nat)(hi:i<B.length)(N:List Nat)(hN:N.length<=100)(hq:q<=100):j6 c [x0,x1,.val BS,.val (iN B.length),.val (iN pl),.val (iN i),.val (.ao (B.map .int)),.own F,.val (iN q),.val (.str (gL N))]=some (.nx [x0,x1,.val BS,.val (iN B.length),.val (iN pl),.val (iN i),.val (.ao (B.map .int)),.own F,.val (iN q),.val (.str (gL (N++[VD B pl q i])))]):=by
 unfold j6;have hb:atI (B.map PV.int) (i:Int)=some (.int (B.getD i 0)):=dw (by rw[cm,Cf,dG hi];rfl)
 have he:xP [.bl (decide ((i:Int)=(pl:Int)))]=some (.int (if i=pl then 1 else 0)):=by
  by_cases h:i=pl
  ·rw[gp (by lia),if_pos h];rfl
  ·rw[gn (by lia),if_neg h];rfl
 have hm:jL (.int (q:Int)) (.int (if i=pl then 1 else 0))=some (.int ((q:Int)*(if i=pl then 1 else 0))):=ly (by split<;>decide)
 have hs:bQ (.str (gL N)) (.str (lt (B.getD i 0+(q:Int)*(if i=pl then 1 else 0))))=some (.str (gL (N++[VD B pl q i]))):=by
  rw[MV,Zv,D6,Gv,Gv,pZ (mz (by simp;lia))]
  rfl
 refine aS (b2 (x:=.str (gL N)) rfl (b2 (x:=BS) rfl (b2 (b2 (b2 (x:=.ao (B.map .int)) (y:=.int (i:Int)) rfl rfl hb) (b2 (x:=.int (q:Int)) rfl (bV (cA (b2 (x:=.int (i:Int)) (y:=.int (pl:Int)) rfl rfl ji) rfl) he) hm) iL) rfl (dE (by decide))) (Ip _)) hs) rfl
theorem qS(F:ay)(hq:q<=100):∀(p3 pre:List Nat) (x5:Ent),List.range B.length=pre++p3->B.length<=50->∃vn,eG (ak 5) (j6 c) (p3.map fun(i:Nat)=>PV.int (0+(i:Int))) [x0,x1,.val BS,.val (iN B.length),.val (iN pl),x5,.val (.ao (B.map .int)),.own F,.val (iN q),.val (.str (gL (pre.map (VD B pl q))))]=some (.nx [x0,x1,.val BS,.val (iN B.length),.val (iN pl),vn,.val (.ao (B.map .int)),.own F,.val (iN q),.val (.str (GZ B pl q))])
 | [],pre,x5,e,_=>⟨x5,by unfold GZ;rw[e,gG];rfl⟩
 | i::p3,pre,x5,e,hl=>by
  have hi:i<B.length:=e9.mp (by rw[e];simp)
  have hp:pre.length<=B.length:=by
   have:=dy List.length e;rw[oZ,bF]at this
   lia
  have hb:=BU c x0 x1 B pl q F i hi (pre.map (VD B pl q)) (by rw[aB];lia) hq
  obtain⟨vn,h⟩:=qS F hq p3 (pre++[i]) (.val (iN i)) (by rw[e];simp) hl
  rw[cM]at h;refine⟨vn,?_⟩;rw[bX,jW];exact fC rfl hb h
theorem Ja(F:ay)(hF:F.length<=100)(hq:q<=100)(hl:B.length<=50)(x5 x9:Ent):∃vn,j7 c [x0,x1,.val BS,.val (iN B.length),.val (iN pl),x5,.val (.ao (B.map .int)),.own F,.val (iN q),x9]=some (.nx [x0,x1,.val BS,.val (iN B.length),.val (iN pl),vn,.val (.ao (B.map .int)),.own (F++[.str (GZ B pl q)]),.val (iN q),.val (.str (GZ B pl q))]):=by
 obtain⟨vn,h⟩:=qS c x0 x1 B pl q F hq (List.range B.length) [] x5 rfl hl;refine⟨vn,?_⟩;unfold j7;have e0:bx (kS "") (ak 9) [x0,x1,.val BS,.val (iN B.length),.val (iN pl),x5,.val (.ao (B.map .int)),.own F,.val (iN q),x9]=some (.nx [x0,x1,.val BS,.val (iN B.length),.val (iN pl),x5,.val (.ao (B.map .int)),.own F,.val (iN q),.val (.str (gL []))]):=by
  rw[<-Gu];rfl
 have hr:gF (aa (rd 3) ai) [x0,x1,.val BS,.val (iN B.length),.val (iN pl),x5,.val (.ao (B.map .int)),.own F,.val (iN q),.val (.str (gL []))]=some ((List.range B.length).map fun(i:Nat)=>PV.int (0+(i:Int))):=by
  rw[hJ (j:=(B.length:Int)) rfl (by lia),fH]
 exact sq e0 (sq (fS hr h) (mA (ps:=F) rfl rfl (by lia)))
end
theorem uB(c:eF)(x0 x1:Ent)(B:List Int)(pl:Nat)(hl:B.length<=50):∀(qs:List Nat) (F:ay) (x5 x8 x9:Ent),(∀q∈qs,q<=100)->F.length+qs.length<=100->∃vn Cc Cd,eG (ak 8) (j7 c) (qs.map fun(i:Nat)=>PV.int (0+(i:Int))) [x0,x1,.val BS,.val (iN B.length),.val (iN pl),x5,.val (.ao (B.map .int)),.own F,x8,x9]=some (.nx [x0,x1,.val BS,.val (iN B.length),.val (iN pl),vn,.val (.ao (B.map .int)),.own (F++qs.map λq=>PV.str (GZ B pl q)),Cc,Cd])
 | [],F,x5,x8,x9,_,_=>⟨x5,x8,x9,by simp⟩
 | q::qs,F,x5,x8,x9,hq,hz=>by
  rw[bt]at hz;obtain⟨y5,h⟩:=Ja c x0 x1 B pl q F (by lia) (hq q bo) hl x5 x9
  obtain⟨z5,z8,z9,h2⟩:=uB c x0 x1 B pl hl qs (F++[.str (GZ B pl q)]) y5 (.val (iN q)) (.val (.str (GZ B pl q))) (λr hr=>hq r (bz _ hr)) (by simp;lia)
  refine⟨z5,z8,z9,?_⟩;rw[bX,jW,bX,show F++PV.str (GZ B pl q)::qs.map (λq=>PV.str (GZ B pl q))=F++[PV.str (GZ B pl q)]++qs.map (λq=>PV.str (GZ B pl q)) by simp]
  exact fC rfl h h2
theorem Q2{B:List Int}{pl q q':Nat}(hp:pl<B.length)(h1:q<26)(h2:q'<26)(h:GZ B pl q=GZ B pl q'):q=q':=by
 have h:=wA h;have at_:∀q:Nat,((List.range B.length).map (VD B pl q))[pl]?=some (cp (B.getD pl 0+(q:Int))):=λq=>by
  rw[cm,rP hp];simp[VD]
 have e:=dy (λl=>l[pl]?) h
 simp only[at_]at e;have:=Vk (bM e)
 lia
mutual
theorem G0:∀(s:Sh),∀r∈tab s,0<=r.2.1/\0<=r.2.2.1/\r.2.1+r.2.2.1<=((lv s).length:Int)
 | .num,r,h=>by simp only[tab,cu]at h;subst h;simp[lv]
 | .own,r,h=>by simp only[tab,cu]at h;subst h;simp[lv]
 | .dk n,r,h=>by simp only[tab,cu]at h;subst h;simp[lv]
 | .bJ ps,r,h=>by
  simp only[tab,aZ]at h;rcases h with h | h
  ·subst h;simp[lv]
  ·have:=BV ps 0 0 r h (by lia)
   simp only[lv]
   lia
theorem BV:∀(l:List Sh) (k:Nat) (a:Int),∀r∈tabs k a l,0<=a->0<=r.2.1/\0<=r.2.2.1/\r.2.1+r.2.2.1<=a+((iB l).length:Int)
 | [],_,_,_,h,_=>nomatch h
 | s::l,k,a,r,h,ha=>by
  rw[BE,cW]at h;simp only[iB,bF];rcases h with h | h
  ·obtain⟨q,hq,rfl⟩:=bN.mp h;have:=G0 s q hq;simp only[mB]
   lia
  ·have:=BV l (k+1) (a+sz s) r h (by simp only[sz];lia)
   simp only[sz]at this
   lia
end
structure qh (ks:List Rk):Prop where
 nd:(ks.map (·.1)).Nodup
 good:∀q∈ks,GF (cR q.2)/\(lv (cR q.2)).length<=3
 few:ks.length<=10
 ne:∀q∈ks,(q.1==(Str.ofString ""))=false
theorem qh.ok{ks:List Rk}(K:qh ks):Wl ks:=λq hq=>(K.good q hq).1.1
abbrev dgs:List Str:=[sI 0,sI 1,sI 2,sI 3]
abbrev Ce(ks:List Rk):List Str:=ks.map (·.1)++dgs
structure kA (ks:List Rk) (M:Nat) (p:PV) (as:List c8):Prop where
 made:∀F K,yS (run bq) F ks->12<=K->IM (run bq K) F p as
 six:as.length<=6
 nx:∀j,j+1<M->qR M j p
 ok:∀a∈as,nq (Ce ks) 3 a
 hand:ZH (Ce ks) as
section
variable {ks:List Rk}
theorem G1{F p:PV}{as:List c8}{w fn:Str}{rest:ay}{c:eF}(hp:p=.aC (.str w::rest))(h1:iP.lookup w=some fn)(h2:MJ.lookup fn=some 2)(h6:as.length<=6)(h:∃e,c fn [F,p]=some e/\nU e=some (gN as)):IM c F p as:=⟨⟨w,fn,rest,hp,h1,h2,h⟩,by lia⟩
theorem ko{M:Nat}{w:Str}{rest:ay}(h1:(w==(Str.ofString "go"))=false)(h2:(w==(Str.ofString "if"))=false):∀j,j+1<M->qR M j (.aC (.str w::rest)):=λj hj=>⟨w,MC,(λz=>by rw[h1]at z;cases z),(λz=>by rw[h2]at z;cases z),λ_ _=>hj⟩
theorem wN(K:qh ks)(w:Str){x:Str}{d:Kd}(hx:(x,d)∈ks){r:Rw}(hr:r∈tab (cR d))(t:Str):nq (Ce ks) 3 (tA w x d r t):=by
 obtain⟨g1,g2,g3⟩:=G0 _ r hr;have g4:=(K.good _ hx).2;simp only at g4;refine⟨⟨?_,?_,?_⟩,λ_=>⟨iD _ (bN.mpr ⟨_,hx,rfl⟩),?_⟩,?_⟩
 ·show r.2.1=((r.2.1.toNat:Nat):Int);lia
 ·show r.2.2.1=((r.2.2.1.toNat:Nat):Int);lia
 ·show r.2.1.toNat+r.2.2.1.toNat<=1000;lia
 ·show r.2.1.toNat+r.2.2.1.toNat<=3;lia
 ·show r.2.2.1.toNat<=3;lia
theorem kd(K:qh ks)(w:Str){s:Sp}(hs:eW ks s)(t:Str):nq (Ce ks) 3 (Bz w s t):=wN K w hs.mem hs.row t
theorem Nj(a:PV):∀q∈NS a,nq (Ce ks) 3 q:=λq hq=>by
 unfold NS at hq;split at hq
 ·rw[cu]at hq;subst hq;exact⟨⟨rfl,rfl,kE rfl⟩,(λz=>by cases z),kE rfl⟩
 ·cases hq
theorem uC(K:qh ks){o:Op}(ho:nk ks o):∀q∈uu o,nq (Ce ks) 3 q:=λq hq=>by
 cases o with
 | n i=>cases hq
 | s s =>
  rcases cW.mp hq with h | h
  ·exact Nj _ q h
  ·rw[cu]at h;subst h;exact kd K _ ho _
theorem Nk(K:qh ks){s:Sp}(hs:eW ks s):∀q∈Ez s,nq (Ce ks) 3 q:=λq hq=>by
 unfold Ez at hq;split at hq
 ·rw[cu]at hq;subst hq;exact kd K _ hs _
 ·rcases cW.mp hq with h | h
  ·exact Nj _ q h
  ·rw[cu]at h;subst h;exact kd K _ hs _
theorem VE(K:qh ks){r:Rk}(hr:r∈ks)(t:Str):nq (Ce ks) 3 (Vt r.1 r.2 t):=by
 obtain⟨x,d⟩:=r;cases d with
 | ow s=>exact wN K _ hr (iS s) _
 | ho b s=>exact wN K _ hr (iS s) _
theorem VF(K:qh ks){r:Rk}(hr:r∈ks):nq (Ce ks) 3 (gvA r.1 r.2):=by
 obtain⟨x,d⟩:=r;cases d with
 | ow s=>exact wN K _ hr (iS s) _
 | ho b s=>exact wN K _ hr (iS s) _
theorem Nl:nq (Ce ks) 3 MZ:=⟨⟨rfl,rfl,kE rfl⟩,(λz=>by cases z),kE rfl⟩
theorem Jb{as:List c8}(h:∀a∈as,nq (Ce ks) 3 a):∀a∈dS as,nq (Ce ks) 3 a:=λa ha=>by
 cases as with
 | nil =>
  simp only[dS,cu]at ha;subst ha;exact Nl
 | cons b l=>exact h a ha
theorem G2(K:qh ks):∀(l:List Rk) (i:Nat),(∀r∈l,r∈ks)->∀q∈gy i l,nq (Ce ks) 3 q
 | [],_,_,_,h=>nomatch h
 | r::l,i,hl,q,h=>by
  simp only[gy,aZ]at h;rcases h with h | h
  ·subst h;exact VE K (hl r bo) _
  ·exact G2 K l (i+1) (λs hs=>hl s (bz _ hs)) q h
theorem Q3(K:qh ks){tk:Option Rk}(ht:∀r,tk=some r->r∈ks):∀q∈j9 tk,nq (Ce ks) 3 q:=λq hq=>by
 cases tk with
 | none=>cases hq
 | some r =>
  have hr:=ht r rfl;obtain⟨x,d⟩:=r;cases d with
  | ow s =>
   simp only[j9,cu]at hq;subst hq;exact wN K _ hr (iS s) _
  | ho b s =>
   simp only[j9,cu]at hq;subst hq;exact⟨⟨rfl,rfl,kE rfl⟩,(λz=>by cases z),kE rfl⟩
theorem uD{X:List Str}{Bd:Nat}{a b:List c8}(h1:∀q∈a,nq X Bd q)(h2:∀q∈b,nq X Bd q):∀q∈a++b,nq X Bd q:=λq hq=>(cW.mp hq).elim (h1 q) (h2 q)
abbrev nh(a:c8):Prop:=(a.w==(Str.ofString "hand"))=false
theorem lH{X:List Str}{as:List c8}(h:∀a∈as,nh a):ZH X as:=by
 rintro⟨a,ha,hw⟩
 have:=h a ha;unfold nh at this;rw[this]at hw;cases hw
theorem qj{a b:List c8}(h1:∀q∈a,nh q)(h2:∀q∈b,nh q):∀q∈a++b,nh q:=λq hq=>(cW.mp hq).elim (h1 q) (h2 q)
theorem nr{a:c8}(h:nh a):∀q∈[a],nh q:=λq hq=>by rw[cu]at hq;subst hq;exact h
theorem Nm{a b:c8}(h:nh a)(h':nh b):∀q∈[a,b],nh q:=λq hq=>by
 rcases aZ.mp hq with rfl | hq
 ·exact h
 ·exact nr h' q hq
theorem uE{w:Str}(h:(w==(Str.ofString "hand"))=false)(x:Str)(d:Kd)(r:Rw)(t:Str):nh (tA w x d r t):=h
theorem Nn(a:PV):∀q∈NS a,nh q:=λq hq=>by
 unfold NS at hq;split at hq
 ·rw[cu]at hq;subst hq;exact(by decide +kernel:((Str.ofString "read")==(Str.ofString "hand"))=false)
 ·cases hq
theorem uF(o:Op):∀q∈uu o,nh q:=by
 cases o with
 | n i=>exact λ_ h=>nomatch h
 | s s=>exact qj (Nn _) (nr (uE (by decide +kernel) ..))
theorem Np(s:Sp):∀q∈Ez s,nh q:=by
 unfold Ez;split
 ·exact nr (uE (by decide +kernel) ..)
 ·exact qj (Nn _) (nr (uE (by decide +kernel) ..))
theorem ZJ(s:Sh):(oW s==(Str.ofString "hand"))=false:=by
 unfold oW;split<;>decide +kernel
theorem VG(x:Str)(d:Kd):nh (gvA x d):=by
 cases d with
 | ow s=>exact uE (ZJ s) ..
 | ho b s=>exact uE (by decide +kernel) ..
theorem ZK{i:Nat}(hi:i<4):sI i∈dgs:=by
 have hi:i=0\/i=1\/i=2\/i=3:=by lia
 rcases hi with rfl | rfl | rfl | rfl<;>simp[dgs]
theorem ZL(s:Sh)(x:Str)(r:Rw)(t:Str):GP (tA (oW s) x (.ow s) r t)=false:=by
 show((Str.ofString "lend")==oW s || (Str.ofString "sole")==oW s)=false;unfold oW;split<;>decide +kernel
theorem Nq:∀(l:List Rk) (i:Nat) (a:c8),a∈gy i l->GP a=true->∃(j:Nat) (r:Rk),l[j]?=some r/\a=Vt r.1 r.2 (sI (i+j))/\a.k=sI (i+j)
 | [],_,_,h,_=>nomatch h
 | r::l,i,a,h,hl=>by
  simp only[gy,aZ]at h;rcases h with h | h
  ·refine⟨0,r,rfl,h,?_⟩;obtain⟨x,d⟩:=r;cases d with
   | ow s =>
    rw[h]at hl;have:=ZL s x (vo s) "";rw[show Vt x (.ow s) (sI i)=tA (oW s) x (.ow s) (vo s) "" from rfl,this]at hl
    cases hl
   | ho b s=>rw[h];rfl
  ·obtain⟨j,r',h1,h2,h3⟩:=Nq l (i+1) a h hl;exact⟨j+1,r',h1,by rw[h2,show i+1+j=i+(j+1) by lia],by rw[h3,show i+1+j=i+(j+1) by lia]⟩
theorem Q4{tk:Option Rk}{a:c8}(h:a∈gE::j9 tk):GP a=false:=by
 rcases aZ.mp h with rfl | h
 ·decide +kernel
 ·cases tk with
  | none=>cases h
  | some r =>
   obtain⟨x,d⟩:=r;cases d with
   | ow s=>simp only[j9,cu]at h;subst h;exact(by decide +kernel:((Str.ofString "lend")==(Str.ofString "fill") || (Str.ofString "sole")==(Str.ofString "fill"))=false)
   | ho b s=>simp only[j9,cu]at h;subst h;exact(by decide +kernel:((Str.ofString "lend")==(Str.ofString "take") || (Str.ofString "sole")==(Str.ofString "take"))=false)
theorem SA:∀(l:List Rk) (i:Nat),∀a∈gy i l,(a.w==(Str.ofString "hand"))=true->a.t=false
 | [],_,_,h=>by cases h
 | (x,d)::l,i,a,h=>λhw=>by
  rcases aZ.mp h with rfl | h
  ·cases d with
   | ow s=>rfl
   | ho b s=>cases b<;>exact absurd (show(Str.ofString _==Str.ofString _)=true from hw) (by decide +kernel)
  ·exact SA l (i+1) a h hw
theorem Q5{X:List Str}(hX:∀i,i<4->sI i∈X){ar:List Rk}(R7:ar.length<=4)(tk:Option Rk):ZH X (gy 0 ar++gE::j9 tk):=λ_=>by
 have at':∀a∈gy 0 ar++gE::j9 tk,GP a=true->∃(j:Nat) (r:Rk),ar[j]?=some r/\a=Vt r.1 r.2 (sI j)/\a.k=sI j/\j<4:=λa ha hl=>by
  rcases cW.mp ha with h | h
  ·obtain⟨j,r,h1,h2,h3⟩:=Nq ar 0 a h hl;rw[jX]at h2 h3;have:=(dF.mp h1).1;exact⟨j,r,h1,h2,h3,by lia⟩
  ·rw[Q4 h]at hl;cases hl
 refine⟨λa ha hl=>?_,λa ha hw=>?_⟩
 ·obtain⟨j,r,_,_,h3,h4⟩:=at' a ha hl;rw[h3];exact hX j h4
 ·rcases cW.mp ha with h | h
  ·exact SA ar 0 a h hw
  ·rcases aZ.mp h with rfl | h
   ·rfl
   ·cases tk with
    | none=>cases h
    | some r =>
     obtain⟨x,d⟩:=r;cases d<;>(simp only[j9,cu]at h;subst h;rfl)
theorem K7{K:Nat}(h:12<=K):∃k,K=k+7/\3<=k:=⟨K-7,by lia,by lia⟩
variable (K:qh ks) (M:Nat)
include K
theorem G3{s:Sp}(hs:eW ks s){o:Op}(ho:nk ks o){w:Str}(hw:w="put"\/w="fill"):kA ks M (.aC [.str w,ck s,iU o]) (uu o++Ez s):=by
 have l1:=jE o;have l2:=yU s;have l6:(uu o++Ez s).length<=6:=by rw[bF];lia
 refine⟨λF k hF hk=>?_,l6,?_,uD (uC K ho) (Nk K hs),lH (qj (uF o) (Np s))⟩
 ·obtain⟨k,rfl,h3⟩:=K7 hk;have h:=EA hF k h3 w hs ho;rcases hw with rfl | rfl
  ·exact G1 rfl (by kernel_rfl) (by kernel_rfl) l6 ⟨_,h,rfl⟩
  ·exact G1 rfl (by kernel_rfl) (by kernel_rfl) l6 ⟨_,h,rfl⟩
 ·rcases hw with rfl | rfl
  ·exact ko (by decide +kernel) (by decide +kernel)
  ·exact ko (by decide +kernel) (by decide +kernel)
theorem Q6{s:Sp}(hs:eW ks s)(q:PV){a b:Op}(ha:nk ks a)(hb:nk ks b):kA ks M (.aC [.str "set",ck s,q,iU a,iU b]) (uu a++uu b++Ez s):=by
 have l1:=jE a;have l2:=jE b;have l3:=yU s;have l6:(uu a++uu b++Ez s).length<=6:=by simp only[bF];lia
 refine⟨λF k hF hk=>?_,l6,ko (by decide +kernel) (by decide +kernel),uD (uD (uC K ha) (uC K hb)) (Nk K hs),lH (qj (qj (uF a) (uF b)) (Np s))⟩
 obtain⟨k,rfl,h3⟩:=K7 hk;exact G1 rfl (by kernel_rfl) (by kernel_rfl) l6 ⟨_,EB hF k h3 "set" hs q ha hb,rfl⟩
theorem VH{a:Op}(ha:nk ks a)(i:Int){m:Nat}(hm:m<M):kA ks M (.aC [.str "if",iU a,.int i,iN m]) (uu a++[]):=by
 have l1:=jE a;have l6:(uu a++[]).length<=6:=by simp only[gG];lia
 refine⟨λF k hF hk=>?_,l6,λj hj=>⟨"if",rfl,λz=>absurd z (by decide +kernel),λ_=>⟨m,rfl,hm⟩,λ_ _=>hj⟩,uD (uC K ha) (λ_ h=>nomatch h),lH (qj (uF a) λ_ h=>nomatch h)⟩
 obtain⟨k,rfl,h3⟩:=K7 hk;exact G1 rfl (by kernel_rfl) (by kernel_rfl) l6 ⟨_,IK hF k h3 "if" (iN m) ha (b:=.n i) trivial,rfl⟩
theorem G4{a:Op}(ha:nk ks a):kA ks M (.aC [.str "say",iU a]) (uu a):=by
 have l1:=jE a;have l6:(uu a).length<=6:=by lia
 refine⟨λF k hF hk=>?_,l6,ko (by decide +kernel) (by decide +kernel),uC K ha,lH (uF a)⟩
 obtain⟨k,rfl,h3⟩:=K7 hk;exact G1 rfl (by kernel_rfl) (by kernel_rfl) l6 ⟨_,EC hF k h3 "say" ha,rfl⟩
theorem VI{m:Nat}(hm:m<M):kA ks M (.aC [.str "go",iN m]) []:=by
 refine⟨λF k hF hk=>?_,by simp,λj hj=>⟨"go",rfl,λ_=>⟨m,rfl,hm⟩,λz=>absurd z (by decide +kernel),λ_ z=>absurd z (by decide +kernel)⟩,(λ_ h=>nomatch h),lH λ_ h=>nomatch h⟩
 obtain⟨k,rfl,h3⟩:=K7 hk;exact G1 rfl (by kernel_rfl) (by kernel_rfl) (by simp) ⟨_,IL k _,rfl⟩
theorem Jc:kA ks M (.aC [.str "give",.str ""]) []:=by
 refine⟨λF k hF hk=>?_,by simp,ko (by decide +kernel) (by decide +kernel),(λ_ h=>nomatch h),lH λ_ h=>nomatch h⟩
 obtain⟨k,rfl,h3⟩:=K7 hk;exact G1 rfl (by kernel_rfl) (by kernel_rfl) (by simp) ⟨_,yV k "give",rfl⟩
theorem Nr{r:Rk}(hr:r∈ks):kA ks M (.aC [.str "give",.str r.1]) [gvA r.1 r.2]:=by
 refine⟨λF k hF hk=>?_,by simp,ko (by decide +kernel) (by decide +kernel),λq hq=>?_,lH (nr (VG r.1 r.2))⟩
 ·obtain⟨k,rfl,h3⟩:=K7 hk;exact G1 rfl (by kernel_rfl) (by kernel_rfl) (by simp) ⟨_,BI hF k h3 "give" (x:=r.1) (d:=r.2) hr (K.ok _ hr) (K.ne _ hr),rfl⟩
 ·rw[cu]at hq;subst hq;exact VF K hr
theorem Nt{s t:Sp}(hs:eW ks s)(ht:eW ks t):kA ks M (.aC [.str "copy",ck s,ck t]) [Bz "read" t "",Bz "fill" s ""]:=by
 refine⟨λF k hF hk=>?_,by simp,ko (by decide +kernel) (by decide +kernel),λq hq=>?_,lH (Nm (uE (by decide +kernel) ..) (uE (by decide +kernel) ..))⟩
 ·obtain⟨k,rfl,h3⟩:=K7 hk;exact G1 rfl (by kernel_rfl) (by kernel_rfl) (by simp) ⟨_,BA hF k h3 "copy" hs ht,rfl⟩
 ·simp only[aZ,d3,d8]at hq;rcases hq with rfl | rfl
  ·exact kd K _ ht _
  ·exact kd K _ hs _
theorem Nu{s t:Sp}(hs:eW ks s)(ht:eW ks t):kA ks M (.aC [.str "move",ck s,ck t]) [Bz "empty" t "",Bz "fill" s ""]:=by
 refine⟨λF k hF hk=>?_,by simp,ko (by decide +kernel) (by decide +kernel),λq hq=>?_,lH (Nm (uE (by decide +kernel) ..) (uE (by decide +kernel) ..))⟩
 ·obtain⟨k,rfl,h3⟩:=K7 hk;exact G1 rfl (by kernel_rfl) (by kernel_rfl) (by simp) ⟨_,BB hF k h3 "move" hs ht,rfl⟩
 ·simp only[aZ,d3,d8]at hq;rcases hq with rfl | rfl
  ·exact kd K _ ht _
  ·exact kd K _ hs _
theorem Nv{s:Sp}(hs:eW ks s):kA ks M (.aC [.str "drop",ck s]) [Bz "empty" s ""]:=by
 refine⟨λF k hF hk=>?_,by simp,ko (by decide +kernel) (by decide +kernel),λq hq=>?_,lH (nr (uE (by decide +kernel) ..))⟩
 ·obtain⟨k,rfl,h3⟩:=K7 hk;exact G1 rfl (by kernel_rfl) (by kernel_rfl) (by simp) ⟨_,BC hF k h3 "drop" hs,rfl⟩
 ·rw[cu]at hq;subst hq;exact kd K _ hs _
theorem Nx{w:Str}(hw:w="lend"\/w="sole")(x:Str){s:Sp}(hs:eW ks s):kA ks M (.aC [.str w,.str x,ck s]) [Bz w s x]:=by
 refine⟨λF k hF hk=>?_,by simp,?_,λq hq=>?_,lH (nr (uE (by rcases hw with rfl | rfl<;>decide +kernel) ..))⟩
 ·obtain⟨k,rfl,h3⟩:=K7 hk;have h:=BD hF k h3 w x hs;rcases hw with rfl | rfl
  ·exact G1 rfl (by kernel_rfl) (by kernel_rfl) (by simp) ⟨_,h,rfl⟩
  ·exact G1 rfl (by kernel_rfl) (by kernel_rfl) (by simp) ⟨_,h,rfl⟩
 ·rcases hw with rfl | rfl
  ·exact ko (by decide +kernel) (by decide +kernel)
  ·exact ko (by decide +kernel) (by decide +kernel)
 ·rw[cu]at hq;subst hq;exact kd K _ hs _
theorem uG(fn:PV){ar:List Rk}(ha:∀r∈ar,r∈ks)(R7:ar.length<=4){tk:Option Rk}(ht:∀r,tk=some r->r∈ks):kA ks M (.aC [.str "call",.str (BG tk),fn,.aC (ar.map λr=>.str r.1)]) (gy 0 ar++gE::j9 tk):=by
 have tl:=uw ar 0;have tkl:(j9 tk).length<=1:=by
  cases tk with
  | none=>simp[j9]
  | some r=>obtain⟨x,d⟩:=r;cases d<;>simp[j9]
 have l6:(gy 0 ar++gE::j9 tk).length<=6:=by rw[bF,bt,tl];lia
 refine⟨λF k hF hk=>?_,l6,ko (by decide +kernel) (by decide +kernel),uD (G2 K ar 0 ha) λq hq=>?_,Q5 (λi hi=>dH _ (ZK hi)) R7 tk⟩
 ·obtain⟨k,rfl,h3⟩:=K7 hk;obtain⟨e,h1,h2⟩:=BJ hF k h3 "call" fn ha K.ok (by lia) (tk:=tk) (λr hr=>⟨ht r hr,K.ne r (ht r hr)⟩)
  exact G1 rfl (by kernel_rfl) (by kernel_rfl) l6 ⟨e,h1,h2⟩
 ·rcases aZ.mp hq with rfl | h
  ·exact⟨⟨rfl,rfl,kE rfl⟩,(λz=>by cases z),kE rfl⟩
  ·exact Q3 K ht q h
end
noncomputable def ze(C:Int):Nat:=(1+C%8).toNat
def Q7(C:Int):List Int:=(List.range (ze C)).map fun(i:Nat)=>(C/(64+9*(i:Int)*i)+5*(i:Int))%26
def VJ(C:Int):Nat:=(C/8%(ze C:Int)).toNat
theorem rG(C:Int):(Q7 C).length=ze C:=by simp[Q7]
theorem zf(C:Int):1<=ze C/\ze C<=8/\(ze C:Int)=1+C%8:=by unfold ze;lia
theorem Ny(C:Int):VJ C<(Q7 C).length/\(VJ C:Int)=C/8%(ze C:Int):=by
 have h:=zf C;have h0:=kJ (C/8) (show(ze C:Int)≠0 by lia)
 have h1:=rQ (C/8) (show(0:Int)<(ze C:Int) by lia)
 rw[rG];unfold VJ
 lia
def bW(C:Int)(q:Nat):Str:=GZ (Q7 C) (VJ C) q
theorem rH{C:Int}{q q':Nat}(h1:q<26)(h2:q'<26)(h:bW C q=bW C q'):q=q':=Q2 (Ny C).1 h1 h2 h
theorem Nz(C:Int)(q:Nat):(bW C q==(Str.ofString ""))=false:=by
 rw[Gu,rO];intro h;have:=dy List.length (wA h);rw[aB,oZ,rG]at this;have:=zf C;simp at *
 lia
theorem Jd(C:Int)(x1 x2 x4 x5 x6 x7 x8 x9:Ent):bG (dB [none,none,some 0] (gF (aa (rd 3) ai)) (ak 1) (af (af (af (rd 2) (af (kI 64) (af (af (kI 9) (rd 1) jL) (rd 1) jL) bQ) dq) (af (kI 5) (rd 1) jL) bQ) (kI 26) cj)) [.val (.int C),x1,x2,.val (iN (ze C)),x4,x5,x6,x7,x8,x9]=some (.ao ((Q7 C).map .int)):=by
 have hl:=zf C;have hr:gF (aa (rd 3) ai) [.val (.int C),x1,x2,.val (iN (ze C)),x4,x5,x6,x7,x8,x9]=some ((List.range (ze C)).map fun(i:Nat)=>PV.int (0+(i:Int))):=by
  rw[hJ (j:=(ze C:Int)) rfl (by lia),fH]
 have hm:iI (λp=>(ak 1 p [Ent.un,.un,.val (.int C)]).bind (af (af (af (rd 2) (af (kI 64) (af (af (kI 9) (rd 1) jL) (rd 1) jL) bQ) dq) (af (kI 5) (rd 1) jL) bQ) (kI 26) cj)) ((List.range (ze C)).map fun(i:Nat)=>PV.int (0+(i:Int)))=some ((Q7 C).map .int):=by
  unfold Q7;rw[gq];refine eP λi hi=>?_
  have hi:=e9.mp hi;have hi7:i<=7:=by lia
  rw[jW];have h9:jL (.int 9) (.int (i:Int))=some (.int (9*(i:Int))):=ly (by lia)
  have hmm:jL (.int (9*(i:Int))) (.int (i:Int))=some (.int (9*(i:Int)*i)):=ly (by lia)
  have h5:jL (.int 5) (.int (i:Int))=some (.int (5*(i:Int))):=ly (by lia)
  have hsq:0<=9*(i:Int)*i/\9*(i:Int)*i<=441:=by
   have:i=0\/i=1\/i=2\/i=3\/i=4\/i=5\/i=6\/i=7:=by lia
   rcases this with rfl | rfl | rfl | rfl | rfl | rfl | rfl | rfl<;>simp
  show(ak 1 (.int (i:Int)) [Ent.un,.un,.val (.int C)]).bind _=_;have t:ak 1 (.int (i:Int)) [Ent.un,.un,.val (.int C)]=some [.un,.val (.int (i:Int)),.val (.int C)]:=rfl;rw[t,aQ];exact b2 (b2 (b2 rfl (b2 rfl (b2 (b2 rfl rfl h9) rfl hmm) rfl) (yX (by lia))) (b2 rfl rfl h5) rfl) rfl (dE (by lia))
 exact fF (cV hr (by simp;lia) hm)
theorem Q8(k:Nat)(C:Int):run bq (k+1) "_law_names" [.int C,.int 13]=some (.own ((List.range 13).map λq=>.str (bW C q))):=by
 have hl:=zf C;have hp:=Ny C;rw[Ej,aV];obtain⟨x5,x8,x9,h⟩:=uB (run bq k) (.val (.int C)) (.val (.int 13)) (Q7 C) (VJ C) (by rw[rG];lia) (List.range 13) [] .un .un .un (λq hq=>by have:=e9.mp hq;lia) (by simp)
 rw[rG,gS]at h;have a1:bx (af (kI 1) (af (rd 0) (kI 8) cj) bQ) (ak 3) [.val (.int C),.val (.int 13),.val BS,.un,.un,.un,.un,.un,.un,.un]=some (.nx [.val (.int C),.val (.int 13),.val BS,.val (iN (ze C)),.un,.un,.un,.un,.un,.un]):=by
  unfold iN;rw[hl.2.2];exact aS (b2 rfl (b2 rfl rfl (dE (by decide))) rfl) rfl
 have a2:bx (af (af (rd 0) (kI 8) dq) (rd 3) cj) (ak 4) [.val (.int C),.val (.int 13),.val BS,.val (iN (ze C)),.un,.un,.un,.un,.un,.un]=some (.nx [.val (.int C),.val (.int 13),.val BS,.val (iN (ze C)),.val (iN (VJ C)),.un,.un,.un,.un,.un]):=by
  unfold iN;rw[hp.2];exact aS (b2 (b2 rfl rfl (yX (by decide))) rfl (dE (by lia))) rfl
 have hr:gF (aa (rd 1) ai) [.val (.int C),.val (.int 13),.val BS,.val (iN (ze C)),.val (iN (VJ C)),.un,.val (.ao ((Q7 C).map .int)),.own [],.un,.un]=some ((List.range 13).map fun(i:Nat)=>PV.int (0+(i:Int))):=hJ (j:=13) rfl (by decide)
 exact A2 (sq (aS rfl rfl) (sq a1 (sq a2 (sq (aS (Jd C _ _ _ _ _ _ _ _) rfl) (sq (sO rfl (by simp)) (sq (fS hr h) (A3 rfl)))))))
noncomputable def iz(c:Int):Sh:=match(c%7).toNat with
 | 0=>.bJ [.num,.num]
 | 1=>.own
 | 2=>.dk (1+c/7%8)
 | 3=>.num
 | 4=>.bJ [.num,.own]
 | 5=>.bJ [.dk (1+c/7%8),.own]
 | _=>.bJ [.bJ [.num,.num],.dk (1+c/7%8)]
def eR(s:Sh):Prop:=GF s/\(lv s).length<=3
theorem l7(c:Int):eR (iz c):=by
 have h8:0<1+c/7%8/\1+c/7%8<=8:=by lia
 have:c%7=0\/c%7=1\/c%7=2\/c%7=3\/c%7=4\/c%7=5\/c%7=6:=by lia
 unfold iz;rcases this with h | h | h | h | h | h | h<;>rw[h]<;>simp[eR,GF,GC,tab,tabs,dp,ua,pos,M5,lv,iB,h8]
theorem NA:eR .num:=by simp[eR,GF,GC,tab,dp,pos,lv]
theorem NB{s:Sh}(h:eR s){r:Rw}(hr:r∈tab s):eR r.2.2.2:=by
 obtain⟨⟨h1,h2⟩,h3⟩:=h;exact⟨⟨yZ h1 hr,uv s h2 r hr⟩,cG (yR s r hr).2 h3⟩
theorem Q9(k:Nat)(c:Int):run bq (k+1) "_law_shape" [.int c]=some (.val (enc (iz c))):=by
 rw[Ek,aV];obtain⟨n,hn⟩:∃n,n=1+c/7%8:=⟨_,rfl⟩
 have a1:bx (aY (aa (kS "strip") (aa (af (kI 1) (af (af (rd 0) (kI 7) dq) (kI 8) cj) bQ) ai))) (ak 1) [.val (.int c),.un,.un,.un]=some (.nx [.val (.int c),.val (sP n),.un,.un]):=by
  rw[hn];exact aS (tU (cA rfl (cA (b2 rfl (b2 (b2 rfl rfl (yX (by decide))) rfl (dE (by decide))) rfl) rfl)) (by simp)) rfl
 have hi:aH (.ao ([tP,oP,sP n,nP,.aC [.str "rec",.aC [nP,oP]],.aC [.str "rec",.aC [sP n,oP]]]++[.aC [.str "rec",.aC [tP,sP n]]])) (.int (c%7))=some (enc (iz c)):=by
  have:c%7=0\/c%7=1\/c%7=2\/c%7=3\/c%7=4\/c%7=5\/c%7=6:=by lia
  unfold iz;rcases this with h | h | h | h | h | h | h<;>rw[h,hn]<;>rfl
 exact dt (sq a1 (sq (aS (p:=tP) rfl rfl) (sq (aS (p:=.ao [tP,oP,sP n,nP,.aC [.str "rec",.aC [nP,oP]],.aC [.str "rec",.aC [sP n,oP]]]) rfl rfl) (rS (b2 (b2 (x:=.ao [tP,oP,sP n,nP,.aC [.str "rec",.aC [nP,oP]],.aC [.str "rec",.aC [sP n,oP]]]) (y:=.ao [.aC [.str "rec",.aC [tP,sP n]]]) rfl rfl (aL (by simp))) (b2 rfl rfl (dE (by decide))) hi)))))
def jG(r:Rw):PV:=.aC [.aC (r.1.map .int),enc r.2.2.2]
theorem uH(c:eF)(S:Ent):∀(p3:List Sh) (i:Nat) (acc:List Rw) (a:Int) (o2 o3:Ent),(∀s∈p3,c "_law_parts" [enc s]=some (.val (.ao ((tab s).map jG))))->acc.length+jA p3<=1000 ->
  ∃VL VM,eG (cC 2 (aw (ak 2) (aw (ak 3) cx))) (j8 c) (dU i (df p3)) [S,.val (.ao (acc.map jG)),o2,o3]=some (.nx [S,.val (.ao ((acc++tabs i a p3).map jG)),VL,VM])
 | [],i,acc,a,o2,o3,_,_=>⟨o2,o3,by simp[df,dU,tabs]⟩
 | s::p3,i,acc,a,o2,o3,h,hz=>by
  have h1:=h s bo;simp only[jA]at hz;obtain⟨VL,VM,e⟩:=uH c S p3 (i+1) (acc++(tab s).map (mB i a)) (a+sz s) (.val (.int (i:Int))) (.val (enc s)) (λs hs=>h s (bz _ hs)) (by rw[bF,aB];lia)
  refine⟨VL,VM,?_⟩;rw[BE,<-gk];have hp:∀r∈tab s,r.1.length<=1000:=λr hr=>by have:=Gs s r hr;have:=Su s;lia
  have hm:iI (λp=>(cC 2 (aw (ak 1) (aw (ak 2) cx)) p (bA [none,none,none,some 2] [S,.val (.ao (acc.map jG)),.val (.int (i:Int)),.val (enc s)])).bind (aY (aa (af (aY (aa (rd 3) ai)) (rd 1) bQ) (aa (rd 2) ai)))) ((tab s).map jG)=some (((tab s).map (mB i a)).map jG):=by
   rw[gq];refine eP λr hr=>?_
   have hl:=hp r hr;have t:cC 2 (aw (ak 1) (aw (ak 2) cx)) (jG r) (bA [none,none,none,some 2] [S,.val (.ao (acc.map jG)),.val (.int (i:Int)),.val (enc s)])=some [.un,.val (.aC (r.1.map .int)),.val (enc r.2.2.2),.val (.int (i:Int))]:=rfl;rw[t,aQ];exact tU (cA (b2 (tU (cA rfl rfl) (by simp)) rfl (aT (by simp only[bt,iG,aB];lia))) (cA rfl rfl)) (by simp)
  have body:j8 c [S,.val (.ao (acc.map jG)),.val (.int (i:Int)),.val (enc s)]=some (.nx [S,.val (.ao ((acc++(tab s).map (mB i a)).map jG)),.val (.int (i:Int)),.val (enc s)]):=by
   unfold j8;rw[cM];exact aS (b2 rfl (fF (cV (sV (dM (cA rfl rfl) rfl h1 rfl) rfl) (by simp only[aB];lia) hm)) (aL (by simp only[aB];lia))) rfl
  exact fC (eM:=[S,.val (.ao (acc.map jG)),.val (.int (i:Int)),.val (enc s)]) rfl body e
theorem qT(s:Sh)(x1 x2 x3:Ent):bx (bG (cB (aa (aY (aa (aY ai) (aa (rd 0) ai))) ai))) (ak 1) [.val (enc s),x1,x2,x3]=some (.nx [.val (enc s),.val (.ao [jG ([],0,sz s,s)]),x2,x3]):=aS (fF (lS (cA (tU (cA rfl (cA rfl rfl)) (by simp)) rfl) (by simp))) rfl
theorem nt(k:Nat){s:Sh}(h:iM s=true):run bq (k+1) "_law_parts" [enc s]=some (.val (.ao ((tab s).map jG))):=by
 rw[um,aV];have he:=M3 s;rw[h]at he;rw[MF h];exact dt (sq (qT s .un .un .un) (sq (iF (bT (b2 (b2 rfl rfl (Bx s)) rfl he)) rfl) (rS rfl)))
theorem Je(k:Nat){ps:List Sh} (h:∀s∈ps,run bq k "_law_parts" [enc s]=some (.val (.ao ((tab s).map jG)))) (hl:jA ps<=900):run bq (k+1) "_law_parts" [enc (.bJ ps)]=some (.val (.ao ((tab (.bJ ps)).map jG))):=by
 rw[um,aV];have he:=M3 (.bJ ps);obtain⟨o2,o3,e⟩:=uH (run bq k) (.val (enc (.bJ ps))) ps 0 [([],0,sz (.bJ ps),.bJ ps)] 0 .un .un h (by simp;lia)
 have ht:tab (.bJ ps)=[([],0,sz (.bJ ps),.bJ ps)]++tabs 0 0 ps:=by simp[tab,sz,lv]
 rw[ht];refine dt (sq (qT (.bJ ps) .un .un .un) (sq (iT (bT (b2 (b2 rfl rfl (Bx (.bJ ps))) rfl he)) (fS ?_ e)) (rS rfl)));show((af (rd 0) (kI 1) aH) _).bind _=_;rw[b2 rfl rfl (show aH (enc (.bJ ps)) (.int 1)=some (.aC (df ps)) by simp[enc])]
 rfl
mutual
theorem zg:∀(s:Sh) (k:Nat),dp s<=k->(tab s).length<=900->run bq (k+1) "_law_parts" [enc s]=some (.val (.ao ((tab s).map jG)))
 | .num,k,_,_=>nt k rfl
 | .own,k,_,_=>nt k rfl
 | .dk n,k,_,_=>nt k rfl
 | .bJ ps,0,hd,_=>by simp[dp]at hd
 | .bJ ps,k+1,hd,hz=>by
  have hl:(tab (.bJ ps)).length=jA ps+1:=by simp only[tab,bt,iO]
  have zI:ua ps<=k:=by simp only[dp]at hd;lia
  exact Je (k+1) (λs hs=>BW ps k zI (by lia) s hs) (by lia)
theorem BW:∀(ps:List Sh) (k:Nat),ua ps<=k->jA ps<=900->∀s∈ps,run bq (k+1) "_law_parts" [enc s]=some (.val (.ao ((tab s).map jG)))
 | [],_,_,_,s,hs=>by cases hs
 | p::r,k,hd,hz,s,hs=>by
  simp only[ua]at hd;simp only[jA]at hz;rcases aZ.mp hs with e | e
  ·rw[e];exact zg p k (by lia) (by lia)
  ·exact BW r k (by lia) (by lia) s e
end
def may(d:Kd):Bool:=!(kw d==(Str.ofString "lent"))
def i0(ks:List Rk):List Sp:=ks.flatMap λq=>(tab (cR q.2)).map λr=>⟨q.1,q.2,r,.cE⟩
def i8(s:Sp):PV:=.aC [ck s,enc s.r.2.2.2,.bl (may s.d)]
theorem EN{ks:List Rk}(h:Wl ks):∀s∈i0 ks,eW ks s/\s.a=.cE:=by
 intro s hs;obtain⟨q,hq,hs⟩:=ju.mp hs;obtain⟨r,hr,rfl⟩:=bN.mp hs;exact⟨⟨hq,h q hq,hr,.cE⟩,rfl⟩
theorem zh{ks:List Rk}(h:Wl ks):(i0 ks).length<=100*ks.length:=by
 induction ks with
 | nil=>simp[i0]
 | cons q ks ih =>
  have h1:=(h q bo).1;have h2:=ih λr hr=>h r (bz _ hr)
  simp only[i0,oY,bF,aB,bt]at h2 ⊢
  lia
theorem oK{ks:List Rk}{q:Rk}(hq:q∈ks):(⟨q.1,q.2,vo (cR q.2),.cE⟩:Sp)∈i0 ks:=ju.mpr ⟨q,hq,bN.mpr ⟨_,iS _,rfl⟩⟩
theorem NC(c:eF)(S:Ent)(x:Str)(d:Kd)(o5:Ent)(T:List Rw):∀(acc:ay) (o6 o7:Ent),acc.length+T.length<=90000 ->
  ∃Jf Ra,eG (cC 2 (aw (ak 6) (aw (ak 7) cx))) (m9 c) (T.map jG) [S,.own acc,.val (.str x),.val (du d),.val (.bl (iy d)),o5,o6,o7]=some (.nx [S,.own (acc++T.map λr=>i8 ⟨x,d,r,.cE⟩),.val (.str x),.val (du d),.val (.bl (iy d)),o5,Jf,Ra]):=by
 induction T with
 | nil=>exact λacc o6 o7 _=>⟨o6,o7,by simp⟩
 | cons r T ih =>
  intro acc o6 o7 hz;simp only[bt]at hz;obtain⟨Jf,Ra,e⟩:=ih (acc++[i8 ⟨x,d,r,.cE⟩]) (.val (.aC (r.1.map .int))) (.val (enc r.2.2.2)) (by simp;lia)
  refine⟨Jf,Ra,?_⟩;rw[gk]at e;rw[bX,bX];refine fC (eM:=[S,.own acc,.val (.str x),.val (du d),.val (.bl (iy d)),o5,.val (.aC (r.1.map .int)),.val (enc r.2.2.2)]) rfl ?_ e;unfold m9;exact mA rfl (tU (cA (tU (cA rfl (cA rfl (cA rfl (cA rfl rfl)))) (by simp)) (cA rfl (cA (b2 (b2 rfl rfl (lD d)) rfl (QS d)) rfl))) (by simp)) (by lia)
theorem Jg(k:Nat)(hk:3<=k)(S:Ent)(ks:List Rk):∀(acc:ay) (o2 o3 o4 o5 o6 o7:Ent),Wl ks->acc.length+100*ks.length<=80000 ->
  ∃VL VM VN VO Jf Ra,eG (cC 2 (aw (ak 2) (aw (ak 3) cx))) (ng (run bq (k+1))) (ks.map bL) [S,.own acc,o2,o3,o4,o5,o6,o7]=some (.nx [S,.own (acc++(i0 ks).map i8),VL,VM,VN,VO,Jf,Ra]):=by
 induction ks with
 | nil=>exact λacc o2 o3 o4 o5 o6 o7 _ _=>⟨o2,o3,o4,o5,o6,o7,by simp[i0]⟩
 | cons q ks ih =>
  intro acc o2 o3 o4 o5 o6 o7 ho hz;simp only[bt]at hz;obtain⟨h1,h2⟩:=ho q bo;obtain⟨p6,p7,B7⟩:=NC (run bq (k+1)) S q.1 q.2 (.val (enc (cR q.2))) (tab (cR q.2)) acc o6 o7 (by lia)
  obtain⟨VL,VM,VN,VO,Jf,Ra,e⟩:=ih (acc++(tab (cR q.2)).map λr=>i8 ⟨q.1,q.2,r,.cE⟩) (.val (.str q.1)) (.val (du q.2)) (.val (.bl (iy q.2))) (.val (enc (cR q.2))) p6 p7 (λr hr=>ho r (bz _ hr)) (by rw[bF,aB];lia)
  refine⟨VL,VM,VN,VO,Jf,Ra,?_⟩;have mQ:(i0 (q::ks)).map i8=((tab (cR q.2)).map λr=>i8 ⟨q.1,q.2,r,.cE⟩)++(i0 ks).map i8:=by
   simp[i0,oY,cM,gq,Function.comp_def]
  rw[mQ,<-gk];have ht:=zg (cR q.2) k (by lia) (by lia)
  refine fC (eM:=[S,.own acc,.val (.str q.1),.val (du q.2),o4,o5,o6,o7]) rfl ?_ e;unfold ng;have a5:fJ (fP (toB (rd 4))) (bx (af (rd 3) (kI 1) aH) (ak 5)) (λρ=>some (.nx ρ)) [S,.own acc,.val (.str q.1),.val (du q.2),.val (.bl (iy q.2)),.val (du q.2),o6,o7]=some (.nx [S,.own acc,.val (.str q.1),.val (du q.2),.val (.bl (iy q.2)),.val (enc (cR q.2)),o6,o7]):=by
   obtain⟨x,d⟩:=q;cases d with
   | ow s=>exact iF rfl rfl
   | ho b s=>exact iT rfl (aS (b2 rfl rfl rfl) rfl)
  exact sq (aS (b2 (b2 rfl rfl (lD q.2)) rfl (yP q.2)) rfl) (sq (aS rfl rfl) (sq a5 (fS (sV (dM (cA rfl rfl) rfl ht rfl) rfl) B7)))
theorem Rb(k:Nat)(hk:3<=k)(ks:List Rk)(h:Wl ks)(hl:ks.length<=100):run bq (k+2) "_law_spots" [.ao (ks.map bL)]=some (.own ((i0 ks).map i8)):=by
 rw[El,aV];obtain⟨o2,o3,o4,o5,o6,o7,e⟩:=Jg k hk (.val (.ao (ks.map bL))) ks [] .un .un .un .un .un .un h (by simp;lia)
 rw[gS]at e;exact A2 (sq (sO rfl (by simp)) (sq (fS rfl e) (A3 rfl)))
def f9(s:Sp):PV:=.aC [ck s,.bl (may s.d)]
noncomputable def jH(x:Str)(dg:Int)(s:Sp):List Sp:=match s.r.2.2.2 with
 | .num=>[s]
 | .own=>[s]
 | .dk n=>[{s with a:=if dg/8%2=0 then .int (dg%n)else .str x}]
 | .bJ _=>[]
def aeo:Sh->Bool
 | .num=>true
 | .own=>true
 | _=>false
def aep:Sh->Bool
 | .dk _=>true
 | _=>false
theorem ZM(s:Sh):rn false (.str (Gx s)) (.aC [.str "num",.str "own"])=some (.bl (aeo s)):=by
 rw[Zx];refine dy (λb=>some (PV.bl b)) ?_
 cases s with
 | num=>decide +kernel
 | own=>decide +kernel
 | dk n=>exact(by decide +kernel:(Str.ofString "num"==Str.ofString "strip" || Str.ofString "own"==Str.ofString "strip")=false)
 | bJ ps=>exact(by decide +kernel:(Str.ofString "num"==Str.ofString "rec" || Str.ofString "own"==Str.ofString "rec")=false)
theorem ZN(s:Sh):eu (.str (Gx s)) (.str "strip")=some (.bl (aep s)):=by
 rw[dJ];refine dy (λb=>some (PV.bl b)) ?_
 cases s with
 | num=>decide +kernel
 | own=>decide +kernel
 | dk n=>exact(by decide +kernel:(Str.ofString "strip"==Str.ofString "strip")=true)
 | bJ ps=>exact(by decide +kernel:(Str.ofString "rec"==Str.ofString "strip")=false)
theorem ND(c:eF)(S:Ent)(x:Str)(dg:Int){s:Sp}(hp:pos s.r.2.2.2=true)(hn:s.a=.cE)(acc:ay)(hl:acc.length<90000):ix c [S,.val (.str x),.val (.int dg),.own acc,.val (ck s),.val (enc s.r.2.2.2),.val (.bl (may s.d))]=some (.nx [S,.val (.str x),.val (.int dg),.own (acc++(jH x dg s).map f9),.val (ck s),.val (enc s.r.2.2.2),.val (.bl (may s.d))]):=by
 unfold ix;have t1:=λacc:ay=>(bT (b2 (b2 rfl rfl (Bx s.r.2.2.2)) rfl (ZM s.r.2.2.2)):toB (af (af (rd 5) (kI 0) aH) (aY (aa (kS "num") (aa (kS "own") ai))) (rn false)) [S,.val (.str x),.val (.int dg),.val (.ao acc),.val (ck s),.val (enc s.r.2.2.2),.val (.bl (may s.d))]=some _)
 have t2:=λacc:ay=>(bT (b2 (b2 rfl rfl (Bx s.r.2.2.2)) rfl (ZN s.r.2.2.2)):toB (af (af (rd 5) (kI 0) aH) (kS "strip") eu) [S,.val (.str x),.val (.int dg),.val (.ao acc),.val (ck s),.val (enc s.r.2.2.2),.val (.bl (may s.d))]=some _)
 cases he:s.r.2.2.2 with
 | num =>
  rw[he]at t1 t2;rw[show jH x dg s=[s] by unfold jH;rw[he]]
  exact sq (iT (t1 acc) (mA rfl (tU (cA rfl (cA rfl rfl)) (by simp)) (by lia))) (iF (t2 (acc++[f9 s])) rfl)
 | own =>
  rw[he]at t1 t2;rw[show jH x dg s=[s] by unfold jH;rw[he]]
  exact sq (iT (t1 acc) (mA rfl (tU (cA rfl (cA rfl rfl)) (by simp)) (by lia))) (iF (t2 (acc++[f9 s])) rfl)
 | bJ ps =>
  rw[he]at t1 t2;rw[show jH x dg s=[] by unfold jH;rw[he],r9,gG]
  exact sq (iF (t1 acc) rfl) (iF (t2 acc) rfl)
 | dk n =>
  rw[he]at t1 t2 hp;have hp:0<n:=by simpa[pos]using hp
  rw[show jH x dg s=[{s with a:=if dg/8%2=0 then .int (dg%n)else .str x}] by unfold jH;rw[he]]
  refine sq (iF (t1 acc) rfl) (iT (t2 acc) ?_);have hx:af (bG (cB (aa (af (rd 2) (af (rd 5) (kI 1) aH) cj) (aa (rd 1) ai)))) (af (af (rd 2) (kI 8) dq) (kI 2) cj) aH [S,.val (.str x),.val (.int dg),.own acc,.val (ck s),.val (enc (.dk n)),.val (.bl (may s.d))]=some (if dg/8%2=0 then .int (dg%n)else .str x):=by
   refine b2 (x:=.ao [.int (dg%n),.str x]) (fF (lS (cA (b2 rfl (b2 rfl rfl rfl) (dE hp)) (cA rfl rfl)) (by simp))) (b2 (b2 rfl rfl (yX (by decide))) rfl (dE (by decide))) ?_
   have:dg/8%2=0\/dg/8%2=1:=by lia
   rcases this with h | h
   ·rw[h];rfl
   ·rw[h];rfl
  obtain⟨a,ha⟩:∃a,a=(if dg/8%2=0 then PV.int (dg%n)else .str x):=⟨_,rfl⟩
  rw[<-ha]at hx ⊢;exact mA rfl (tU (cA (b2 (x:=.aC [.str s.x,.bl (iy s.d),.aC (s.r.1.map .int)]) (y:=.aC [a]) rfl (tU (cA hx rfl) (by simp)) (aT (by simp))) (cA rfl rfl)) (by simp)) (by lia)
theorem BX(c:eF)(S:Ent)(x:Str)(dg:Int):∀(T:List Sp) (acc:ay) (o4 o5 o6:Ent),(∀s∈T,pos s.r.2.2.2=true/\s.a=.cE)->acc.length+T.length<=80000 ->
  ∃VN VO Jf,eG (cC 3 (aw (ak 4) (aw (ak 5) (aw (ak 6) cx)))) (ix c) (T.map i8) [S,.val (.str x),.val (.int dg),.own acc,o4,o5,o6]=some (.nx [S,.val (.str x),.val (.int dg),.own (acc++(T.flatMap (jH x dg)).map f9),VN,VO,Jf])
 | [],acc,o4,o5,o6,_,_=>⟨o4,o5,o6,by simp⟩
 | s::T,acc,o4,o5,o6,h,hz=>by
  simp only[bt]at hz;obtain⟨h1,h2⟩:=h s bo;have hb:=ND c S x dg h1 h2 acc (by lia)
  have Js:(jH x dg s).length<=1:=by
   unfold jH;split<;>simp
  obtain⟨VN,VO,Jf,e⟩:=BX c S x dg T (acc++(jH x dg s).map f9) (.val (ck s)) (.val (enc s.r.2.2.2)) (.val (.bl (may s.d))) (λt ht=>h t (bz _ ht)) (by rw[bF,aB];lia)
  refine⟨VN,VO,Jf,?_⟩;rw[oY,cM,<-gk];exact fC (eM:=[S,.val (.str x),.val (.int dg),.own acc,.val (ck s),.val (enc s.r.2.2.2),.val (.bl (may s.d))]) rfl hb e
abbrev zu(ks:List Rk)(x:Str)(dg:Int):List Sp:=(i0 ks).flatMap (jH x dg)
theorem Rc{ks:List Rk}{x:Str}(hx:(x,Kd.ow .num)∈ks){dg:Int}{s:Sp}(hs:eW ks s):∀t∈jH x dg s,eW ks t/\t.d=s.d:=λt ht=>by
 unfold jH at ht;split at ht
 ·rw[cu]at ht;subst ht;exact⟨hs,rfl⟩
 ·rw[cu]at ht;subst ht;exact⟨hs,rfl⟩
 ·rw[cu]at ht;subst ht;refine⟨⟨hs.mem,hs.ok,hs.row,?_⟩,rfl⟩;show IJ ks (if dg/8%2=0 then _ else _)
  split
  ·exact .int _
  ·exact .str _ hx
 ·cases ht
theorem VP{ks:List Rk}(K:qh ks){x:Str}(hx:(x,Kd.ow .num)∈ks)(dg:Int):(∀t∈zu ks x dg,eW ks t)/\(zu ks x dg).length<=1000/\∃t∈zu ks x dg,may t.d=true:=by
 refine⟨λt ht=>?_,?_,?_⟩
 ·obtain⟨s,hs,ht⟩:=ju.mp ht;exact(Rc hx (EN K.ok s hs).1 t ht).1
 ·have h1:=zh K.ok;have h2:=K.few;have:∀T:List Sp,(T.flatMap (jH x dg)).length<=T.length:=λT=>by
   induction T with
   | nil=>simp
   | cons s T ih =>
    have Js:(jH x dg s).length<=1:=by
     unfold jH;split<;>simp
    rw[oY,bF,bt]
    lia
  have:=this (i0 ks);show(List.flatMap (jH x dg) (i0 ks)).length<=1000
  lia
 ·refine⟨⟨x,.ow .num,vo .num,.cE⟩,ju.mpr ⟨_,oK hx,?_⟩,?_⟩
  ·simp[jH,cR]
  ·show(!((Str.ofString "num")==(Str.ofString "lent")))=true;decide +kernel
theorem Jh(k:Nat){ks:List Rk}(K:qh ks)(x:Str)(dg:Int):run bq (k+1) "_law_numbers" [.ao ((i0 ks).map i8),.str x,.int dg]=some (.own ((zu ks x dg).map f9)):=by
 rw[yI,aV];have mQ:=zh K.ok;have hf:=K.few;obtain⟨o4,o5,o6,e⟩:=BX (run bq k) (.val (.ao ((i0 ks).map i8))) x dg (i0 ks) [] .un .un .un (λs hs=>by
  obtain⟨g1,g2⟩:=EN K.ok s hs;exact⟨uv _ (K.good _ g1.mem).1.2 _ g1.row,g2⟩) (by simp;lia)
 rw[gS]at e;exact A2 (sq (sO rfl (by simp)) (sq (fS rfl e) (A3 rfl)))
theorem ZO:Ar (.int 10) (.int 30)=some (.int (10^30)):=by
 rw[A1,if_pos (by decide)]
 rfl
theorem wO(k:Nat){ks:List Rk}{N:List Sp}(h:∀s∈N,eW ks s)(h0:0<N.length)(C m:Int):∃o,run bq (k+1) "_law_operand" [.int C,.int m,.ao (N.map f9)]=some (.val (iU o))/\nk ks o:=by
 rw[yJ,aV];obtain⟨s,hs,u4⟩:=dZ N f9 (m/20) h0;have hz:0<((N.map f9).length:Int):=by rw[aB];lia
 have t1:toB (af (af (af (rd 1) (kI 5) dq) (kI 4) cj) (kI 0) eu) [.val (.int C),.val (.int m),.val (.ao (N.map f9))]=some (decide (m/5%4=0)):=bT (b2 (b2 (b2 rfl rfl (yX (by decide))) rfl (dE (by decide))) rfl ji)
 by_cases hm:m/5%4=0
 ·rw[gp hm]at t1;exact⟨.n (C%10^30),dt (kz (iT t1 (rS (b2 rfl (b2 rfl rfl ZO) (dE (by decide)))))),trivial⟩
 ·rw[gn hm]at t1;exact⟨.s s,dt (sq (iF t1 rfl) (rS (b2 (b2 (x:=.ao (N.map f9)) rfl (b2 (b2 rfl rfl (yX (by decide))) (bV (cA rfl rfl) rfl) (dE hz)) u4) rfl rfl))),h s hs⟩
def Rt(P:PV->Prop)(x:Option nv):Prop:=∃p,x=some (.rt (.val p))/\P p
theorem Rt.run{x:Option nv}{P:PV->Prop}(h:Rt P x):∃p,fW x=some (.val p)/\P p:=by
 obtain⟨p,a,b⟩:=h;exact⟨p,dt a,b⟩
theorem xS{f g:FS}{ρ fA:aG}{P:PV->Prop}(h:f ρ=some (.nx fA))(k:Rt P (g fA)):Rt P (aJ f g ρ):=by
 obtain⟨p,a,b⟩:=k;exact⟨p,sq h a,b⟩
theorem xI{gc:eY}{f h:FS}{ρ:aG}{b:Bool}{P:PV->Prop}(hc:gc ρ=some b)(ht:b=true->Rt P (f ρ))(hf:b=false->Rt P (h ρ)):Rt P (aJ (fJ gc f λρ=>some (.nx ρ)) h ρ):=by
 cases b with
 | true =>
  obtain⟨p,a,c⟩:=ht rfl;exact⟨p,kz (iT hc a),c⟩
 | false =>
  obtain⟨p,a,c⟩:=hf rfl;exact⟨p,sq (iF hc rfl) a,c⟩
theorem xR{fa:FE}{ρ:aG}{p:PV}{P:PV->Prop}(h:fa ρ=some p)(k:P p):Rt P (bC fa ρ):=⟨p,rS h,k⟩
theorem oB{f g:eY}{ρ:aG}{a b:Bool}(h1:f ρ=some a)(h2:g ρ=some b):Fq f g ρ=some (a || b):=by
 rw[Mo,h1,aQ];cases a with
 | true=>rfl
 | false=>rw[if_neg (by decide),h2];rfl
theorem nD{f g:eY}{ρ:aG}{a b:Bool}(h1:f ρ=some a)(h2:g ρ=some b):gU f g ρ=some (a&&b):=GJ h1 λ_=>h2
def EO(ks:List Rk)(M:Nat)(p:PV):Prop:=∃as,kA ks M p as
theorem Rg(s:Sh):rn false oP (.ao (df (lv s)))=some (.bl ((lv s).any oF)):=by
 have hd:=ue (yw s);show(if fm (df (lv s))<=iZ then some (PV.bl (KZ oP (df (lv s))))else none)=_
 rw[if_pos (by rw[lW];lia),ED]
theorem NF{ks:List Rk}{N:List Sp}(h:∀s∈N,eW ks s):fm (N.map ck)<=2:=ud λx hx=>by
 obtain⟨s,hs,rfl⟩:=bN.mp hx;exact M6 (h s hs)
theorem Rh{ks:List Rk}{N:List Sp}(h:∀s∈N,eW ks s):eu (.ao (N.map ck)) (.ao [])=some (.bl N.isEmpty):=by
 have hd:=NF h;rw[D0 (by simp only[jd,lW];lia)]
 cases N<;>rfl
theorem Ri{ks:List Rk}{N:List Sp}(h:∀s∈N,eW ks s):rm (.ao (N.map ck)) (.ao [])=some (.bl (!N.isEmpty)):=by
 have hd:=NF h;rw[Vi (by simp only[jd,lW];lia)]
 cases N<;>rfl
theorem zi{α:Type}{l:List α}(h:l.isEmpty=false):0<l.length:=by
 cases l with
 | nil=>cases h
 | cons a l=>simp
theorem kh{α:Type}{l:List α}{x:α}(h:x∈l):0<l.length:=by
 cases l with
 | nil=>cases h
 | cons a l=>simp
section
variable {ks:List Rk} (K:qh ks) (M:Nat)
abbrev SL(ks:List Rk):PV:=.ao ((i0 ks).map i8)
theorem uI(K:qh ks):∀s∈i0 ks,eW ks s:=λs hs=>(EN K.ok s hs).1
theorem uJ(K:qh ks):(i0 ks).length<=1000:=by
 have h1:=zh K.ok;have h2:=K.few
 lia
theorem BY{l:List Sp}{f:Sp->Bool}(h:∀s∈l,eW ks s):∀s∈l.filter f,eW ks s:=λs hs=>h s (gT.mp hs).1
def G5(s t:Sp):Bool:=eqT (enc t.r.2.2.2) (enc s.r.2.2.2)&&may t.d
theorem Ji(K:qh ks){s:Sp}(x0 x1 x2 x4 x6 x7 x8:Ent):bG (er [none,none,none,none,some 5] (cF (rd 3)) (cC 3 (aw (ak 1) (aw (ak 2) (aw (ak 3) cx)))) (gU (toB (af (rd 2) (rd 4) eu)) (toB (rd 3))) (rd 1)) [x0,x1,x2,.val (SL ks),x4,.val (enc s.r.2.2.2),x6,x7,x8]=some (.ao (((i0 ks).filter (G5 s)).map ck)):=by
 have hl:=uJ K;refine fF (cT (ps:=(i0 ks).map i8) rfl (by rw[aB];lia) ?_)
 refine eS λt ht=>?_
 have ok:=uI K t ht;have t0:cC 3 (aw (ak 1) (aw (ak 2) (aw (ak 3) cx))) (i8 t) (bA [none,none,none,none,some 5] [x0,x1,x2,.val (SL ks),x4,.val (enc s.r.2.2.2),x6,x7,x8])=some [.un,.val (ck t),.val (enc t.r.2.2.2),.val (.bl (may t.d)),.val (enc s.r.2.2.2)]:=rfl;have g:gU (toB (af (rd 2) (rd 4) eu)) (toB (rd 3)) [.un,.val (ck t),.val (enc t.r.2.2.2),.val (.bl (may t.d)),.val (enc s.r.2.2.2)]=some (G5 s t):=nD (bT (b2 rfl rfl (Sx (yZ ok.ok ok.row) _))) (bT rfl);rw[t0,aQ,g,aQ];cases G5 s t<;>rfl
include K in
theorem Jj(k:Nat)(hk:3<=k)(w:Str)(a b:Int)(h0:0<(i0 ks).length):∃p,run bq (k+2) "_law_carried" [.str w,.int a,.int b,SL ks]=some (.val p)/\EO ks M p:=by
 rw[yK,aV];refine Rt.run ?_;obtain⟨s,hs,u4⟩:=dZ (i0 ks) i8 a h0;have ok:=uI K s hs;have hz:0<(((i0 ks).map i8).length:Int):=by rw[aB];lia
 have h3:=(yZ ok.ok ok.row);have hlv:=wL s.r.2.2.2 k (by have:=h3.2;lia) (by have:=h3.1;have:=Gr s.r.2.2.2;lia)
 obtain⟨G,hG⟩:∃G,G=(i0 ks).filter (G5 s):=⟨_,rfl⟩
 have gc:=Ji K (s:=s) (.val (.str w)) (.val (.int a)) (.val (.int b)) (.val (ck s)) (.val (.bl (may s.d))) .un .un;rw[<-hG]at gc;have hGs:∀t∈G,eW ks t:=by rw[hG];exact BY (uI K)
 obtain⟨o,ho⟩:∃o,o=(lv s.r.2.2.2).any oF:=⟨_,rfl⟩
 have io:=Rg s.r.2.2.2;rw[<-ho]at io;have a1:bx (af (rd 3) (af (rd 1) (b6 cJ (aa (rd 3) ai)) cj) aH) (cC 3 (aw (ak 4) (aw (ak 5) (aw (ak 6) cx)))) [.val (.str w),.val (.int a),.val (.int b),.val (SL ks),.un,.un,.un,.un,.un]=some (.nx [.val (.str w),.val (.int a),.val (.int b),.val (SL ks),.val (ck s),.val (enc s.r.2.2.2),.val (.bl (may s.d)),.un,.un]):=aS (b2 (x:=SL ks) rfl (b2 rfl (bV (cA rfl rfl) rfl) (dE hz)) u4) rfl;refine xS a1 (xS (aS gc rfl) (xS (aS (b2 (x:=oP) rfl (dM (cA rfl rfl) rfl hlv rfl) io) rfl) ?_));refine xI (oB (bT (b2 (x:=.ao (G.map ck)) (y:=.ao []) rfl rfl (Rh hGs))) (nD (bT (b:=iy s.d) rfl) (bT (b:=o) rfl))) (λ_=>?_) λhc=>?_
 ·exact xR (tU (cA rfl (cA rfl rfl)) (by simp)) ⟨_,G4 K M (a:=.n a) trivial⟩
 ·have hGe:G.isEmpty=false:=(Bool.or_eq_false_iff.mp hc).1;obtain⟨t,ht,hgt⟩:=dZ G ck b (zi hGe);have VQ:0<((G.map ck).length:Int):=by have:=zi hGe;rw[aB];lia
  have gx:af (rd 7) (af (rd 2) (b6 cJ (aa (rd 7) ai)) cj) aH [.val (.str w),.val (.int a),.val (.int b),.val (SL ks),.val (ck s),.val (enc s.r.2.2.2),.val (.bl (may s.d)),.val (.ao (G.map ck)),.val (.bl o)]=some (ck t):=b2 (x:=.ao (G.map ck)) rfl (b2 rfl (bV (cA rfl rfl) rfl) (dE VQ)) hgt;refine xI (oB (bT (b:=o) rfl) (nD (bT (b2 (x:=.str w) rfl rfl dJ)) (nB (bT (b:=iy s.d) rfl)))) (λ_=>?_) λ_=>?_
  ·exact xR (tU (cA rfl (cA gx (cA rfl rfl))) (by simp)) ⟨_,Nu K M (hGs t ht) ok⟩
  ·exact xR (tU (cA rfl (cA gx (cA rfl rfl))) (by simp)) ⟨_,Nt K M (hGs t ht) ok⟩
def Rj(s:Sh)(w:Str)(t:Sp):Bool:=eqT (enc t.r.2.2.2) (enc s)&&(may t.d || w==(Str.ofString "lend"))
theorem NG(K:qh ks)(b:Bool)(s:Sh)(w:Str)(x0 x1 x2 x4 x5 x8:Ent):bG (er [none,none,none,none,some 6,some 7] (cF (rd 3)) (cC 3 (aw (ak 1) (aw (ak 2) (aw (ak 3) cx)))) (gU (toB (af (rd 2) (af (rd 4) (kI 1) aH) eu)) (Fq (toB (rd 3)) (toB (af (rd 5) (kS "lend") eu)))) (rd 1)) [x0,x1,x2,.val (SL ks),x4,x5,.val (du (.ho b s)),.val (.str w),x8]=some (.ao (((i0 ks).filter (Rj s w)).map ck)):=by
 have hl:=uJ K;refine fF (cT (ps:=(i0 ks).map i8) rfl (by rw[aB];lia) ?_)
 refine eS λt ht=>?_
 have ok:=uI K t ht;have t0:cC 3 (aw (ak 1) (aw (ak 2) (aw (ak 3) cx))) (i8 t) (bA [none,none,none,none,some 6,some 7] [x0,x1,x2,.val (SL ks),x4,x5,.val (du (.ho b s)),.val (.str w),x8])=some [.un,.val (ck t),.val (enc t.r.2.2.2),.val (.bl (may t.d)),.val (du (.ho b s)),.val (.str w)]:=rfl;have g:gU (toB (af (rd 2) (af (rd 4) (kI 1) aH) eu)) (Fq (toB (rd 3)) (toB (af (rd 5) (kS "lend") eu))) [.un,.val (ck t),.val (enc t.r.2.2.2),.val (.bl (may t.d)),.val (du (.ho b s)),.val (.str w)]=some (Rj s w t):=nD (bT (b2 rfl (b2 rfl rfl (Vn b s)) (Sx (yZ ok.ok ok.row) _))) (oB (bT rfl) (bT (b2 rfl rfl dJ)));rw[t0,aQ,g,aQ];cases Rj s w t<;>rfl
theorem Jk(K:qh ks)(x0 x1 x3 x4 x5 x6 x7 x8:Ent):bG (er [none,none] (cF (rd 2)) (ak 1) (toB (af (af (af (rd 1) (kI 1) aH) (kI 0) aH) (aY (aa (kS "lent") (aa (kS "sole") ai))) (rn false))) (rd 1)) [x0,x1,.val (KL ks),x3,x4,x5,x6,x7,x8]=some (.ao ((ks.filter λq=>iy q.2).map bL)):=by
 have hl:=K.few;refine fF (cT (ps:=ks.map bL) rfl (by rw[aB];lia) ?_)
 refine eS λq hq=>?_
 have t0:ak 1 (bL q) (bA [none,none] [x0,x1,.val (KL ks),x3,x4,x5,x6,x7,x8])=some [.un,.val (bL q)]:=rfl;have g:toB (af (af (af (rd 1) (kI 1) aH) (kI 0) aH) (aY (aa (kS "lent") (aa (kS "sole") ai))) (rn false)) [.un,.val (bL q)]=some (iy q.2):=bT (b2 (b2 (b2 rfl rfl rfl) rfl (lD q.2)) rfl (yP q.2));rw[t0,aQ,g,aQ];cases iy q.2<;>rfl
include K in
theorem Jl(k:Nat)(a b:Int)(hh:∃q∈ks,iy q.2=true):∃p,run bq (k+1) "_law_lending" [.int a,.int b,KL ks,SL ks]=some (.val p)/\EO ks M p:=by
 rw[yL,aV];refine Rt.run ?_;obtain⟨q0,hq0,hi0⟩:=hh;have h0:0<(ks.filter λq=>iy q.2).length:=kh (gT.mpr ⟨hq0,hi0⟩)
 obtain⟨q,hq,u4⟩:=dZ (ks.filter λq=>iy q.2) bL a h0
 obtain⟨hqk,hqi⟩:=gT.mp hq;have hz:0<(((ks.filter λq=>iy q.2).map bL).length:Int):=by rw[aB];lia
 obtain⟨G,hG⟩:∃G,G=(ks.filter λq=>iy q.2).map bL:=⟨_,rfl⟩
 have sc:=Jk K (.val (.int a)) (.val (.int b)) (.val (SL ks)) .un .un .un .un .un;rw[<-hG]at sc u4 hz;obtain⟨x,d⟩:=q;cases d with
 | ow s=>cases hqi
 | ho bb s =>
  obtain⟨w,hw,hwb,e1⟩:∃w:Str,(w="lend"\/w="sole")/\(may (.ho bb s) || w==(Str.ofString "lend"))=true/\af (bG (cB (aa (kS "lend") (aa (kS "sole") ai)))) (b6 xP (aa (af (af (rd 6) (kI 0) aH) (kS "sole") eu) ai)) aH [.val (.int a),.val (.int b),.val (KL ks),.val (SL ks),.val (.ao G),.val (.str x),.val (du (.ho bb s)),.un,.un]=some (.str w):=by
   cases bb with
   | true=>exact⟨"sole",.inr rfl,by show(!((Str.ofString "sole")==(Str.ofString "lent")) || _)=true;decide +kernel,b2 rfl (bV (cA (b2 (b2 rfl rfl (lD _)) rfl dJ) rfl) rfl) (by kernel_rfl)⟩
   | false=>exact⟨"lend",.inl rfl,by show(!((Str.ofString "lent")==(Str.ofString "lent")) || _)=true;decide +kernel,b2 rfl (bV (cA (b2 (b2 rfl rfl (lD _)) rfl dJ) rfl) rfl) (by kernel_rfl)⟩
  have fc:=NG K bb s w (.val (.int a)) (.val (.int b)) (.val (KL ks)) (.val (.ao G)) (.val (.str x)) .un;obtain⟨T,hT⟩:∃T,T=(i0 ks).filter (Rj s w):=⟨_,rfl⟩
  have ZP:0<T.length:=by
   rw[hT];refine kh (gT.mpr ⟨oK hqk,?_⟩);show(eqT (enc s) (enc s)&&(may (.ho bb s) || _))=true;rw[lb,hwb];rfl
  have Kq:∀t∈T,eW ks t:=by rw[hT];exact BY (uI K)
  rw[<-hT]at fc;obtain⟨t,ht,ZQ⟩:=dZ T ck b ZP;have VQ:0<((T.map ck).length:Int):=by rw[aB];lia
  refine xS (aS sc rfl) (xS (aS (b2 (x:=.ao G) rfl (b2 rfl (bV (cA rfl rfl) rfl) (dE hz)) u4) rfl) (xS (aS e1 rfl) (xS (aS fc rfl) (xR (tU (cA rfl (cA rfl (cA (b2 (x:=.ao (T.map ck)) rfl (b2 rfl (bV (cA rfl rfl) rfl) (dE VQ)) ZQ) rfl))) (by simp)) ⟨_,Nx K M hw x (Kq t ht)⟩))))
include K in
theorem Rl(k:Nat)(w:Str)(a:Int){o:Op}(ho:nk ks o)(hw:∃q∈ks,iy q.2=false):∃p,run bq (k+1) "_law_small_row" [.str w,.int a,iU o,SL ks]=some (.val p)/\EO ks M p:=by
 rw[uo,aV];refine Rt.run ?_;have hl:=uJ K;refine xI (bT (b2 (x:=.str w) rfl rfl dJ)) (λ_=>?_) λ_=>?_
 ·have c1:bG (er [none,none,none,none] (cF (rd 3)) (cC 3 (aw (ak 1) (aw (ak 2) (aw (ak 3) cx)))) (gP (toB (af (rd 1) (kI 1) aH))) (rd 1)) [.val (.str w),.val (.int a),.val (iU o),.val (SL ks),.un,.un]=some (.ao (((i0 ks).filter λt=>!iy t.d).map ck)):=by
   refine fF (cT (ps:=(i0 ks).map i8) rfl (by rw[aB];lia) ?_)
   refine eS λt ht=>?_
   have t0:cC 3 (aw (ak 1) (aw (ak 2) (aw (ak 3) cx))) (i8 t) (bA [none,none,none,none] [.val (.str w),.val (.int a),.val (iU o),.val (SL ks),.un,.un])=some [.un,.val (ck t),.val (enc t.r.2.2.2),.val (.bl (may t.d))]:=rfl;have g:gP (toB (af (rd 1) (kI 1) aH)) [.un,.val (ck t),.val (enc t.r.2.2.2),.val (.bl (may t.d))]=some (!iy t.d):=nB (bT rfl);rw[t0,aQ,g,aQ];cases(!iy t.d)<;>rfl
  obtain⟨q,hq,hqi⟩:=hw;obtain⟨T,hT⟩:∃T,T=(i0 ks).filter λt=>!iy t.d:=⟨_,rfl⟩
  have ZP:0<T.length:=by
   rw[hT];exact kh (gT.mpr ⟨oK hq,by show(!iy q.2)=true;rw[hqi];rfl⟩)
  have Kq:∀t∈T,eW ks t:=by rw[hT];exact BY (uI K)
  rw[<-hT]at c1;obtain⟨t,ht,ZQ⟩:=dZ T ck a ZP;have VQ:0<((T.map ck).length:Int):=by rw[aB];lia
  exact xS (aS c1 rfl) (xR (tU (cA rfl (cA (b2 (x:=.ao (T.map ck)) rfl (b2 rfl (bV (cA rfl rfl) rfl) (dE VQ)) ZQ) rfl)) (by simp)) ⟨_,Nv K M (Kq t ht)⟩)
 ·have c1:bG (er [none,none,none,none] (cF (rd 3)) (cC 3 (aw (ak 1) (aw (ak 2) (aw (ak 3) cx)))) (gU (toB (af (af (rd 2) (kI 0) aH) (kS "strip") eu)) (toB (rd 3))) (rd 1)) [.val (.str w),.val (.int a),.val (iU o),.val (SL ks),.un,.un]=some (.ao (((i0 ks).filter λt=>(Gx t.r.2.2.2==(Str.ofString "strip"))&&may t.d).map ck)):=by
   refine fF (cT (ps:=(i0 ks).map i8) rfl (by rw[aB];lia) ?_)
   refine eS λt ht=>?_
   have t0:cC 3 (aw (ak 1) (aw (ak 2) (aw (ak 3) cx))) (i8 t) (bA [none,none,none,none] [.val (.str w),.val (.int a),.val (iU o),.val (SL ks),.un,.un])=some [.un,.val (ck t),.val (enc t.r.2.2.2),.val (.bl (may t.d))]:=rfl;have g:gU (toB (af (af (rd 2) (kI 0) aH) (kS "strip") eu)) (toB (rd 3)) [.un,.val (ck t),.val (enc t.r.2.2.2),.val (.bl (may t.d))]=some ((Gx t.r.2.2.2==(Str.ofString "strip"))&&may t.d):=nD (bT (b2 (b2 rfl rfl (Bx _)) rfl dJ)) (bT rfl);rw[t0,aQ,g,aQ];cases((Gx t.r.2.2.2==(Str.ofString "strip"))&&may t.d)<;>rfl
  obtain⟨T,hT⟩:∃T,T=(i0 ks).filter λt=>(Gx t.r.2.2.2==(Str.ofString "strip"))&&may t.d:=⟨_,rfl⟩
  have Kq:∀t∈T,eW ks t:=by rw[hT];exact BY (uI K)
  rw[<-hT]at c1;refine xS (aS c1 rfl) (xI (nD (bT (b2 (x:=.str w) rfl rfl dJ)) (bT (b2 (x:=.ao (T.map ck)) (y:=.ao []) rfl rfl (Ri Kq)))) (λhc=>?_) λ_=>?_)
  ·have hTe:T.isEmpty=false:=by
    have:=(Ct.mp hc).2;cases h:T.isEmpty
    ·rfl
    ·rw[h]at this;cases this
   obtain⟨t,ht,ZQ⟩:=dZ T ck a (zi hTe);have VQ:0<((T.map ck).length:Int):=by have:=zi hTe;rw[aB];lia
   exact xR (tU (cA rfl (cA (b2 (x:=.ao (T.map ck)) rfl (b2 rfl (bV (cA rfl rfl) rfl) (dE VQ)) ZQ) (cA rfl rfl))) (by simp)) ⟨_,G3 K M (Kq t ht) ho (.inr rfl)⟩
  ·exact xR (tU (cA rfl (cA rfl rfl)) (by simp)) ⟨_,G4 K M ho⟩
abbrev dA(r:Rk):PV:=.str r.1
abbrev gO(r:Option Rk):PV:=.str (BG r)
structure VR (ks:List Rk) (LK OT OW:List Rk) (BK:List (Option Rk)):Prop where
 lk:(∀r∈LK,r∈ks)/\0<LK.length
 ot:(∀r∈OT,r∈ks)/\0<OT.length
 ow:(∀r∈OW,r∈ks)/\0<OW.length
 bk:(∀o∈BK,∀r,o=some r->r∈ks)/\0<BK.length
include K in
theorem DF(k:Nat)(a b:Int)(f0 f1 f2:PV){LK OT OW:List Rk}{BK:List (Option Rk)}(C:VR ks LK OT OW BK)(pl:Int)(hp:0<=pl/\pl<6):∃p,run bq (k+1) "_law_call" [.int a,.int b,.aC [.ao [f0,f1,f2],.ao (LK.map dA),.ao (OT.map dA),.ao (OW.map dA),.ao (BK.map gO),.int pl]]=some (.val p)/\EO ks M p:=by
 rw[IF,aV];refine Rt.run ?_;obtain⟨l1,hl1,al1⟩:=dZ LK dA b C.lk.2;obtain⟨o1,ho1,ao1⟩:=dZ OW dA (b/8) C.ow.2;obtain⟨t1,ht1,at1⟩:=dZ OT dA (b/8) C.ot.2;obtain⟨o2,ho2,ao2⟩:=dZ OW dA (b/64) C.ow.2;obtain⟨l2,OY,al2⟩:=dZ LK dA (a/4) C.lk.2;obtain⟨k1,hk1,ak1⟩:=dZ BK gO (a/4) C.bk.2;have zl:0<((LK.map dA).length:Int):=by have:=C.lk.2;rw[aB];lia
 have zo:0<((OW.map dA).length:Int):=by have:=C.ow.2;rw[aB];lia
 have zt:0<((OT.map dA).length:Int):=by have:=C.ot.2;rw[aB];lia
 have zk:0<((BK.map gO).length:Int):=by have:=C.bk.2;rw[aB];lia
 have hL:∀r∈LK,r∈ks:=C.lk.1
 have hO:∀r∈OW,r∈ks:=C.ow.1
 have hT:∀r∈OT,r∈ks:=C.ot.1
 have hB:∀o∈BK,∀r,o=some r->r∈ks:=C.bk.1
 obtain⟨L,eL⟩:∃L,L=LK.map dA:=⟨_,rfl⟩
 obtain⟨O,eO⟩:∃O,O=OW.map dA:=⟨_,rfl⟩
 obtain⟨T,eT⟩:∃T,T=OT.map dA:=⟨_,rfl⟩
 obtain⟨B,eB⟩:∃B,B=BK.map gO:=⟨_,rfl⟩
 rw[<-eL]at al1 al2 zl;rw[<-eO]at ao1 ao2 zo;rw[<-eT]at at1 zt;rw[<-eB]at ak1 zk;rw[<-eL,<-eO,<-eT,<-eB];obtain⟨CA,ZR⟩:∃CA,CA=PV.aC [.ao [f0,f1,f2],.ao L,.ao T,.ao O,.ao B,.int pl]:=⟨_,rfl⟩
 have e1:bx (rd 2) (cC 6 (aw (ak 3) (aw (ak 4) (aw (ak 5) (aw (ak 6) (aw (ak 7) (aw (ak 8) cx))))))) [.val (.int a),.val (.int b),.val CA,.un,.un,.un,.un,.un,.un,.un]=some (.nx [.val (.int a),.val (.int b),.val CA,.val (.ao [f0,f1,f2]),.val (.ao L),.val (.ao T),.val (.ao O),.val (.ao B),.val (.int pl),.un]):=by rw[ZR];exact aS rfl rfl
 rw[<-ZR];have d4:∀(v:Int) (X:Ent),toB (af (af (rd 0) (kI 4) cj) (cK (.int v)) eu) (dX none [.val (.int a),.val (.int b),.val CA,.val (.ao [f0,f1,f2]),.val (.ao L),.val (.ao T),.val (.ao O),.val (.ao B),.val (.int pl),X])=some (decide (a%4=v)):=λv X=>bT (b2 (b2 (x:=.int a) rfl rfl (dE (by decide))) rfl ji)
 refine xS e1 (xI (d4 0 .un) (λ_=>?_) λ_=>?_)
 ·exact xR (tU (cA rfl (cA rfl (cA (b2 (x:=.ao [f0,f1,f2]) rfl rfl rfl) (cA rfl rfl)))) (by simp)) ⟨_,uG K M f0 (ar:=[]) (λ_ h=>nomatch h) (by simp) (tk:=none) (λ_ h=>nomatch h)⟩
 refine xS (sO (ps:=[dA l1,dA o1]) (lS (cA (b2 (x:=.ao L) rfl (b2 (x:=.int b) rfl (show eV (b6 cJ (aa _ ai)) _=some (.int (L.length:Int))from rfl) (dE zl)) al1) (cA (b2 (x:=.ao O) rfl (b2 (b2 (x:=.int b) rfl rfl (yX (by decide))) (show eV (b6 cJ (aa _ ai)) _=some (.int (O.length:Int))from rfl) (dE zo)) ao1) rfl)) (by simp)) (by simp)) ?_
 refine xI (d4 1 (.own [dA l1,dA o1])) (λ_=>?_) λ_=>?_
 ·have d2:fP (toB (af (af (rd 8) (kI 2) cj) (kI 1) eu)) [.val (.int a),.val (.int b),.val CA,.val (.ao [f0,f1,f2]),.val (.ao L),.val (.ao T),.val (.ao O),.val (.ao B),.val (.int pl),.own [dA l1,dA o1]]=some (decide (pl%2=1)):=bT (b2 (b2 (x:=.int pl) rfl rfl (dE (by decide))) rfl ji)
  have fin:∀(r1 r2:Rk),r1∈ks->r2∈ks->Rt (EO ks M) (me [9] (bC (aY (aa (kS "call") (aa (af (rd 7) (af (af (rd 0) (kI 4) dq) (eV (b6 cJ (aa (rd 7) ai))) cj) aH) (aa (af (rd 3) (kI 1) aH) (aa (b6 mi (aa (rd 9) ai)) ai)))))) [.val (.int a),.val (.int b),.val CA,.val (.ao [f0,f1,f2]),.val (.ao L),.val (.ao T),.val (.ao O),.val (.ao B),.val (.int pl),.own [dA r1,dA r2]]):=by
   intro r1 r2 h1 h2;show Rt _ (bC _ (dX (some [9]) [.val (.int a),.val (.int b),.val CA,.val (.ao [f0,f1,f2]),.val (.ao L),.val (.ao T),.val (.ao O),.val (.ao B),.val (.int pl),.own [dA r1,dA r2]]));refine xR (tU (ps:=[.str "call",gO k1,f1,.aC ([r1,r2].map dA)]) (cA rfl (cA (b2 (x:=.ao B) rfl (b2 (b2 (x:=.int a) rfl rfl (yX (by decide))) (show eV (b6 cJ (aa _ ai)) _=some (.int (B.length:Int))from rfl) (dE zk)) ak1) (cA (b2 (x:=.ao [f0,f1,f2]) rfl rfl rfl) (cA (bV (as:=[.ao ([r1,r2].map dA)]) (cA rfl rfl) rfl) rfl)))) (by simp)) ⟨_,uG K M f1 (ar:=[r1,r2]) (λr hr=>?_) (by simp) (tk:=k1) (λr hr=>hB k1 hk1 r hr)⟩
   simp only[aZ,d3,d8]at hr;rcases hr with rfl | rfl
   ·exact h1
   ·exact h2
  by_cases hb:pl%2=1
  ·rw[gp hb]at d2;exact xS (iT d2 (z:=some (.nx [.val (.int a),.val (.int b),.val CA,.val (.ao [f0,f1,f2]),.val (.ao L),.val (.ao T),.val (.ao O),.val (.ao B),.val (.int pl),.own [dA o1,dA l1]])) rfl) (fin o1 l1 (hO _ ho1) (hL _ hl1))
  ·rw[gn hb]at d2;exact xS (iF d2 rfl) (fin l1 o1 (hL _ hl1) (hO _ ho1))
 ·refine xS (fA:=[.val (.int a),.val (.int b),.val CA,.val (.ao [f0,f1,f2]),.val (.ao L),.val (.ao T),.val (.ao O),.val (.ao B),.val (.int pl),.own [dA l1,dA t1]]) (sO (ps:=[dA l1,dA t1]) (lS (cA (b2 (x:=.ao L) rfl (b2 (x:=.int b) rfl (show eV (b6 cJ (aa _ ai)) _=some (.int (L.length:Int))from rfl) (dE zl)) al1) (cA (b2 (x:=.ao T) rfl (b2 (b2 (x:=.int b) rfl rfl (yX (by decide))) (show eV (b6 cJ (aa _ ai)) _=some (.int (T.length:Int))from rfl) (dE zt)) at1) rfl)) (by simp)) (by simp)) ?_
  obtain⟨j,hj,hj2⟩:∃j:Nat,pl/2=(j:Int)/\j<=2:=⟨(pl/2).toNat,by lia,by lia⟩
  have aet:gI 9 (aa (af (rd 8) (kI 2) dq) (aa (af (rd 6) (af (af (rd 1) (kI 64) dq) (eV (b6 cJ (aa (rd 6) ai))) cj) aH) ai)) xZ [.val (.int a),.val (.int b),.val CA,.val (.ao [f0,f1,f2]),.val (.ao L),.val (.ao T),.val (.ao O),.val (.ao B),.val (.int pl),.own [dA l1,dA t1]]=some (.nx [.val (.int a),.val (.int b),.val CA,.val (.ao [f0,f1,f2]),.val (.ao L),.val (.ao T),.val (.ao O),.val (.ao B),.val (.int pl),.own (([l1,t1].take j++o2::[l1,t1].drop j).map dA)]):=by
   have ar:(aa (af (rd 8) (kI 2) dq) (aa (af (rd 6) (af (af (rd 1) (kI 64) dq) (eV (b6 cJ (aa (rd 6) ai))) cj) aH) ai)) [.val (.int a),.val (.int b),.val CA,.val (.ao [f0,f1,f2]),.val (.ao L),.val (.ao T),.val (.ao O),.val (.ao B),.val (.int pl),.own [dA l1,dA t1]]=some [.int (j:Int),dA o2]:=by
    rw[<-hj];exact cA (b2 (x:=.int pl) rfl rfl (yX (by decide))) (cA (b2 (x:=.ao O) rfl (b2 (b2 (x:=.int b) rfl rfl (yX (by decide))) (show eV (b6 cJ (aa _ ai)) _=some (.int (O.length:Int))from rfl) (dE zo)) ao2) rfl)
   rw[rD];show QA 9 _ xZ _ (some (.own [dA l1,dA t1]))=_;rw[oy,ar,aQ];have:j=0\/j=1\/j=2:=by lia
   rcases this with rfl | rfl | rfl<;>rfl
  refine xS aet ?_;obtain⟨ar,har⟩:∃ar,ar=[l1,t1].take j++o2::[l1,t1].drop j:=⟨_,rfl⟩
  rw[<-har];have ham:(∀r∈ar,r∈ks)/\ar.length<=4:=by
   have:j=0\/j=1\/j=2:=by lia
   rcases this with rfl | rfl | rfl
   all_goals
    rw[har];refine⟨λr hr=>?_,by simp⟩
    simp at hr;rcases hr with rfl | rfl | rfl
    all_goals first | exact hL _ hl1 | exact hT _ ht1 | exact hO _ ho2
  show Rt _ (bC _ (dX (some [9]) [.val (.int a),.val (.int b),.val CA,.val (.ao [f0,f1,f2]),.val (.ao L),.val (.ao T),.val (.ao O),.val (.ao B),.val (.int pl),.own (ar.map dA)]));exact xR (tU (ps:=[.str "call",dA l2,f2,.aC (ar.map dA)]) (cA rfl (cA (b2 (x:=.ao L) rfl (b2 (b2 (x:=.int a) rfl rfl (yX (by decide))) (show eV (b6 cJ (aa _ ai)) _=some (.int (L.length:Int))from rfl) (dE zl)) al2) (cA (b2 (x:=.ao [f0,f1,f2]) rfl rfl rfl) (cA (bV (as:=[.ao (ar.map dA)]) (cA rfl rfl) rfl) rfl)))) (by simp)) ⟨_,uG K M f2 (ar:=ar) ham.1 ham.2 (tk:=some l2) (λr hr=>by cases hr;exact hL _ OY)⟩
end
theorem Rm(m:Int):∃y:Str,aH (.str "+-*") (.int (m%3))=some (.str y):=by
 have:m%3=0\/m%3=1\/m%3=2:=by lia
 rcases this with h | h | h<;>rw[h]
 ·exact⟨"+",by kernel_rfl⟩
 ·exact⟨"-",by kernel_rfl⟩
 ·exact⟨"*",by kernel_rfl⟩
theorem NH{N:List Sp}(hl:N.length<=1000)(x0 x1 x2 x3 x4 x5:Ent)(r:aG):bG (er [none,none,none] (cF (rd 6)) (cC 2 (aw (ak 1) (aw (ak 2) cx))) (toB (rd 2)) (rd 1)) (x0::x1::x2::x3::x4::x5::.val (.ao (N.map f9))::r)=some (.ao ((N.filter λt=>may t.d).map ck)):=by
 refine fF (cT (ps:=N.map f9) rfl (by rw[aB];lia) ?_)
 refine eS λs hs=>?_
 have t:cC 2 (aw (ak 1) (aw (ak 2) cx)) (f9 s) (bA [none,none,none] (x0::x1::x2::x3::x4::x5::.val (.ao (N.map f9))::r))=some [.un,.val (ck s),.val (.bl (may s.d))]:=rfl;have g:toB (rd 2) [.un,.val (ck s),.val (.bl (may s.d))]=some (may s.d):=bT rfl;rw[t,aQ,g,aQ];cases may s.d<;>rfl
abbrev mdT(W:List Str)(ks:List Rk)(x:Str)(dg:Int)(CA ki:PV):PV:=.aC [.ao (W.map .str),KL ks,SL ks,.ao ((zu ks x dg).map f9),CA,ki]
abbrev caT(f0 f1 f2:PV)(LK OT OW:List Rk)(BK:List (Option Rk))(pl:Int):PV:=.aC [.ao [f0,f1,f2],.ao (LK.map dA),.ao (OT.map dA),.ao (OW.map dA),.ao (BK.map gO),.int pl]
theorem ZS(k:Nat)(hk:3<=k){ks:List Rk}(K:qh ks){M:Nat}(hM:0<M){W:List Str}(hW:0<W.length){x:Str}(hx:(x,Kd.ow .num)∈ks)(hh:∃q∈ks,iy q.2=true)(dg:Int)(f0 f1 f2:PV){LK OT OW:List Rk}{BK:List (Option Rk)}(Q:VR ks LK OT OW BK){pl:Int}(hp:0<=pl/\pl<6){ki:PV}(Wo:EO ks M ki)(C:Int) :
  ∃p,run bq (k+3) "_law_row" [.int C,.int (M:Int),mdT W ks x dg (caT f0 f1 f2 LK OT OW BK pl) ki]=some (.val p)/\EO ks M p:=by
 obtain⟨n1,n2,n3⟩:=VP K hx dg;obtain⟨tm,htm,hmy⟩:=n3;obtain⟨N,hN⟩:∃N,N=zu ks x dg:=⟨_,rfl⟩
 rw[<-hN]at n1 n2 htm;have hN0:=kh htm;have h0:0<(i0 ks).length:=kh (oK hx);have hz:0<((W.map PV.str).length:Int):=by rw[aB];lia
 obtain⟨w,_,hwa⟩:=dZ W PV.str (I0 C 0) hW;obtain⟨a,ha⟩:∃a,a=I0 C 1:=⟨_,rfl⟩
 obtain⟨b,hb⟩:∃b,b=I0 C 2:=⟨_,rfl⟩
 have ma:=oJ (k+1) C (i:=1) (by decide)
 have mb:=oJ (k+1) C (i:=2) (by decide)
 have m0:=oJ (k+1) C (i:=0) (by decide)
 rw[<-ha]at ma;rw[<-hb]at mb;obtain⟨one,e1,o1⟩:=wO (ks:=ks) (k+1) n1 hN0 C b;obtain⟨two,e2,o2⟩:=wO (ks:=ks) (k+1) n1 hN0 (C/7) a;obtain⟨pc,c1,c2⟩:=Jj K M k hk w a b h0;obtain⟨pl',l1,l2⟩:=Jl K M (k+1) a b hh;obtain⟨pq,q1,q2⟩:=DF K M (k+1) a b f0 f1 f2 Q pl hp;obtain⟨ps,s1,s2⟩:=Rl K M (k+1) w a o1 ⟨_,hx,rfl⟩;obtain⟨T,hT⟩:∃T,T=N.filter λt=>may t.d:=⟨_,rfl⟩
 have ZP:0<T.length:=by rw[hT];exact kh (gT.mpr ⟨htm,hmy⟩)
 have Kq:∀t∈T,eW ks t:=by rw[hT];exact BY n1
 obtain⟨t,ht,hta⟩:=dZ T ck a ZP;have hTz:0<((T.map ck).length:Int):=by rw[aB];lia
 obtain⟨pm,hpm⟩:=Rm b;obtain⟨j,hj,hjM⟩:∃j:Nat,a%(M:Int)=(j:Int)/\j<M:=⟨(a%(M:Int)).toNat,by
  have:=kJ a (show(M:Int)≠0 by lia)
  lia,by
  have:=rQ a (show(0:Int)<(M:Int) by lia)
  have:=kJ a (show(M:Int)≠0 by lia)
  lia⟩
 have gm:cj (.int a) (.int (M:Int))=some (iN j):=by
  unfold iN;rw[<-hj];exact dE (by lia)
 unfold mdT;rw[<-hN];obtain⟨CA,ZR⟩:∃CA,CA=caT f0 f1 f2 LK OT OW BK pl:=⟨_,rfl⟩
 rw[<-ZR];have q1:run bq (k+2) "_law_call" [.int a,.int b,CA]=some (.val pq):=by rw[ZR];exact q1
 obtain⟨md,ZT⟩:∃md,md=PV.aC [.ao (W.map .str),KL ks,SL ks,.ao (N.map f9),CA,ki]:=⟨_,rfl⟩
 rw[MT,aV];refine Rt.run ?_;have a0:bx (rd 2) (cC 6 (aw (ak 3) (aw (ak 4) (aw (ak 5) (aw (ak 6) (aw (ak 7) (aw (ak 8) cx))))))) [.val (.int C),.val (.int (M:Int)),.val md,.un,.un,.un,.un,.un,.un,.un,.un,.un,.un,.un]=some (.nx [.val (.int C),.val (.int (M:Int)),.val md,.val (.ao (W.map .str)),.val (KL ks),.val (SL ks),.val (.ao (N.map f9)),.val CA,.val ki,.un,.un,.un,.un,.un]):=by rw[ZT];exact aS rfl rfl
 rw[<-ZT];have oc:=NH n2 (.val (.int C)) (.val (.int (M:Int))) (.val md) (.val (.ao (W.map .str))) (.val (KL ks)) (.val (SL ks)) [.val CA,.val ki,.val (.int a),.val (.int b),.val (.str w),.un,.un];rw[<-hT]at oc;refine xS a0 (xS (aS (dM (cA rfl (cA rfl rfl)) rfl ma rfl) rfl) (xS (aS (dM (cA rfl (cA rfl rfl)) rfl mb rfl) rfl) (xS (aS (b2 (x:=.ao (W.map .str)) rfl (b2 (dM (cA rfl (cA rfl rfl)) rfl m0 rfl) (bV (as:=[.ao (W.map .str)]) (cA rfl rfl) rfl) (dE hz)) hwa) rfl) (xS (aS oc rfl) (xS (aS (dM (cA rfl (cA rfl (cA rfl rfl))) rfl e1 rfl) rfl) ?_)))));have wd:∀v:Str,toB (af (rd 11) (kS v) eu) [Ent.val (.int C),.val (.int (M:Int)),.val md,.val (.ao (W.map .str)),.val (KL ks),.val (SL ks),.val (.ao (N.map f9)),.val CA,.val ki,.val (.int a),.val (.int b),.val (.str w),.val (.ao (T.map ck)),.val (iU one)]=some (w==v):=λv=>bT (b2 rfl rfl dJ)
 have ot:af (rd 12) (af (rd 9) (b6 cJ (aa (rd 12) ai)) cj) aH [Ent.val (.int C),.val (.int (M:Int)),.val md,.val (.ao (W.map .str)),.val (KL ks),.val (SL ks),.val (.ao (N.map f9)),.val CA,.val ki,.val (.int a),.val (.int b),.val (.str w),.val (.ao (T.map ck)),.val (iU one)]=some (ck t):=b2 (x:=.ao (T.map ck)) rfl (b2 rfl (bV (as:=[.ao (T.map ck)]) (cA rfl rfl) rfl) (dE hTz)) hta;refine xI (wd "put") (λ_=>?_) λ_=>?_
 ·exact xR (tU (cA rfl (cA ot (cA rfl rfl))) (by simp)) ⟨_,G3 K M (Kq t ht) o1 (.inl rfl)⟩
 refine xI (wd "set") (λ_=>?_) λ_=>?_
 ·exact xR (tU (ps:=[.str "set",ck t,.str pm,iU one,iU two]) (cA rfl (cA ot (cA (b2 rfl (b2 rfl rfl (dE (by decide))) hpm) (cA rfl (cA (dM (cA (b2 rfl rfl (yX (by decide))) (cA rfl (cA rfl rfl))) rfl e2 rfl) rfl))))) (by simp)) ⟨_,Q6 K M (Kq t ht) (.str pm) o1 o2⟩
 refine xI (bT (b2 (x:=.str w) (y:=.aC [.str "copy",.str "move"]) rfl rfl (Zx _ _ _))) (λ_=>?_) λ_=>?_
 ·exact xR (dM (cA rfl (cA rfl (cA rfl (cA rfl rfl)))) rfl c1 rfl) c2
 refine xI (wd "lend") (λ_=>?_) λ_=>?_
 ·exact xR (dM (cA rfl (cA rfl (cA rfl (cA rfl rfl)))) rfl l1 rfl) l2
 refine xI (wd "call") (λ_=>?_) λ_=>?_
 ·exact xR (dM (cA rfl (cA rfl (cA rfl rfl))) rfl q1 rfl) q2
 refine xI (wd "give") (λ_=>?_) λ_=>?_
 ·exact xR rfl Wo
 refine xI (wd "go") (λ_=>?_) λ_=>?_
 ·exact xR (tU (cA rfl (cA (b2 rfl rfl gm) rfl)) (by simp)) ⟨_,VI K M hjM⟩
 refine xI (wd "if") (λ_=>?_) λ_=>?_
 ·exact xR (tU (cA rfl (cA rfl (cA (b2 rfl rfl (dE (by decide))) (cA (b2 rfl rfl gm) rfl)))) (by simp)) ⟨_,VH K M o1 (b%97) hjM⟩
 ·exact xR (dM (cA rfl (cA rfl (cA rfl (cA rfl rfl)))) rfl s1 rfl) s2
def mC(ns:List Int)(i:Nat):Int:=I0 (cell ns (1+i)) (i%4)
abbrev NM(C:Int):PV:=.ao ((List.range 13).map λq=>.str (bW C q))
abbrev CE(ns:List Int):PV:=.ao ((List.range 7).map λi=>.int (mC ns i))
def Ju(ns:List Int):List Sh:=[.num,iz (mC ns 0),iz (mC ns 1),iz (mC ns 2)]
abbrev OE(ns:List Int):PV:=.ao ((Ju ns).map enc)
theorem lI(C:Int){q:Nat}(h:q<13):aH (NM C) (.int (q:Int))=some (.str (bW C q)):=dw (by rw[cm,rP h];rfl)
theorem SD(ns:List Int){q:Nat}(h:q<7):aH (CE ns) (.int (q:Int))=some (.int (mC ns q)):=dw (by rw[cm,rP h];rfl)
theorem VS(ns:List Int):∀s∈Ju ns,eR s:=λs hs=>by
 simp only[Ju,aZ,d3,d8]at hs;rcases hs with rfl | rfl | rfl | rfl
 ·exact NA
 ·exact l7 _
 ·exact l7 _
 ·exact l7 _
theorem oM(k:Nat)(hk:3<=k)(C:Int)(ns:List Int)(S:Ent){i:Nat}(hi:i<4)(acc:ay)(ha:acc.length<=100)(o6 o7:Ent):∃(d:Kd) (Jf Ra:Ent),qd (run bq (k+1)) [S,.val (NM C),.val (.int (i:Int)),.val (CE ns),.val (OE ns),.own acc,o6,o7]=some (.nx [S,.val (NM C),.val (.int (i:Int)),.val (CE ns),.val (OE ns),.own (acc++[bL (bW C (4+i),d)]),Jf,Ra])/\iy d=true/\eR (cR d):=by
 obtain⟨m,hm⟩:∃m,m=mC ns (3+i):=⟨_,rfl⟩
 have hc:=SD ns (q:=3+i) (by lia)
 rw[<-hm]at hc;obtain⟨CC,ZU⟩:∃CC,CC=CE ns:=⟨_,rfl⟩
 rw[<-ZU]at hc;rw[<-ZU];have hn:=lI C (q:=4+i) (by lia)
 obtain⟨NN,zw⟩:∃NN,NN=NM C:=⟨_,rfl⟩
 rw[<-zw]at hn;rw[<-zw];have h3:bQ (.int 3) (.int (i:Int))=some (.int ((3+i:Nat):Int)):=by
  rw[iL];exact dy (λz=>some (PV.int z)) (by lia)
 have h4:bQ (.int 4) (.int (i:Int))=some (.int ((4+i:Nat):Int)):=by
  rw[iL];exact dy (λz=>some (PV.int z)) (by lia)
 obtain⟨s,hs,u4⟩:∃s∈Ju ns,aH (OE ns) (.int (1+m%3))=some (enc s):=by
  have:m%3=0\/m%3=1\/m%3=2:=by lia
  rcases this with h | h | h
  ·rw[h];exact⟨iz (mC ns 0),by simp[Ju],(dw (j:=1) rfl:atI ((Ju ns).map enc) ((1:Nat):Int)=_)⟩
  ·rw[h];exact⟨iz (mC ns 1),by simp[Ju],(dw (j:=2) rfl:atI ((Ju ns).map enc) ((2:Nat):Int)=_)⟩
  ·rw[h];exact⟨iz (mC ns 2),by simp[Ju],(dw (j:=3) rfl:atI ((Ju ns).map enc) ((3:Nat):Int)=_)⟩
 have fs:=VS ns s hs;obtain⟨OO,ZV⟩:∃OO,OO=OE ns:=⟨_,rfl⟩
 rw[<-ZV]at u4;rw[<-ZV];have hp:=zg s k (by have:=fs.1.1.2;lia) (by have:=fs.1.1.1;lia)
 obtain⟨r,hr,hra⟩:=dZ (tab s) jG (m/9) (yy s);have hz:0<(((tab s).map jG).length:Int):=by have:=yy s;rw[aB];lia
 obtain⟨T,hT⟩:∃T,T=(tab s).map jG:=⟨_,rfl⟩
 rw[<-hT]at hp hra hz;obtain⟨b,hb⟩:∃b:Bool,aH (.ao [.str "lent",.str "sole",.str "sole"]) (.int (m/3%3))=some (.str (hw b)):=by
  have:m/3%3=0\/m/3%3=1\/m/3%3=2:=by lia
  rcases this with h | h | h
  ·rw[h];exact⟨false,rfl⟩
  ·rw[h];exact⟨true,rfl⟩
  ·rw[h];exact⟨true,rfl⟩
 refine⟨.ho b r.2.2.2,.val (.ao T),.val (.str (hw b)),?_,rfl,NB fs hr⟩;unfold qd;have c0:∀(x6 x7:Ent),af (rd 3) (af (kI 3) (rd 2) bQ) aH [S,.val NN,.val (.int (i:Int)),.val CC,.val OO,.own acc,x6,x7]=some (.int m):=λx6 x7=>b2 (x:=CC) rfl (b2 (x:=.int 3) (y:=.int (i:Int)) rfl rfl h3) hc
 refine sq (aS (dM (as:=[enc s]) (cA (b2 (x:=OO) rfl (b2 (x:=.int 1) rfl (b2 (c0 _ _) rfl (dE (by decide))) iL) u4) rfl) rfl hp rfl) rfl) (sq (aS (b2 (x:=.ao [.str "lent",.str "sole",.str "sole"]) rfl (b2 (b2 (c0 _ _) rfl (yX (by decide))) rfl (dE (by decide))) hb) rfl) ?_)
 exact mA rfl (tU (cA (b2 (x:=NN) rfl (b2 (x:=.int 4) (y:=.int (i:Int)) rfl rfl h4) hn) (cA (tU (cA rfl (cA (b2 (b2 (x:=.ao T) rfl (b2 (b2 (c0 _ _) rfl (yX (by decide))) (show eV (b6 cJ (aa (rd 6) ai)) _=some (.int (T.length:Int))from rfl) (dE hz)) hra) rfl rfl) rfl)) (by simp)) rfl)) (by simp)) (by lia)
theorem VT(k:Nat)(hk:3<=k)(C:Int)(ns:List Int):∃d4 d5 d6 d7:Kd,run bq (k+2) "_law_lets" [Gi ns,NM C]=some (.own (([(bW C 0,.ow .num),(bW C 1,.ow (iz (mC ns 0))),(bW C 2,.ow (iz (mC ns 1))),(bW C 3,.ow (iz (mC ns 2))),(bW C 4,d4),(bW C 5,d5),(bW C 6,d6),(bW C 7,d7)]:List Rk).map bL))/\(iy d4=true/\eR (cR d4))/\(iy d5=true/\eR (cR d5))/\(iy d6=true/\eR (cR d6))/\(iy d7=true/\eR (cR d7)):=by
 obtain⟨S,hS⟩:∃S,S=Gi ns:=⟨_,rfl⟩
 have kP:∀i:Nat,run bq (k+1) "_law_cell_at" [S,.int (i:Int)]=some (.val (.int (cell ns i))):=λi=>by rw[hS];exact M0 k ns i
 obtain⟨acc,u0⟩:∃acc,acc=(([(bW C 0,.ow .num),(bW C 1,.ow (iz (mC ns 0))),(bW C 2,.ow (iz (mC ns 1))),(bW C 3,.ow (iz (mC ns 2)))]:List Rk).map bL):=⟨_,rfl⟩
 have R7:acc.length=4:=by rw[u0];rfl
 obtain⟨d4,x6,x7,h4,i4⟩:=oM k hk C ns (.val S) (i:=0) (by decide) acc (by lia) .un .un
 obtain⟨d5,y6,y7,h5,i5⟩:=oM k hk C ns (.val S) (i:=1) (by decide) (acc++[bL (bW C 4,d4)]) (by simp;lia) x6 x7
 obtain⟨d6,z6,z7,h6,i6⟩:=oM k hk C ns (.val S) (i:=2) (by decide) (acc++[bL (bW C 4,d4)]++[bL (bW C 5,d5)]) (by simp;lia) y6 y7
 obtain⟨d7,v6,v7,h7,i7⟩:=oM k hk C ns (.val S) (i:=3) (by decide) (acc++[bL (bW C 4,d4)]++[bL (bW C 5,d5)]++[bL (bW C 6,d6)]) (by simp;lia) z6 z7
 refine⟨d4,d5,d6,d7,?_,i4,i5,i6,i7⟩;rw[IE,aV,<-hS];have c1:bG (dB [none,none,some 0] (gF (aa (kI 7) ai)) (ak 1) (aD (aR 2 (run bq (k+1) "_law_mixed")) (aa (aD (aR 2 (run bq (k+1) "_law_cell_at")) (aa (rd 2) (aa (af (kI 1) (rd 1) bQ) ai))) (aa (af (rd 1) (kI 4) cj) ai)))) [.val S,.val (NM C),.un,.un,.un,.un,.un,.un]=some (CE ns):=by
  have hr:gF (aa (kI 7) ai) [.val S,.val (NM C),.un,.un,.un,.un,.un,.un]=some ((List.range 7).map fun(i:Nat)=>PV.int (0+(i:Int))):=hJ (j:=7) rfl (by decide)
  refine fF (cV hr (by simp) (eP λi hi=>?_))
  rw[jW];have t:ak 1 (.int (i:Int)) (bA [none,none,some 0] [.val S,.val (NM C),.un,.un,.un,.un,.un,.un])=some [.un,.val (.int (i:Int)),.val S]:=rfl;rw[t,aQ];have h1:bQ (.int 1) (.int (i:Int))=some (.int ((1+i:Nat):Int)):=by
   rw[iL];exact dy (λz=>some (PV.int z)) (by lia)
  have h2:cj (.int (i:Int)) (.int 4)=some (.int ((i%4:Nat):Int)):=by
   rw[dE (by decide)]
   exact dy (λz=>some (PV.int z)) (by lia)
  exact dM (cA (dM (cA rfl (cA (b2 rfl rfl h1) rfl)) rfl (kP (1+i)) rfl) (cA (b2 rfl rfl h2) rfl)) rfl (oJ k (cell ns (1+i)) (i:=i%4) (by lia)) rfl
 have c2:af (bG (cB (aa (aY (aa (kS "num") ai)) ai))) (bG (dB [none,none,some 3] (gF (aa (kI 3) ai)) (ak 1) (aD (aR 1 (run bq (k+1) "_law_shape")) (aa (af (rd 2) (rd 1) aH) ai)))) bQ [.val S,.val (NM C),.un,.val (CE ns),.un,.un,.un,.un]=some (OE ns):=by
  have hr:gF (aa (kI 3) ai) [.val S,.val (NM C),.un,.val (CE ns),.un,.un,.un,.un]=some ((List.range 3).map fun(i:Nat)=>PV.int (0+(i:Int))):=hJ (j:=3) rfl (by decide)
  have hm:bG (dB [none,none,some 3] (gF (aa (kI 3) ai)) (ak 1) (aD (aR 1 (run bq (k+1) "_law_shape")) (aa (af (rd 2) (rd 1) aH) ai))) [.val S,.val (NM C),.un,.val (CE ns),.un,.un,.un,.un]=some (.ao ((List.range 3).map λi=>enc (iz (mC ns i)))):=by
   refine fF (cV hr (by simp) (eP λi hi=>?_))
   have hi:=e9.mp hi;rw[jW];have hc:=SD ns (q:=i) (by lia)
   obtain⟨CC,ZU⟩:∃CC,CC=CE ns:=⟨_,rfl⟩
   rw[<-ZU]at hc;rw[<-ZU];have t:ak 1 (.int (i:Int)) (bA [none,none,some 3] [.val S,.val (NM C),.un,.val CC,.un,.un,.un,.un])=some [.un,.val (.int (i:Int)),.val CC]:=rfl;rw[t,aQ];exact dM (cA (b2 (x:=CC) rfl rfl hc) rfl) rfl (Q9 k (mC ns i)) rfl
  exact b2 (x:=.ao [nP]) rfl hm (aL (by simp))
 have c3:iY 5 (dB [none,none,some 1,some 4] (gF (aa (kI 4) ai)) (ak 1) (aY (aa (af (rd 2) (rd 1) aH) (aa (af (rd 3) (rd 1) aH) ai)))) [.val S,.val (NM C),.un,.val (CE ns),.val (OE ns),.un,.un,.un]=some (.nx [.val S,.val (NM C),.un,.val (CE ns),.val (OE ns),.own acc,.un,.un]):=by
  have hr:gF (aa (kI 4) ai) [.val S,.val (NM C),.un,.val (CE ns),.val (OE ns),.un,.un,.un]=some ((List.range 4).map fun(i:Nat)=>PV.int (0+(i:Int))):=hJ (j:=4) rfl (by decide)
  refine sO (cV hr (by simp) ?_) (by simp)
  have:acc=(List.range 4).map λi=>PV.aC [.str (bW C i),enc ((Ju ns).getD i .num)]:=by rw[u0];rfl
  rw[this];refine eP λi hi=>?_
  have hi:=e9.mp hi;rw[jW];have hn:=lI C (q:=i) (by lia)
  have ho:aH (OE ns) (.int (i:Int))=some (enc ((Ju ns).getD i .num)):=dw (by
   have:i=0\/i=1\/i=2\/i=3:=by lia
   rcases this with rfl | rfl | rfl | rfl<;>rfl)
  obtain⟨NN,zw⟩:∃NN,NN=NM C:=⟨_,rfl⟩
  rw[<-zw]at hn;rw[<-zw];obtain⟨OO,ZV⟩:∃OO,OO=OE ns:=⟨_,rfl⟩
  rw[<-ZV]at ho;rw[<-ZV];have t:ak 1 (.int (i:Int)) (bA [none,none,some 1,some 4] [.val S,.val NN,.un,.val (CE ns),.val OO,.un,.un,.un])=some [.un,.val (.int (i:Int)),.val NN,.val OO]:=rfl;rw[t,aQ];exact tU (cA (b2 (x:=NN) rfl rfl hn) (cA (b2 (x:=OO) rfl rfl ho) rfl)) (by simp)
 have hr:gF (aa (kI 4) ai) [.val S,.val (NM C),.un,.val (CE ns),.val (OE ns),.own acc,.un,.un]=some [.int ((0:Nat):Int),.int ((1:Nat):Int),.int ((2:Nat):Int),.int ((3:Nat):Int)]:=hJ (j:=4) rfl (by decide)
 have hl:acc++[bL (bW C 4,d4)]++[bL (bW C 5,d5)]++[bL (bW C 6,d6)]++[bL (bW C 7,d7)]=([(bW C 0,.ow .num),(bW C 1,.ow (iz (mC ns 0))),(bW C 2,.ow (iz (mC ns 1))),(bW C 3,.ow (iz (mC ns 2))),(bW C 4,d4),(bW C 5,d5),(bW C 6,d6),(bW C 7,d7)]:List Rk).map bL:=by rw[u0];rfl
 rw[<-hl];exact A2 (sq (aS c1 rfl) (sq (aS c2 rfl) (sq c3 (sq (fS hr (fC rfl h4 (fC rfl h5 (fC rfl h6 (fC rfl h7 rfl))))) (A3 rfl)))))
def fk(ks:List Rk)(d:Kd):List Rk:=ks.filter λq=>eqT (du q.2) (du d)
theorem G6{ks:List Rk}{r:Rk}(h:r∈ks):(∀q∈fk ks r.2,q∈ks)/\0<(fk ks r.2).length:=⟨λq hq=>(gT.mp hq).1,kh (gT.mpr ⟨h,lb _⟩)⟩
theorem rJ{ks:List Rk}(K:qh ks){ρ:aG}{LL:PV}(h8:rd 8 ρ=some (KL ks))(B7:bA [none,none,none,some 4] ρ=[.un,.un,.un,.val LL]){j:Int}{q0:Rk}(hj:aH LL (.int j)=some (bL q0)):bG (er [none,none,none,some 4] (cF (rd 8)) (cC 2 (aw (ak 1) (aw (ak 2) cx))) (toB (af (rd 2) (af (af (rd 3) (cK (.int j)) aH) (kI 1) aH) eu)) (rd 1)) ρ=some (.ao ((fk ks q0.2).map dA)):=by
 have hl:=K.few;refine fF (cT (ps:=ks.map bL) (sV h8 rfl) (by rw[aB];lia) ?_)
 rw[B7];refine eS λq hq=>?_
 have t0:cC 2 (aw (ak 1) (aw (ak 2) cx)) (bL q) [.un,.un,.un,.val LL]=some [.un,.val (.str q.1),.val (du q.2),.val LL]:=rfl;have g:toB (af (rd 2) (af (af (rd 3) (cK (.int j)) aH) (kI 1) aH) eu) [.un,.val (.str q.1),.val (du q.2),.val LL]=some (eqT (du q.2) (du q0.2)):=bT (b2 rfl (b2 (b2 (x:=LL) rfl rfl hj) rfl rfl) (ZA q.2 (K.ok q hq) _));rw[t0,aQ,g,aQ];cases eqT (du q.2) (du q0.2)<;>rfl
theorem mI{n:Nat}{fa fb:FE}{ρ:aG}{ps:ay}{i:Int}{p:PV}(h0:ρ[n]?=some (.own ps))(h:fa ρ=some (.int i))(h2:fb ρ=some p)(hi:0<=i/\i<=1000000)(hl:ps.length<100000):gI n (aa fa (aa fb ai)) xZ ρ=some (.nx (ρ.set n (.own (ps.take i.toNat++p::ps.drop i.toNat)))):=by
 have e:xZ ps [.int i,p]=some (ps.take i.toNat++p::ps.drop i.toNat):=if_pos ⟨hi.1,hi.2,Gq hl⟩;rw[rD,h0,oy,cA h (cA h2 rfl),aQ,e];rfl
theorem Jm(ns:List Int):∃cs:List Int,jz (ns.map PV.int) (some 8) (some 24)=cs.map .int/\cs.length<=16:=by
 have e1:=HT.ri (ns.map PV.int).length 0 8;have e2:=HT.ri (ns.map PV.int).length (ns.map PV.int).length 24;unfold jz;rw[show(some 8:Option Int)=some ((8:Nat):Int)from rfl,show(some 24:Option Int)=some ((24:Nat):Int)from rfl,e1,e2,<-List.map_drop,<-List.map_take]
 exact⟨_,rfl,by rw[o8];lia⟩
theorem ER(C:Int):∀l:List (Fin 26),l.Nodup->(l.map λi=>bW C i.1).Nodup
 | [],_=>xb
 | i::l,h=>by
  rw[eA]at h;rw[bX,eA];refine⟨λhm=>?_,ER C l h.2⟩
  obtain⟨j,hj,e⟩:=bN.mp hm;have:=rH j.2 i.2 e;exact h.1 (by rw[<-Fin.ext this];exact hj)
def NI(C:Int)(pl:Int)(d1 d4:Kd):List Rk:=if pl%2=1 then [(bW C 9,d1),(bW C 8,d4)]else [(bW C 8,d4),(bW C 9,d1)]
abbrev ltA(C:Int)(s1 s2 s3:Sh)(d4 d5 d6 d7:Kd):List Rk:=[(bW C 0,.ow .num),(bW C 1,.ow s1),(bW C 2,.ow s2),(bW C 3,.ow s3),(bW C 4,d4),(bW C 5,d5),(bW C 6,d6),(bW C 7,d7)]
theorem ZW(C pl:Int){s1 s2 s3:Sh}{d4 d5 d6 d7:Kd}(f1:eR s1)(f2:eR s2)(f3:eR s3)(f4:eR (cR d4))(f5:eR (cR d5))(f6:eR (cR d6))(f7:eR (cR d7)):qh (NI C pl (.ow s1) d4++ltA C s1 s2 s3 d4 d5 d6 d7)/\(NI C pl (.ow s1) d4++ltA C s1 s2 s3 d4 d5 d6 d7).length=10:=by
 have L2:(NI C pl (.ow s1) d4++ltA C s1 s2 s3 d4 d5 d6 d7).length=10:=by
  unfold NI;split<;>rfl
 refine⟨⟨?_,?_,by lia,?_⟩,L2⟩
 ·by_cases h:pl%2=1
  ·have:=ER C [9,8,0,1,2,3,4,5,6,7] (by decide)
   unfold NI;rw[if_pos h];exact this
  ·have:=ER C [8,9,0,1,2,3,4,5,6,7] (by decide)
   unfold NI;rw[if_neg h];exact this
 ·intro q hq;rcases cW.mp hq with hq | hq
  ·unfold NI at hq;split at hq
   all_goals
    simp only[aZ,d3,d8]at hq;rcases hq with rfl | rfl
    all_goals first | exact f1 | exact f4
  ·simp only[aZ,d3,d8]at hq;rcases hq with rfl | rfl | rfl | rfl | rfl | rfl | rfl | rfl
   ·exact NA
   ·exact f1
   ·exact f2
   ·exact f3
   ·exact f4
   ·exact f5
   ·exact f6
   ·exact f7
 ·intro q hq;have:∃i,q.1=bW C i:=by
   rcases cW.mp hq with hq | hq
   ·unfold NI at hq;split at hq
    all_goals
     simp only[aZ,d3,d8]at hq;rcases hq with rfl | rfl
     all_goals exact⟨_,rfl⟩
   ·simp only[aZ,d3,d8]at hq;rcases hq with rfl | rfl | rfl | rfl | rfl | rfl | rfl | rfl
    all_goals exact⟨_,rfl⟩
  obtain⟨i,hi⟩:=this;rw[hi];exact Nz C i
theorem uK{ks:List Rk}(K:qh ks){z:Option Rk}(hz:∀r,z=some r->r∈ks):∃as,(∀M,kA ks M (.aC [.str "give",gO z]) as)/\∀M j,qR M j (.aC [.str "give",gO z]):=by
 have nx:∀M j,qR M j (.aC [.str "give",gO z]):=λM j=>⟨"give",rfl,λh=>absurd h (by decide +kernel),λh=>absurd h (by decide +kernel),λh=>absurd h (by decide +kernel)⟩
 cases z with
 | none=>exact⟨_,λM=>Jc K M,nx⟩
 | some r=>exact⟨_,λM=>Nr K M (hz r rfl),nx⟩
theorem uL{C:Int}{a b c:Nat}{da db dc:Kd}(ha:a<26)(hb:b<26)(hc:c<26)(h1:a≠b)(h2:a≠c)(h3:b≠c)(fa:eR (cR da))(fb:eR (cR db))(fc:eR (cR dc)):qh [(bW C a,da),(bW C b,db),(bW C c,dc)]:=by
 refine⟨?_,λq hq=>?_,by simp,λq hq=>?_⟩
 ·have n1:bW C a≠bW C b:=λe=>h1 (rH ha hb e)
  have n2:bW C a≠bW C c:=λe=>h2 (rH ha hc e)
  have n3:bW C b≠bW C c:=λe=>h3 (rH hb hc e)
  simp[n1,n2,n3]
 ·simp only[aZ,d3,d8]at hq;rcases hq with rfl | rfl | rfl
  ·exact fa
  ·exact fb
  ·exact fc
 ·simp only[aZ,d3,d8]at hq;rcases hq with rfl | rfl | rfl<;>exact Nz _ _
theorem NJ{C pl:Int}{d4 d5:Kd}{s1:Sh}(h:0<=pl/\pl<6)(f4:eR (cR d4))(f5:eR (cR d5))(f1:eR s1):∃RH:List Rk,[bL (bW C 0,d4),bL (bW C 1,d5)].take (pl/2).toNat++PV.aC [.str (bW C 2),du (.ow s1)]::[bL (bW C 0,d4),bL (bW C 1,d5)].drop (pl/2).toNat=RH.map bL/\qh RH/\(bW C 0,d4)∈RH:=by
 have h3:pl/2=0\/pl/2=1\/pl/2=2:=by lia
 rcases h3 with e | e | e<;>rw[e]
 ·exact⟨[(bW C 2,.ow s1),(bW C 0,d4),(bW C 1,d5)],rfl,uL (by lia) (by lia) (by lia) (by lia) (by lia) (by lia) f1 f4 f5,by simp⟩
 ·exact⟨[(bW C 0,d4),(bW C 2,.ow s1),(bW C 1,d5)],rfl,uL (by lia) (by lia) (by lia) (by lia) (by lia) (by lia) f4 f1 f5,by simp⟩
 ·exact⟨[(bW C 0,d4),(bW C 1,d5),(bW C 2,.ow s1)],rfl,uL (by lia) (by lia) (by lia) (by lia) (by lia) (by lia) f4 f5 f1,by simp⟩
theorem NK{ks R1 R2:List Rk}(K:qh ks)(AL:ks=R1++R2){fs:ay}{I:Int}{nm res ki:PV}{VU:List c8}(Wo:∀M,kA ks M ki VU)(hnx:∀M j,qR M j ki){L:List (PV×List c8)}(hL:∀q∈L,kA ks (L.length+1) q.1 q.2)(h16:L.length<=16) (u4:atI fs I=some (Ex nm res (.aC (L.map (·.1)++[ki])) R1 R2)):Q1 (Ce ks) 3 fs I nm res R1 R2 (L++[(ki,VU)]):=by
 have dD:(L++[(ki,VU)]).length=L.length+1:=by simp
 have nS:∀q∈L++[(ki,VU)],kA ks (L.length+1) q.1 q.2:=λq hq=>by
  rcases cW.mp hq with h | h
  ·exact hL q h
  ·rw[cu]at h;subst h;exact Wo _
 have em:(L++[(ki,VU)]).map (λq:PV×List c8=>q.1)=L.map (λq:PV×List c8=>q.1)++[ki]:=by rw[cM];rfl
 have hr2:∀r∈R2,r∈ks:=λr hr=>by rw[AL];exact dH _ hr
 refine⟨?_,λk hk q hq=>?_,by lia,by lia,λq hq=>(nS q hq).six,λj p hp=>?_,λq hq=>Jb (nS q hq).ok,λq hq=>(nS q hq).hand,by decide,?_⟩
 ·rw[em];exact u4
 ·refine(nS q hq).made _ k ?_ hk;rw[AL];refine Fe _ _ _ R1 R2 ?_ (by rw[<-AL];exact K.nd)
  have:=dy List.length AL;have:=K.few;rw[bF]at *
  lia
 ·rw[dD];by_cases hj:j<L.length
  ·have HB:(L.map (λq:PV×List c8=>q.1))[j]?=some p:=by
    rw[em,gR (by rw[aB];exact hj)]at hp
    exact hp
   obtain⟨q,hq,rfl⟩:=bN.mp (cS HB);exact(hL q hq).nx j (by lia)
  ·rw[em,iC (by rw[aB];lia),aB]at hp
   have:p=ki:=by
    have:=cS hp;simpa using this
   rw[this];exact hnx _ _
 ·rw[dD,Ce,bF,aB];have h1:=K.few;have:6*(L.length+1)*((ks.length+4)*3)<=102*42:=Nat.mul_le_mul (by lia) (by lia)
  show 6*(L.length+1)*((ks.length+4)*3)<5000
  lia
theorem ZX:Ar (.int 10) (.int 12)=some (.int (10^12)):=by
 rw[A1,if_pos (by decide)]
 rfl
theorem rK(m:Int):m%4=0\/m%4=1\/m%4=2\/m%4=3:=by lia
def PrX(p:PV):Prop:=∃fs,p=.aC fs/\∀I:Int,I=0\/I=1\/I=2->∃X nm res R1 R2 L,Q1 X 3 fs I nm res R1 R2 L
theorem Jn(k:Nat)(hk:3<=k)(ns:List Int){W:List Str}(hW:0<W.length):∃p,run bq (k+4) "_law_program" [Gi ns,.int 16,.ao (W.map .str)]=some (.val p)/\PrX p:=by
 obtain⟨S,hS⟩:∃S,S=Gi ns:=⟨_,rfl⟩
 have kP:run bq (k+3) "_law_cell_at" [S,.int 0]=some (.val (.int (cell ns 0))):=by rw[hS];exact M0 (k+2) ns 0
 obtain⟨C,hC⟩:∃C,C=cell ns 0%10^12:=⟨_,rfl⟩
 have hn:=Q8 (k+2) C;obtain⟨d4,d5,d6,d7,Js,i4,i5,i6,i7⟩:=VT (k+1) (by lia) C ns
 obtain⟨cL,ZY⟩:∃cL,cL=I0 (cell ns 0) 3:=⟨_,rfl⟩
 have hb:=oJ (k+2) (cell ns 0) (i:=3) (by decide)
 rw[<-ZY]at hb;obtain⟨pl,pH⟩:∃pl,pl=cL/1024%6:=⟨_,rfl⟩
 have hp6:0<=pl/\pl<6:=by lia
 have f1:=l7 (mC ns 0);have f2:=l7 (mC ns 1);have f3:=l7 (mC ns 2);obtain⟨s1,e1⟩:∃s,s=iz (mC ns 0):=⟨_,rfl⟩
 obtain⟨s2,e2⟩:∃s,s=iz (mC ns 1):=⟨_,rfl⟩
 obtain⟨s3,e3⟩:∃s,s=iz (mC ns 2):=⟨_,rfl⟩
 rw[<-e1]at f1;rw[<-e2]at f2;rw[<-e3]at f3;rw[<-e1,<-e2,<-e3]at Js;obtain⟨K,hkl⟩:=ZW C pl f1 f2 f3 i4.2 i5.2 i6.2 i7.2;obtain⟨LT,Jv⟩:∃LT,LT=ltA C s1 s2 s3 d4 d5 d6 d7:=⟨_,rfl⟩
 obtain⟨P,hP⟩:∃P,P=NI C pl (.ow s1) d4:=⟨_,rfl⟩
 obtain⟨ks,AL⟩:∃ks,ks=P++LT:=⟨_,rfl⟩
 have Js:run bq (k+1+2) "_law_lets" [Gi ns,NM C]=some (.own (LT.map bL)):=by rw[Jv];exact Js
 rw[<-Jv,<-hP,<-AL]at K hkl;have hPl:P.length=2:=by rw[hP];unfold NI;split<;>rfl
 have hLl:LT.length=8:=by rw[Jv];rfl
 have m0:(bW C 0,Kd.ow .num)∈ks:=by rw[AL,Jv];exact dH _ (by simp)
 have m1:((bW C 1,Kd.ow s1):Rk)∈ks:=by rw[AL,Jv];exact dH _ (by simp)
 have m2:((bW C 2,Kd.ow s2):Rk)∈ks:=by rw[AL,Jv];exact dH _ (by simp)
 have m4:((bW C 4,d4):Rk)∈ks:=by rw[AL,Jv];exact dH _ (by simp)
 have m5:((bW C 5,d5):Rk)∈ks:=by rw[AL,Jv];exact dH _ (by simp)
 obtain⟨LL,VV⟩:∃LL,LL=PV.ao (LT.map bL):=⟨_,rfl⟩
 have l1:aH LL (.int 1)=some (bL (bW C 1,.ow s1)):=by rw[VV,Jv];rfl
 have l2:aH LL (.int 2)=some (bL (bW C 2,.ow s2)):=by rw[VV,Jv];rfl
 have l4:aH LL (.int 4)=some (bL (bW C 4,d4)):=by rw[VV,Jv];rfl
 have l5:aH LL (.int 5)=some (bL (bW C 5,d5)):=by rw[VV,Jv];rfl
 obtain⟨NN,zw⟩:∃NN,NN=NM C:=⟨_,rfl⟩
 have n0:aH NN (.int 0)=some (.str (bW C 0)):=by rw[zw];exact lI C (q:=0) (by decide)
 have n1:aH NN (.int 1)=some (.str (bW C 1)):=by rw[zw];exact lI C (q:=1) (by decide)
 have n2:aH NN (.int 2)=some (.str (bW C 2)):=by rw[zw];exact lI C (q:=2) (by decide)
 have n5:aH NN (.int 5)=some (.str (bW C 5)):=by rw[zw];exact lI C (q:=5) (by decide)
 have n8:aH NN (.int 8)=some (.str (bW C 8)):=by rw[zw];exact lI C (q:=8) (by decide)
 have n9:aH NN (.int 9)=some (.str (bW C 9)):=by rw[zw];exact lI C (q:=9) (by decide)
 have n10:aH NN (.int 10)=some (.str (bW C 10)):=by rw[zw];exact lI C (q:=10) (by decide)
 have n11:aH NN (.int 11)=some (.str (bW C 11)):=by rw[zw];exact lI C (q:=11) (by decide)
 have n12:aH NN (.int 12)=some (.str (bW C 12)):=by rw[zw];exact lI C (q:=12) (by decide)
 have aev:O9 (some 10) none NN=some (.ao [.str (bW C 10),.str (bW C 11),.str (bW C 12)]):=by
  rw[zw];show some (PV.ao (jz _ (some ((10:Nat):Int)) none))=_;rw[ME];rfl
 obtain⟨cs,hcs,aik⟩:=Jm ns;have aew:O9 (some 8) (some 24) S=some (.ao (cs.map .int)):=by
  rw[hS];show some (PV.ao (jz (ns.map .int) (some 8) (some 24)))=_;rw[hcs]
 obtain⟨b5,t5,e5⟩:∃b5 t5,du d5=.aC [.str (hw b5),enc t5]:=by
  cases d5 with
  | ow s=>cases i5.1
  | ho b s=>exact⟨b,s,rfl⟩
 obtain⟨b4,t4,e4⟩:∃b4 t4,du d4=.aC [.str (hw b4),enc t4]:=by
  cases d4 with
  | ow s=>cases i4.1
  | ho b s=>exact⟨b,s,rfl⟩
 obtain⟨res,aex⟩:∃res,aH (.ao [.cE,.aC [.str (hw b5),enc t5,.aC []],.aC [.str (hw b5),enc t5,.aC [.str (bW C 8)]],du (.ow s2)]) (.int (cL%4))=some res:=by
  rcases rK cL with h | h | h | h<;>rw[h]<;>exact⟨_,rfl⟩
 obtain⟨z,hz,hzk⟩:∃z:Option Rk,aH (.ao [.str "",.str (bW C 5),.str (bW C 5),.str (bW C 2)]) (.int (cL%4))=some (gO z)/\∀r,z=some r->r∈ks:=by
  rcases rK cL with h | h | h | h<;>rw[h]
  ·exact⟨none,rfl,λr hr=>by cases hr⟩
  ·exact⟨some _,rfl,λr hr=>by cases hr;exact m5⟩
  ·exact⟨some _,rfl,λr hr=>by cases hr;exact m5⟩
  ·exact⟨some _,rfl,λr hr=>by cases hr;exact m2⟩
 obtain⟨VU,Wo,hlx⟩:=uK K hzk;obtain⟨BK,hBK,hB1,hB2⟩:∃BK:List (Option Rk),aH (.ao [.ao [.str ""],.ao ((fk ks d5).map dA),.ao ((fk ks d5).map dA),.ao ((fk ks (.ow s2)).map dA)]) (.int (cL%4))=some (.ao (BK.map gO))/\(∀o∈BK,∀r,o=some r->r∈ks)/\0<BK.length:=by
  have sm:∀{r:Rk},r∈ks->(∀o∈(fk ks r.2).map some,∀q,o=some q->q∈ks)/\0<((fk ks r.2).map some).length:=λ{r} hr=>by
   obtain⟨g1,g2⟩:=G6 hr;refine⟨λo ho q hq=>?_,by rw[aB];exact g2⟩
   obtain⟨q',NR,rfl⟩:=bN.mp ho;cases hq;exact g1 _ NR
  have mm:∀l:List Rk,(l.map some).map gO=l.map dA:=λl=>by rw[gq];rfl
  rcases rK cL with h | h | h | h<;>rw[h]
  ·refine⟨[none],rfl,λo ho r hr=>?_,by simp⟩
   rw[cu]at ho;rw[ho]at hr;cases hr
  ·exact⟨(fk ks d5).map some,by rw[mm];rfl,sm m5⟩
  ·exact⟨(fk ks d5).map some,by rw[mm];rfl,sm m5⟩
  ·exact⟨(fk ks (.ow s2)).map some,by rw[mm];rfl,sm m2⟩
 have CO:VR ks (fk ks d4) (fk ks d5) (fk ks (.ow s1)) BK:=⟨G6 m4,G6 m5,G6 m1,hB1,hB2⟩;obtain⟨ES,aey⟩:∃v,aH (.ao [.aC [],.aC [.str (bW C 0)],.aC [.str (bW C 1)],.aC [.str (bW C 0),.str (bW C 1)]]) (.int (cL/4%4))=some v:=by
  rcases rK (cL/4)with h | h | h | h<;>rw[h]<;>exact⟨_,rfl⟩
 have aez:=Rb (k+1) (by lia) ks K.ok (by lia)
 have aeA:=Jh (k+2) K (bW C 0) (cL/16%64);have ZZ:=λc:Int=>ZS k hk K (M:=cs.length+1) (by lia) hW m0 ⟨_,m4,i4.1⟩ (cL/16%64) (.str (bW C 10)) (.str (bW C 11)) (.str (bW C 12)) CO hp6 ⟨VU,Wo _⟩ c
 obtain⟨md,ZT⟩:∃md,md=mdT W ks (bW C 0) (cL/16%64) (caT (.str (bW C 10)) (.str (bW C 11)) (.str (bW C 12)) (fk ks d4) (fk ks d5) (fk ks (.ow s1)) BK pl) (.aC [.str "give",gO z]):=⟨_,rfl⟩
 rw[<-ZT]at ZZ;have Z0:∃L:List (PV×List c8),iI (λp=>(ak 1 p [.un,.un,.val (.ao (cs.map .int)),.val md]).bind (aD (aR 3 (run bq (k+3) "_law_row")) (aa (rd 1) (aa (af (b6 cJ (aa (rd 2) ai)) (kI 1) bQ) (aa (rd 3) ai))))) (cs.map .int)=some (L.map (·.1))/\(∀q∈L,kA ks (cs.length+1) q.1 q.2)/\L.length=cs.length:=by
  refine GH λc hc=>?_
  obtain⟨p,h1,as,h2⟩:=ZZ c;refine⟨p,as,?_,h2⟩;have t:ak 1 (.int c) [.un,.un,.val (.ao (cs.map .int)),.val md]=some [.un,.val (.int c),.val (.ao (cs.map .int)),.val md]:=rfl;rw[t,aQ];have hl1:af (b6 cJ (aa (rd 2) ai)) (kI 1) bQ [.un,.val (.int c),.val (.ao (cs.map .int)),.val md]=some (.int ((cs.length+1:Nat):Int)):=by
   refine b2 (bV (as:=[.ao (cs.map .int)]) (cA rfl rfl) (by rw[oz,aB])) rfl ?_
   rw[iL];exact dy (λz=>some (PV.int z)) (by lia)
  exact dM (cA rfl (cA hl1 (cA rfl rfl))) rfl h1 rfl
 obtain⟨L,hL1,hL2,hL3⟩:=Z0;have hLn:L.length<=16:=by lia
 rw[yN,aV,<-hS];obtain⟨WW,hWW⟩:∃WW,WW=PV.ao (W.map .str):=⟨_,rfl⟩
 rw[<-hWW];refine Rt.run ?_;have WG:run bq (k+3) "_law_names" [.int (cell ns 0%10^12),.int 13]=some (.own ((List.range 13).map λq=>.str (bW C q))):=by rw[<-hC];exact hn
 rw[<-hS,<-zw]at Js;have fN:nU (.own ((List.range 13).map λq=>.str (bW C q)))=some NN:=by rw[zw];rfl
 have fL:nU (.own (LT.map bL))=some LL:=by rw[VV];rfl
 have hkk:ks.map bL=P.map bL++LT.map bL:=by rw[AL,cM]
 have fd:cj (.int (cL/1024)) (.int 6)=some (.int pl):=by rw[pH];exact dE (by decide)
 refine xS (fA:=[.val S,.val (.int 16),.val WW,.val NN,.un,.un,.un,.un,.un,.un,.un,.un,.un,.un,.un,.un,.un,.un,.un,.un,.un,.un,.un,.un]) (aS (p:=NN) (dM (cA (b2 (dM (cA rfl (cA rfl rfl)) rfl kP rfl) (b2 rfl rfl ZX) (dE (by decide))) (cA rfl rfl)) rfl WG fN) rfl) ?_
 refine xS (fA:=[.val S,.val (.int 16),.val WW,.val NN,.val LL,.un,.un,.un,.un,.un,.un,.un,.un,.un,.un,.un,.un,.un,.un,.un,.un,.un,.un,.un]) (aS (p:=LL) (dM (cA rfl (cA rfl rfl)) rfl Js fL) rfl) ?_;refine xS (fA:=[.val S,.val (.int 16),.val WW,.val NN,.val LL,.val (.int cL),.un,.un,.un,.un,.un,.un,.un,.un,.un,.un,.un,.un,.un,.un,.un,.un,.un,.un]) (aS (p:=(.int cL)) (dM (cA (dM (cA rfl (cA rfl rfl)) rfl kP rfl) (cA rfl rfl)) rfl hb rfl) rfl) ?_;refine xS (fA:=[.val S,.val (.int 16),.val WW,.val NN,.val LL,.val (.int cL),.val (.int pl),.un,.un,.un,.un,.un,.un,.un,.un,.un,.un,.un,.un,.un,.un,.un,.un,.un]) (aS (p:=(.int pl)) (b2 (b2 rfl rfl (yX (by decide))) rfl fd) rfl) ?_
 refine xS (fA:=[.val S,.val (.int 16),.val WW,.val NN,.val LL,.val (.int cL),.val (.int pl),.own [bL (bW C 8,d4),bL (bW C 9,.ow s1)],.un,.un,.un,.un,.un,.un,.un,.un,.un,.un,.un,.un,.un,.un,.un,.un]) (sO (ps:=[bL (bW C 8,d4),bL (bW C 9,.ow s1)]) (lS (cA (tU (cA (b2 (x:=NN) rfl rfl n8) (cA (b2 (b2 (x:=LL) rfl rfl l4) rfl rfl) rfl)) (by simp)) (cA (tU (cA (b2 (x:=NN) rfl rfl n9) (cA (b2 (b2 (x:=LL) rfl rfl l1) rfl rfl) rfl)) (by simp)) rfl)) (by simp)) (by simp)) ?_
 refine xS (fA:=[.val S,.val (.int 16),.val WW,.val NN,.val LL,.val (.int cL),.val (.int pl),.own (P.map bL),.un,.un,.un,.un,.un,.un,.un,.un,.un,.un,.un,.un,.un,.un,.un,.un]) ?_ ?_
 ·have d2:fP (toB (af (af (rd 6) (kI 2) cj) (kI 1) eu)) [.val S,.val (.int 16),.val WW,.val NN,.val LL,.val (.int cL),.val (.int pl),.own [bL (bW C 8,d4),bL (bW C 9,.ow s1)],.un,.un,.un,.un,.un,.un,.un,.un,.un,.un,.un,.un,.un,.un,.un,.un]=some (decide (pl%2=1)):=bT (b2 (b2 (x:=.int pl) rfl rfl (dE (by decide))) rfl ji)
  rw[hP];unfold NI;by_cases h:pl%2=1
  ·rw[gp h]at d2;rw[if_pos h];exact iT d2 rfl
  ·rw[gn h]at d2;rw[if_neg h];exact iF d2 rfl
 refine xS (fA:=[.val S,.val (.int 16),.val WW,.val NN,.val LL,.val (.int cL),.val (.int pl),.val (.ao (P.map bL)),.val (KL ks),.un,.un,.un,.un,.un,.un,.un,.un,.un,.un,.un,.un,.un,.un,.un]) ?_ ?_
 ·show bx _ _ (dX (some [7]) [.val S,.val (.int 16),.val WW,.val NN,.val LL,.val (.int cL),.val (.int pl),.own (P.map bL),.un,.un,.un,.un,.un,.un,.un,.un,.un,.un,.un,.un,.un,.un,.un,.un])=_;unfold KL;rw[hkk];exact aS (p:=.ao (P.map bL++LT.map bL)) (b2 (x:=.ao (P.map bL)) (y:=.ao (LT.map bL)) rfl (by rw[VV];rfl) (aL (by rw[aB,aB];lia))) rfl
 refine xS (fA:=[.val S,.val (.int 16),.val WW,.val NN,.val LL,.val (.int cL),.val (.int pl),.val (.ao (P.map bL)),.val (KL ks),.val res,.un,.un,.un,.un,.un,.un,.un,.un,.un,.un,.un,.un,.un,.un]) (aS (p:=res) (b2 (x:=.ao [.cE,.aC [.str (hw b5),enc t5,.aC []],.aC [.str (hw b5),enc t5,.aC [.str (bW C 8)]],du (.ow s2)]) (fF (lS (cA rfl (cA (b2 (x:=.aC [.str (hw b5),enc t5]) (y:=.aC [.aC []]) (b2 (b2 (x:=LL) rfl rfl l5) rfl (dy some e5)) rfl (aT (by simp))) (cA (b2 (x:=.aC [.str (hw b5),enc t5]) (y:=.aC [.aC [.str (bW C 8)]]) (b2 (b2 (x:=LL) rfl rfl l5) rfl (dy some e5)) (tU (cA (tU (cA (b2 (x:=NN) rfl rfl n8) rfl) (by simp)) rfl) (by simp)) (aT (by simp))) (cA (b2 (b2 (x:=LL) rfl rfl l2) rfl rfl) rfl)))) (by simp))) (b2 (x:=.int cL) rfl rfl (dE (by decide))) aex) rfl) ?_
 refine xS (fA:=[.val S,.val (.int 16),.val WW,.val NN,.val LL,.val (.int cL),.val (.int pl),.val (.ao (P.map bL)),.val (KL ks),.val res,.val (.aC [.str "give",gO z]),.un,.un,.un,.un,.un,.un,.un,.un,.un,.un,.un,.un,.un]) (aS (p:=(.aC [.str "give",gO z])) (tU (cA rfl (cA (b2 (x:=.ao [.str "",.str (bW C 5),.str (bW C 5),.str (bW C 2)]) (fF (lS (cA rfl (cA (b2 (x:=NN) rfl rfl n5) (cA (b2 (x:=NN) rfl rfl n5) (cA (b2 (x:=NN) rfl rfl n2) rfl)))) (by simp))) (b2 (x:=.int cL) rfl rfl (dE (by decide))) hz) rfl)) (by simp)) rfl) ?_
 refine xS (fA:=[.val S,.val (.int 16),.val WW,.val NN,.val LL,.val (.int cL),.val (.int pl),.val (.ao (P.map bL)),.val (KL ks),.val res,.val (.aC [.str "give",gO z]),.val (.ao ((fk ks d4).map dA)),.un,.un,.un,.un,.un,.un,.un,.un,.un,.un,.un,.un]) (aS (p:=(.ao ((fk ks d4).map dA))) (rJ K (LL:=LL) rfl rfl l4) rfl) ?_;refine xS (fA:=[.val S,.val (.int 16),.val WW,.val NN,.val LL,.val (.int cL),.val (.int pl),.val (.ao (P.map bL)),.val (KL ks),.val res,.val (.aC [.str "give",gO z]),.val (.ao ((fk ks d4).map dA)),.val (.ao ((fk ks d5).map dA)),.un,.un,.un,.un,.un,.un,.un,.un,.un,.un,.un]) (aS (p:=(.ao ((fk ks d5).map dA))) (rJ K (LL:=LL) rfl rfl l5) rfl) ?_;refine xS (fA:=[.val S,.val (.int 16),.val WW,.val NN,.val LL,.val (.int cL),.val (.int pl),.val (.ao (P.map bL)),.val (KL ks),.val res,.val (.aC [.str "give",gO z]),.val (.ao ((fk ks d4).map dA)),.val (.ao ((fk ks d5).map dA)),.val (.ao ((fk ks (.ow s1)).map dA)),.un,.un,.un,.un,.un,.un,.un,.un,.un,.un]) (aS (p:=(.ao ((fk ks (.ow s1)).map dA))) (rJ K (LL:=LL) rfl rfl l1) rfl) ?_;refine xS (fA:=[.val S,.val (.int 16),.val WW,.val NN,.val LL,.val (.int cL),.val (.int pl),.val (.ao (P.map bL)),.val (KL ks),.val res,.val (.aC [.str "give",gO z]),.val (.ao ((fk ks d4).map dA)),.val (.ao ((fk ks d5).map dA)),.val (.ao ((fk ks (.ow s1)).map dA)),.val (.ao (BK.map gO)),.un,.un,.un,.un,.un,.un,.un,.un,.un]) (aS (p:=(.ao (BK.map gO))) (b2 (x:=.ao [.ao [.str ""],.ao ((fk ks d5).map dA),.ao ((fk ks d5).map dA),.ao ((fk ks (.ow s2)).map dA)]) (fF (lS (cA rfl (cA rfl (cA rfl (cA (rJ K (LL:=LL) rfl rfl l2) rfl)))) (by simp))) (b2 (x:=.int cL) rfl rfl (dE (by decide))) hBK) rfl) ?_
 refine xS (fA:=[.val S,.val (.int 16),.val WW,.val NN,.val LL,.val (.int cL),.val (.int pl),.val (.ao (P.map bL)),.val (KL ks),.val res,.val (.aC [.str "give",gO z]),.val (.ao ((fk ks d4).map dA)),.val (.ao ((fk ks d5).map dA)),.val (.ao ((fk ks (.ow s1)).map dA)),.val (.ao (BK.map gO)),.val (SL ks),.un,.un,.un,.un,.un,.un,.un,.un]) (aS (p:=(SL ks)) (dM (as:=[KL ks]) (cA rfl rfl) rfl aez rfl) rfl) ?_;refine xS (fA:=[.val S,.val (.int 16),.val WW,.val NN,.val LL,.val (.int cL),.val (.int pl),.val (.ao (P.map bL)),.val (KL ks),.val res,.val (.aC [.str "give",gO z]),.val (.ao ((fk ks d4).map dA)),.val (.ao ((fk ks d5).map dA)),.val (.ao ((fk ks (.ow s1)).map dA)),.val (.ao (BK.map gO)),.val (SL ks),.val (.ao ((zu ks (bW C 0) (cL/16%64)).map f9)),.un,.un,.un,.un,.un,.un,.un]) (aS (p:=(.ao ((zu ks (bW C 0) (cL/16%64)).map f9))) (dM (as:=[SL ks,.str (bW C 0),.int (cL/16%64)]) (cA rfl (cA (b2 (x:=NN) rfl rfl n0) (cA (b2 (b2 (x:=.int cL) rfl rfl (yX (by decide))) rfl (dE (by decide))) rfl))) rfl aeA rfl) rfl) ?_
 refine xS (fA:=[.val S,.val (.int 16),.val WW,.val NN,.val LL,.val (.int cL),.val (.int pl),.val (.ao (P.map bL)),.val (KL ks),.val res,.val (.aC [.str "give",gO z]),.val (.ao ((fk ks d4).map dA)),.val (.ao ((fk ks d5).map dA)),.val (.ao ((fk ks (.ow s1)).map dA)),.val (.ao (BK.map gO)),.val (SL ks),.val (.ao ((zu ks (bW C 0) (cL/16%64)).map f9)),.val md,.un,.un,.un,.un,.un,.un]) (aS (p:=md) ?_ rfl) ?_
 ·rw[ZT];unfold mdT caT;rw[<-hWW];exact tU (cA rfl (cA rfl (cA rfl (cA rfl (cA (tU (cA (x:=.ao [.str (bW C 10),.str (bW C 11),.str (bW C 12)]) aev (cA rfl (cA rfl (cA rfl (cA rfl (cA rfl rfl)))))) (by simp)) (cA rfl rfl)))))) (by simp)
 refine xS (fA:=[.val S,.val (.int 16),.val WW,.val NN,.val LL,.val (.int cL),.val (.int pl),.val (.ao (P.map bL)),.val (KL ks),.val res,.val (.aC [.str "give",gO z]),.val (.ao ((fk ks d4).map dA)),.val (.ao ((fk ks d5).map dA)),.val (.ao ((fk ks (.ow s1)).map dA)),.val (.ao (BK.map gO)),.val (SL ks),.val (.ao ((zu ks (bW C 0) (cL/16%64)).map f9)),.val md,.val (.ao (cs.map .int)),.un,.un,.un,.un,.un]) (aS (p:=(.ao (cs.map .int))) (aew) rfl) ?_;refine xS (fA:=[.val S,.val (.int 16),.val WW,.val NN,.val LL,.val (.int cL),.val (.int pl),.val (.ao (P.map bL)),.val (KL ks),.val res,.val (.aC [.str "give",gO z]),.val (.ao ((fk ks d4).map dA)),.val (.ao ((fk ks d5).map dA)),.val (.ao ((fk ks (.ow s1)).map dA)),.val (.ao (BK.map gO)),.val (SL ks),.val (.ao ((zu ks (bW C 0) (cL/16%64)).map f9)),.val md,.val (.ao (cs.map .int)),.val (.ao (L.map (λq:PV×List c8=>q.1)++[.aC [.str "give",gO z]])),.un,.un,.un,.un]) (aS (p:=(.ao (L.map (λq:PV×List c8=>q.1)++[.aC [.str "give",gO z]]))) (b2 (fF (cV (ps:=cs.map .int) rfl (by rw[aB];lia) hL1)) (fF (lS (cA rfl rfl) (by simp))) (aL (by simp only[aB,bt,iG];lia))) rfl) ?_
 refine xS (fA:=[.val S,.val (.int 16),.val WW,.val NN,.val LL,.val (.int cL),.val (.int pl),.val (.ao (P.map bL)),.val (KL ks),.val res,.val (.aC [.str "give",gO z]),.val (.ao ((fk ks d4).map dA)),.val (.ao ((fk ks d5).map dA)),.val (.ao ((fk ks (.ow s1)).map dA)),.val (.ao (BK.map gO)),.val (SL ks),.val (.ao ((zu ks (bW C 0) (cL/16%64)).map f9)),.val md,.val (.ao (cs.map .int)),.val (.ao (L.map (λq:PV×List c8=>q.1)++[.aC [.str "give",gO z]])),.val ES,.un,.un,.un]) (aS (p:=ES) (b2 (x:=.ao [.aC [],.aC [.str (bW C 0)],.aC [.str (bW C 1)],.aC [.str (bW C 0),.str (bW C 1)]]) (fF (lS (cA rfl (cA (tU (cA (b2 (x:=NN) rfl rfl n0) rfl) (by simp)) (cA (tU (cA (b2 (x:=NN) rfl rfl n1) rfl) (by simp)) (cA (tU (cA (b2 (x:=NN) rfl rfl n0) (cA (b2 (x:=NN) rfl rfl n1) rfl)) (by simp)) rfl)))) (by simp))) (b2 (b2 (x:=.int cL) rfl rfl (yX (by decide))) rfl (dE (by decide))) aey) rfl) ?_
 refine xS (fA:=[.val S,.val (.int 16),.val WW,.val NN,.val LL,.val (.int cL),.val (.int pl),.val (.ao (P.map bL)),.val (KL ks),.val res,.val (.aC [.str "give",gO z]),.val (.ao ((fk ks d4).map dA)),.val (.ao ((fk ks d5).map dA)),.val (.ao ((fk ks (.ow s1)).map dA)),.val (.ao (BK.map gO)),.val (SL ks),.val (.ao ((zu ks (bW C 0) (cL/16%64)).map f9)),.val md,.val (.ao (cs.map .int)),.val (.ao (L.map (λq:PV×List c8=>q.1)++[.aC [.str "give",gO z]])),.val ES,.own [bL (bW C 0,d4),bL (bW C 1,d5)],.un,.un]) (sO (ps:=[bL (bW C 0,d4),bL (bW C 1,d5)]) (lS (cA (tU (cA (b2 (x:=NN) rfl rfl n0) (cA (b2 (b2 (x:=LL) rfl rfl l4) rfl rfl) rfl)) (by simp)) (cA (tU (cA (b2 (x:=NN) rfl rfl n1) (cA (b2 (b2 (x:=LL) rfl rfl l5) rfl rfl) rfl)) (by simp)) rfl)) (by simp)) (by simp)) ?_
 obtain⟨hd,hhd⟩:∃hd,hd=[bL (bW C 0,d4),bL (bW C 1,d5)].take (pl/2).toNat++PV.aC [.str (bW C 2),du (.ow s1)]::[bL (bW C 0,d4),bL (bW C 1,d5)].drop (pl/2).toNat:=⟨_,rfl⟩
 refine xS (fA:=[.val S,.val (.int 16),.val WW,.val NN,.val LL,.val (.int cL),.val (.int pl),.val (.ao (P.map bL)),.val (KL ks),.val res,.val (.aC [.str "give",gO z]),.val (.ao ((fk ks d4).map dA)),.val (.ao ((fk ks d5).map dA)),.val (.ao ((fk ks (.ow s1)).map dA)),.val (.ao (BK.map gO)),.val (SL ks),.val (.ao ((zu ks (bW C 0) (cL/16%64)).map f9)),.val md,.val (.ao (cs.map .int)),.val (.ao (L.map (λq:PV×List c8=>q.1)++[.aC [.str "give",gO z]])),.val ES,.own hd,.un,.un]) ?_ ?_
 ·rw[hhd];exact mI (ps:=[bL (bW C 0,d4),bL (bW C 1,d5)]) (i:=pl/2) rfl (b2 (x:=.int pl) rfl rfl (yX (by decide))) (tU (cA (b2 (x:=NN) rfl rfl n2) (cA (b2 (b2 (x:=LL) rfl rfl l1) rfl rfl) rfl)) (by simp)) (by lia) (by simp)
 refine xS (fA:=[.val S,.val (.int 16),.val WW,.val NN,.val LL,.val (.int cL),.val (.int pl),.val (.ao (P.map bL)),.val (KL ks),.val res,.val (.aC [.str "give",gO z]),.val (.ao ((fk ks d4).map dA)),.val (.ao ((fk ks d5).map dA)),.val (.ao ((fk ks (.ow s1)).map dA)),.val (.ao (BK.map gO)),.val (SL ks),.val (.ao ((zu ks (bW C 0) (cL/16%64)).map f9)),.val md,.val (.ao (cs.map .int)),.val (.ao (L.map (λq:PV×List c8=>q.1)++[.aC [.str "give",gO z]])),.val ES,.val (.ao hd),.val (.aC [.str (bW C 12),.aC hd,.aC [.str (hw b4),enc t4,ES],.aC [],.aC [.aC [.str "give",.str (bW C 0)]]]),.un]) ?_ ?_
 ·show bx _ _ (dX (some [21]) [.val S,.val (.int 16),.val WW,.val NN,.val LL,.val (.int cL),.val (.int pl),.val (.ao (P.map bL)),.val (KL ks),.val res,.val (.aC [.str "give",gO z]),.val (.ao ((fk ks d4).map dA)),.val (.ao ((fk ks d5).map dA)),.val (.ao ((fk ks (.ow s1)).map dA)),.val (.ao (BK.map gO)),.val (SL ks),.val (.ao ((zu ks (bW C 0) (cL/16%64)).map f9)),.val md,.val (.ao (cs.map .int)),.val (.ao (L.map (λq:PV×List c8=>q.1)++[.aC [.str "give",gO z]])),.val ES,.own hd,.un,.un])=_
  exact aS (p:=(.aC [.str (bW C 12),.aC hd,.aC [.str (hw b4),enc t4,ES],.aC [],.aC [.aC [.str "give",.str (bW C 0)]]])) (tU (cA (b2 (x:=NN) rfl rfl n12) (cA (x:=.aC hd) (bV (as:=[.ao hd]) (cA rfl rfl) rfl) (cA (x:=.aC [.str (hw b4),enc t4,ES]) (b2 (x:=.aC [.str (hw b4),enc t4]) (y:=.aC [ES]) (b2 (b2 (x:=LL) rfl rfl l4) rfl (dy some e4)) (tU (cA rfl rfl) (by simp)) (aT (by simp))) (cA rfl (cA (tU (cA (tU (cA rfl (cA (b2 (x:=NN) rfl rfl n0) rfl)) (by simp)) rfl) (by simp)) rfl))))) (by simp)) rfl
 refine xS (fA:=[.val S,.val (.int 16),.val WW,.val NN,.val LL,.val (.int cL),.val (.int pl),.val (.ao (P.map bL)),.val (KL ks),.val res,.val (.aC [.str "give",gO z]),.val (.ao ((fk ks d4).map dA)),.val (.ao ((fk ks d5).map dA)),.val (.ao ((fk ks (.ow s1)).map dA)),.val (.ao (BK.map gO)),.val (SL ks),.val (.ao ((zu ks (bW C 0) (cL/16%64)).map f9)),.val md,.val (.ao (cs.map .int)),.val (.ao (L.map (λq:PV×List c8=>q.1)++[.aC [.str "give",gO z]])),.val ES,.val (.ao hd),.val (.aC [.str (bW C 12),.aC hd,.aC [.str (hw b4),enc t4,ES],.aC [],.aC [.aC [.str "give",.str (bW C 0)]]]),.val (Ex (.str (bW C 11)) res (.aC (L.map (λq:PV×List c8=>q.1)++[.aC [.str "give",gO z]])) P LT)]) ?_ ?_
 ·show bx _ _ (dX (some [7]) [.val S,.val (.int 16),.val WW,.val NN,.val LL,.val (.int cL),.val (.int pl),.val (.ao (P.map bL)),.val (KL ks),.val res,.val (.aC [.str "give",gO z]),.val (.ao ((fk ks d4).map dA)),.val (.ao ((fk ks d5).map dA)),.val (.ao ((fk ks (.ow s1)).map dA)),.val (.ao (BK.map gO)),.val (SL ks),.val (.ao ((zu ks (bW C 0) (cL/16%64)).map f9)),.val md,.val (.ao (cs.map .int)),.val (.ao (L.map (λq:PV×List c8=>q.1)++[.aC [.str "give",gO z]])),.val ES,.val (.ao hd),.val (.aC [.str (bW C 12),.aC hd,.aC [.str (hw b4),enc t4,ES],.aC [],.aC [.aC [.str "give",.str (bW C 0)]]]),.un])=_
  exact aS (p:=(Ex (.str (bW C 11)) res (.aC (L.map (λq:PV×List c8=>q.1)++[.aC [.str "give",gO z]])) P LT)) (tU (cA (b2 (x:=NN) rfl rfl n11) (cA (x:=.aC (P.map bL)) (bV (as:=[.ao (P.map bL)]) (cA rfl rfl) rfl) (cA rfl (cA (x:=.aC (LT.map bL)) (bV (as:=[.ao (LT.map bL)]) (cA (by rw[VV];rfl) rfl) rfl) (cA (x:=.aC (L.map (λq:PV×List c8=>q.1)++[.aC [.str "give",gO z]])) (bV (as:=[.ao (L.map (λq:PV×List c8=>q.1)++[.aC [.str "give",gO z]])]) (cA rfl rfl) rfl) rfl))))) (by simp)) rfl
 refine xR (tU (ps:=[.aC [.str (bW C 10),.aC [],.cE,.aC [],.aC [.aC [.str "give",.str ""]]],(Ex (.str (bW C 11)) res (.aC (L.map (λq:PV×List c8=>q.1)++[.aC [.str "give",gO z]])) P LT),(.aC [.str (bW C 12),.aC hd,.aC [.str (hw b4),enc t4,ES],.aC [],.aC [.aC [.str "give",.str (bW C 0)]]])]) (cA (tU (cA (b2 (x:=NN) rfl rfl n10) (cA rfl (cA rfl (cA rfl (cA rfl rfl))))) (by simp)) (cA rfl (cA rfl rfl))) (by simp)) ⟨_,rfl,λI hI=>?_⟩
 rcases hI with rfl | rfl | rfl
 ·have K0:qh []:=⟨.nil,(λ_ z=>nomatch z),by simp,λ_ z=>nomatch z⟩
  obtain⟨la0,g1,g2⟩:=uK K0 (z:=none) λ_ z=>nomatch z
  exact⟨_,_,_,_,_,_,NK K0 (R1:=[]) (R2:=[]) rfl g1 g2 (L:=[]) (λ_ z=>nomatch z) (gr _) rfl⟩
 ·exact⟨_,_,_,_,_,_,NK K AL Wo hlx (by rw[hL3];exact hL2) hLn rfl⟩
 ·obtain⟨RH,r1,r2,r3⟩:=NJ (C:=C) (pl:=pl) hp6 i4.2 i5.2 f1;obtain⟨la2,g1,g2⟩:=uK r2 (z:=some (bW C 0,d4)) λ_ z=>by cases z;exact r3
  rw[hhd,r1];exact⟨_,_,_,_,_,_,NK r2 (R1:=RH) (R2:=[]) (gG _).symm g1 g2 (L:=[]) (λ_ z=>nomatch z) (gr _) rfl⟩
theorem NL(ns:List Int)(h:ns.length<=63):run bq 30 "law" [Gi ns]=some (.val (.bl true)):=by
 obtain⟨p,hp,fs,rfl,ok⟩:=Jn 25 (by decide) ns (W:=w19) (by decide)
 exact VC 29 (by decide) ns hp ok
end cz
namespace cz
open PySem L2 L2.PL
noncomputable def aeB:List Pos:=[⟨49,11,49,17⟩,⟨49,19,49,27⟩,⟨50,4,50,8⟩,⟨50,11,50,13⟩,⟨50,4,50,13⟩,⟨51,4,51,9⟩,⟨51,12,51,14⟩,⟨51,4,51,14⟩,⟨52,4,52,12⟩,⟨52,13,52,17⟩,⟨52,19,52,24⟩,⟨52,26,52,32⟩,⟨52,35,52,36⟩,⟨52,34,52,36⟩,⟨52,4,52,37⟩,⟨52,4,52,37⟩,⟨53,4,53,5⟩,⟨53,8,53,9⟩,⟨53,4,53,9⟩,⟨54,10,54,11⟩,⟨54,14,54,17⟩,⟨54,18,54,22⟩,⟨54,14,54,23⟩,⟨54,10,54,23⟩,⟨55,8,55,16⟩,⟨55,17,55,21⟩,⟨55,23,55,28⟩,⟨55,30,55,38⟩,⟨55,39,55,43⟩,⟨55,44,55,45⟩,⟨55,39,55,46⟩,⟨55,49,55,50⟩,⟨55,48,55,50⟩,⟨55,47,55,50⟩,⟨55,39,55,51⟩,⟨55,30,55,52⟩,⟨55,54,55,55⟩,⟨55,8,55,56⟩,⟨55,8,55,56⟩,⟨56,8,56,9⟩,⟨56,13,56,14⟩,⟨56,8,56,14⟩,⟨54,4,56,14⟩,⟨57,11,57,15⟩,⟨57,4,57,15⟩,⟨49,0,57,15⟩]
noncomputable def aeC:List Pos:=[⟨58,13,58,17⟩,⟨58,19,58,24⟩,⟨58,26,58,31⟩,⟨58,33,58,37⟩,⟨59,8,59,12⟩,⟨59,16,59,21⟩,⟨60,11,60,15⟩,⟨60,23,60,28⟩,⟨60,11,60,28⟩,⟨61,12,61,17⟩,⟨61,18,61,22⟩,⟨61,12,61,23⟩,⟨61,26,61,30⟩,⟨61,12,61,30⟩,⟨62,12,62,16⟩,⟨62,12,62,23⟩,⟨62,24,62,28⟩,⟨62,32,62,36⟩,⟨62,31,62,38⟩,⟨62,24,62,38⟩,⟨62,12,62,39⟩,⟨62,12,62,39⟩,⟨60,8,62,39⟩,⟨59,4,62,39⟩,⟨58,0,62,39⟩]
theorem aeD:Mn bq:=⟨by kernel_rfl,.inr ⟨λi=>aeB.getD i ⟨0,0,0,0⟩,λi=>aeC.getD i ⟨0,0,0,0⟩,by kernel_rfl,by kernel_rfl,by kernel_rfl,by kernel_rfl⟩⟩
end cz
open PySem PySem.W PyProof.Rows PySem.Calls
theorem PySem.Challenge.cw_lendrule_k25_all_that_is_needed_is_told_holds : PySem.Challenge.rw_lendrule_k25_all_that_is_needed_is_told.Holds := by
 exact cz.fin λd h1 h2=>L2.PL.Ij (P:=cz.bq) (N:=30) (st:=cz.J3) (x:="_law_script") (l:=PySem.Challenge.rw_lendrule_k25_all_that_is_needed_is_told) (by kernel_rfl) (by kernel_rfl) rfl h1 h2 ⟨rfl,by decide,by decide⟩ cz.aeD (λw h Y=>Y) cz.NL
end
