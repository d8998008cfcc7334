import PyProof.Rows.All
import Wide.All
import Wide.FinOn
import PyProof.EqAt
import PyProof.EqKinds
import PyProof.TupleCall
import PyProof.NeKinds
import PySem.Challenge.RW_lendrule_k27_whole_needed_along_a_way
import KE.KLam
import KE.KDictList
import KE.KRevIter
import KE.KNestM
import KE.KSortedM
import KE.KFromBytes
import KE.KIsAll
import KE.KDictOf
import KE.KDictSum
import KE.KStateDown
set_option maxHeartbeats 0
set_option Elab.async false
set_option linter.all false
set_option maxRecDepth 100000
noncomputable section
section
open PySem PySem.Spec PyProof.Rows
def vR:=@List.findIdx?_eq_some_iff_getElem
def Ie:=@List.eraseIdx_eq_take_drop_succ
def nv:=@PyProof.Rows.slot_tuple_getitem
def Ig:=@PyProof.Rows.callWith_builtin1
def Ih:=@List.mem_eraseIdx_iff_getElem
def Bu:=@wpAny_typeNameOfWhole_keyiter
def k9:=@List.eq_nil_of_length_eq_zero
def Ii:=@F.args_tuple_iterator_next_1
def Ij:=@PySem.F.slot_dict_setdefault
noncomputable def Bv:=@F.slot_dict_keyiterator_next
def il:=@PyProof.Rows.callWith_type1
def Ik:=@F.entry_tuple_iterator_next
def Bw:=@List.getD_eq_getElem?_getD
def Il:=@Calls.Name_function_global
def Im:=@wpAny_newFunctionEnv_cells
def iU:=@List.getElem?_append_right
def vT:=@F.slot_tuple_iterator_next
def bM:=@List.getElem?_eq_some_iff
def fJ:=@List.getElem?_append_left
def Bx:=@Array.getElem?_eq_getElem
def jL:=@List.getElem?_eq_none_iff
def By:=@F.slot_tuple_getattribute
def qx:=@List.drop_eq_getElem_cons
def Bz:=@wpAny_typeNameOf_keyiter
def BA:=@PySem.F.args_tuple_add_2
def jM:=@AutoSeq1.wpAny_loadPart'
def bW:=@List.getElem?_eq_getElem
def vU:=@List.getElem?_cons_succ
def BB:=@F.plain_set_update_loop
def vV:=@PySem.F.plainAttrs_list
def iV:=@wpAny_callSpecial?_slot
def la:=@Option.bind_eq_some_iff
def BC:=@PySem.F.entry_tuple_add
def qy:=@List.take_of_length_le
def BD:=@Option.map_eq_none_iff
def jN:=@Option.map_eq_some_iff
def BE:=@List.range_succ_eq_map
def BF:=@PySem.F.slot_tuple_add
def vW:=@Heap.get?_update_other
def BG:=@Array.getElem?_eq_none
def lb:=@List.getElem?_set_self
def aZ:=@Heap.get?_push_of_some
def qz:=@List.mem_iff_getElem?
def vX:=@Array.getElem?_toList
def cV:=@List.mem_append_right
def jO:=@Heap.get?_update_self
def vY:=@Obj.isFreed_of_fields
def BH:=@wpAny_notOrdered_dict
def BI:=@List.length_filter_le
def BJ:=@List.take_append_drop
def BL:=@builtinLookup_eq_fast
def jP:=@List.getElem?_eq_none
def BM:=@List.length_replicate
def aF:=@List.mem_cons_of_mem
def BN:=@Obj.data_mapDictKeys
def qA:=@Around.under_plainId
def dm:=@List.mem_of_getElem?
def fu:=@Bool.and_eq_true_iff
def iW:=@List.getElem?_set_ne
def dR:=@List.mem_append_left
def ny:=@List.filterMap_cons
def BO:=@List.map_congr_left
def lg:=@Int.toNat_of_nonneg
def nz:=@List.getElem?_range
def bX:=@Heap.get?_push_size
def BP:=@List.getElem_of_mem
def jQ:=@Array.length_toList
def iX:=@Heap.SameBut.update
def BQ:=@List.length_reverse
def fK:=@beq_eq_false_iff_ne
def ej:=@PySem.mem_of_lookup
def qB:=@Int.emod_lt_of_pos
def aR:=@List.length_append
def c9:=@Bool.false_ne_true
def qC:=@List.mem_filterMap
def iY:=@wpAny_Call_Name_kw
def qD:=@tupleKind_room_in1
def bY:=@Nat.lt_of_lt_of_le
def aB:=@List.mem_singleton
def nA:=@Bool.false_eq_true
def aE:=@List.mem_cons_self
def jR:=@Obj.data_mapFields
def BR:=@wpAny_pyIter_tuple
def nC:=@Nat.lt_of_le_of_lt
def BS:=@List.pairwise_cons
def iZ:=@List.length_range
def nE:=@List.nodup_append
def qE:=@wpAny_dictEntries
def lj:=@List.map_inj_left
def eS:=@List.size_toArray
def BU:=@Nat.lt_succ_of_lt
def jS:=@wpAny_setState_of
def cW:=@List.append_assoc
def lq:=@wpAny_truthy_bool
def BV:=@Option.isSome_map
def fL:=@of_decide_eq_true
def nF:=@decide_eq_true_eq
def BW:=@wpAny_pyIter_slot
def er:=@Int.toNat_natCast
def BX:=@List.find?_append
def nG:=@List.reverse_cons
def vZ:=@Obj.cls_mapFields
def bH:=@List.getElem?_map
def fM:=@wpAny_newObj_type
def BY:=@wpAny_pyIter_list
def eU:=@List.flatMap_cons
def nH:=@beq_self_eq_true
def qF:=@Nat.lt_succ_self
def gn:=@List.mem_flatMap
def qG:=@Nat.le_add_right
def v3:=@List.isEmpty_iff
def BZ:=@List.drop_length
def qH:=@List.cons_append
def dn:=@Option.bind_some
def B0:=@List.getElem_inj
def fN:=@wpAny_call_entry
def B2:=@Nat.le_of_not_lt
def gH:=@List.all_eq_true
def aV:=@Bool.and_eq_true
def aK:=@List.length_cons
def jT:=@List.lookup_cons
def lr:=@List.length_take
def v9:=@List.filter_cons
def wa:=@wpAny_isInstance
def B3:=@Option.getD_none
def wb:=@List.getElem_mem
def B4:=@wpAny_askSetting
def wc:=@Around.in1_units
def eu:=@List.not_mem_nil
def B5:=@noFill_tuple_add
def B6:=@List.foldl_cons
def lu:=@wpAny_passesOwn
def bh:=@List.mem_append
def bQ:=@List.map_append
def we:=@List.of_mem_zip
def ak:=@List.length_map
def wj:=@List.length_nil
def lx:=@decide_eq_false
def jU:=@Int.emod_nonneg
def nI:=@codeAny_builtin
def dq:=@List.append_nil
def wm:=@wpAny_execs_nil
def B7:=@typeLookup_type
def gI:=@Option.map_some
def B8:=@wpAny_ite_split
def qI:=@List.find?_cons
def eW:=@List.nil_append
def B9:=@List.cons.injEq
def gJ:=@List.nodup_cons
def cz:=@Option.some.inj
def Cc:=@Bool.or_eq_true
def b9:=@List.mem_filter
def ly:=@List.length_set
def lz:=@List.nodup_nil
def gp:=@decide_eq_true
def lA:=@wpAny_setField
def gq:=@List.mem_range
def nJ:=@Heap.size_push
def qJ:=@Prod.mk.injEq
def aD:=@List.mem_cons
def i8:=@List.any_cons
def aI:=@List.map_cons
def wq:=@Bool.and_true
def wt:=@List.map_take
def gK:=@Nat.lt_irrefl
def wu:=@Nat.add_assoc
def wx:=@wpAny_attempt
def wz:=@plainId_quiet
def ez:=@wpAny_holding
def gL:=@List.all_cons
def nK:=@Paired.length
def i9:=@Nat.le_of_lt
def cX:=@List.map_map
def bI:=@Nat.ne_of_lt
def wA:=@Nat.sub_self
def lB:=@Int.zero_add
def ja:=@Nat.le_of_eq
def gr:=@Nat.zero_add
def nL:=@List.map_nil
def bA:=@Nat.le_trans
def jV:=@codeAny_mono
def aW:=@Heap.lt_size
def nM:=@wpAny_typeOf
def aM:=@List.mem_map
def nN:=@Nat.lt_trans
def qK:=@Nat.ne_of_gt
def jW:=@wpAny_field
def ay:=@Nat.le_refl
def dI:=@Nat.zero_le
def wB:=@wpAny_of_eq
def aj:=@wpAny_pure
def qL:=@wpAny_call
def nQ:=@wpAny_rule
def af:=@wpAny_bind
def jX:=@wpAny_mono
def lD:=@call_meets
def qM:=@beq_iff_eq
def bf:=@eq_of_beq
def dB:=@congrArg
def eA:=@or_false
def gu:=@if_false
def dt:=@Ne.symm
def jY:=@if_true
end
namespace PSh
end PSh
section
namespace L2
open PySem PySem.Spec PyProof.Rows
abbrev bz:=Sum Int Str
inductive V where
 | bB | bl (b:Bool) | int (i:Int) | str (x:Str) | WC (b:Array UInt8) | flt (b:UInt64) | ref (a:Addr) | ty (n:String)
 deriving DecidableEq
def RelV:V->Value->Prop
 | .bB,u=>u=Value.none
 | .bl b,u=>u=Value.bool b
 | .int i,u=>∃t,u=Value.int i t
 | .str x,u=>∃t,u=Value.str x t
 | .WC b,u=>∃t,u=Value.bytes b t
 | .flt b,u=>∃t,u=Value.float b t
 | .ref a,u=>u=Value.ref a
 | .ty n,u=>u=Value.type n
abbrev Vals:List V->List Value->Prop:=Paired RelV
noncomputable def kV:bz->V
 | .inl i=>.int i
 | .inr x=>.str x
inductive HO where
 /-- a list -/
 | lst (xs:List V)
 /-- a tuple (never aaM) -/
 | ao (xs:List V)
 /-- a dict PX keys are ints and W6;one PX keys are tuples of ints and W6 (PY empty one is afV) -/
 | dK (kvs:List (bz×V)) | dT (xs:List (List bz×Addr×Value))
 /-- a set of ints: aH aaN,aH size -/
 | set (S:Int->Bool) (n:Nat)
 /-- an instance of PY class at C,aH dict at dx,aH Sg -/
 | oQ (C dx:Addr) (fs:List (Str×V))
 /-- PY dict of PY instance at x -/
 | own (x:Addr)
 /-- PY dict of an WD -/
 | xd (fs:List (Str×V))
 /-- a bound method,f of x -/
 | met (f x:Addr)
 /-- a range Io lo,lo+1,.. below hi -/
 | rng (lo hi:Int)
 /-- a W7 afW is aek to PY Io (PY abJ;a dict while a loop ael it): afX,never written while it is so -/
 | oR (o:Obj) (u:HO)
 /-- a code W8 table -/
 | Cd (q:Str)
 /-- any other W7,by what is true of aH one Io (a def of aem own: afY a S n:=HO.ext λh=>..) -/
 | ext (φ:Heap->Prop)
abbrev Hp:=Addr->Option HO
def Rd(H:Hp)(a:Addr)(u:HO):Prop:=H a=some u\/∃o,H a=some (.oR o u)
noncomputable def du:List Str:=["arrivals","empties","needs","held"]
def gU(K:W.Frag)(H:Hp)(a:Addr)(xs:List V):Prop :=
 Rd H a (.ao xs) \/
  ∃(o:Obj) (aH:Array Value) (n:Nat),K.lookup a=some o/\o.cls=.type "tuple"/\o.data=.seq aH n/\aH.size<=sizeLine/\Vals xs aH.toList
noncomputable def kF(K:W.Frag)(H:Hp)(a:Addr)(xs:List V):Prop :=
 Rd H a (.lst xs)\/∃(aH:List Value) (n:Nat),K.lookup a=some {cls:=.type "list",data:=.seq aH.toArray n}/\aH.length<=sizeLine/\Vals xs aH
structure FX (K:W.Frag) (C:Addr):Prop where
 pg:W.plainGet K C Str.empty=true
 hd:W.hasDictIn K C=true
 po:W.plainOver K C=true
 sa:W.findIn K (.ref C) "__setattr__"=some (some (.builtin "object.__setattr__"))
def jb(K:W.Frag)(C:Addr)(f:Str):Prop:=W.findIn K (.ref C) f=some none
section
variable {X:Cx} {CX:HS} {k:Nat} {f C:Addr} {fd:FuncData} {ps:List Str} {sp:Sp} {PZ:List V} {ds:List Value} {E:XK} {x m:Str} {p pos qN:Pos} {e o:Expr} {es:List Expr} {ta:TE} {t:TA}
structure Mk (K:W.Frag) (C f:Addr):Prop where
 makes:W.makesIn K C=true
 init:W.findIn K (.ref C) "__init__"=some (some (.ref f))
 fn:W.isFn K (.ref f)=true
 kp:W.keepIn K (.ref C)=true
end
structure dD (N P:List Str) (sc:Scope):Prop where
 kind:sc.kind=.function
 co:sc.isCoroutine=false
 gen:sc.isGenerator=false
 nd:N.Nodup
 pre:N.take P.length=P
 par:∀x∈P,sc.names.lookup x=some .local\/sc.names.lookup x=some .cell
 nofree:∀y∈sc.names,y.2≠.free
noncomputable def g8(s:Stmt):Arguments:=match s with
 | .FunctionDef _ a _ _ _ _ _ _ _ _=>a
 | _=>{posonlyargs:=[],args:=[],vararg:=none,kwonlyargs:=[],kw_defaults:=[],kwarg:=none,defaults:=[]}
def dh(s:Stmt):List Stmt:=match s with
 | .FunctionDef _ _ b _ _ _ _ _ _ _=>b
 | _=>[]
def aw(s:Stmt):Scope:=match s with
 | .FunctionDef _ _ _ _ _ _ sc _ _ _=>sc
 | _=>{kind:=.function,names:=[],isGenerator:=false,isCoroutine:=false}
structure Cf (K:W.Frag) (x qual:Str) (st:Stmt) (f:Addr) (fd:FuncData):Prop where
 ex:∃(oc:Value) (od:Option Addr) (kV doc pm:Value) (an:Option Addr) (cS ct:Value) (yB:Array (Option Value)),
  fd=W.fnOf x qual (g8 st) (dh st) (aw st) .none kV doc pm an cS ct/\K.lookup f=some ⟨oc,od,.func fd,yB⟩/\W.codeIn K cS qual=true
 kp:W.keepIn K (.ref f)=true
section
variable {P:Program} {w:World} {K:W.Frag} {mg:Str->Option Value} {base:Heap}
def Ip{st:Stmt}{oc:Value}{od an:Option Addr}{yB:Array (Option Value)}{kV doc pm cS ct:Value}(l:K.lookup f=some ⟨oc,od,.func (W.fnOf x qual (g8 st) (dh st) (aw st) .none kV doc pm an cS ct),yB⟩)
  (c:W.codeIn K cS qual=true) (k:W.keepIn K (.ref f)=true):Cf K x qual st f (W.fnOf x qual (g8 st) (dh st) (aw st) .none kV doc pm an cS ct):=⟨⟨oc,od,kV,doc,pm,an,cS,ct,yB,rfl,l,c⟩,k⟩
end
section
variable {X:Cx} {ae:List (Addr×Obj)} {σ:St} {H:Hp} {s:Shared} {a b:Addr} {k:List bz} {v:V} {r:Value} {A:Around} {E:Value->Shared->Prop} {xs:List (List bz×Addr×Value)}
def eX(K:W.Frag)(H:Hp)(xs:List (List bz×Addr×Value)):Prop:=∀x∈xs,gU K H x.2.1 (x.1.map kV)
end
end L2
namespace L2.U
open PySem PySem.Spec PyProof.Rows
inductive Kd where
 | ao | lst | oQ (C:Str) (ns:List Str) | dU (t:Bool) (ks:List (List bz))
inductive PV where
 | bB | bl (b:Bool) | int (i:Int) | str (x:Str) | ref (n:Nat) | fn (x:Str) | nd (k:Kd) (ps:List PV)
noncomputable abbrev PV.ao (ps:List PV):PV:=.nd .ao ps
structure Fz where
 F:Hp
 μ:List Addr
def ClsAt(K:W.Frag)(C:Str)(cls:Value):Prop:=W.nsIn K mainGlobals C=some (some cls)
def kG(K:W.Frag)(F H:Hp)(a:Addr)(x:Bool):Kd->List V->Prop
 | .ao,vs=>x=false/\gU K H a vs
 | .lst,vs=>if x=true then H a=some (.lst vs)else kF K H a vs
 | .oQ C ns,vs=>∃Ca dx fs,ClsAt K C (.ref Ca)/\FX K Ca/\(∀f∈ns,jb K Ca f)/\H a=some (.oQ Ca dx fs)/\fs.map (·.1)=ns/\fs.map (·.2)=vs
 | .dU false ks,vs=>∃kvs:List (bz×V),H a=some (.dK kvs)/\kvs.map (λy=>[y.1])=ks/\kvs.map (·.2)=vs
 | .dU true ks,vs=>∃xs,H a=some (.dT xs)/\eX K F xs/\xs.map (·.1)=ks/\Vals vs (xs.map (·.2.2))
mutual
def bO(K:W.Frag)(F:Fz):PV->V->Prop
 | .bB,v=>v=.bB
 | .bl b,v=>v=.bl b
 | .int i,v=>v=.int i
 | .str x,v=>v=.str x
 | .ref n,v=>∃a,F.μ[n]?=some a/\v=.ref a
 | .fn x,v=>∃a,v=.ref a/\W.nsIn K mainGlobals x=some (some (.ref a))
 | .nd k ps,v=>∃a vs,v=.ref a/\kG K F.F F.F a false k vs/\az K F ps vs
def az(K:W.Frag)(F:Fz):List PV->List V->Prop
 | [],vs=>vs=[]
 | p::ps,vs=>∃v r,vs=v::r/\bO K F p v/\az K F ps r
end
section
variable {K:W.Frag} {F F':Fz}
def az.nil:az K F [] []:=by simp[az]
def az.cons(h:bO K F p v)(t:az K F ps vs):az K F (p::ps) (v::vs):=by
 simp only[az];exact⟨v,vs,rfl,h,t⟩
def di:bO K F .bB v↔v=.bB:=by simp only[bO]
def bZ:bO K F (.bl b) v↔v=.bl b:=by simp only[bO]
def aG:bO K F (.int i) v↔v=.int i:=by simp only[bO]
def cL:bO K F (.str i) v↔v=.str i:=by simp only[bO]
def jc:bO K F (.nd k ps) v↔∃a vs,v=.ref a/\kG K F.F F.F a false k vs/\az K F ps vs:=by simp only[bO]
def cw:bO K F (.ao ps) v↔∃a vs,v=.ref a/\gU K F.F a vs/\az K F ps vs :=
 jc.trans ⟨(by rintro⟨a,vs,h1,h2,h3⟩;exact⟨a,vs,h1,h2.2,h3⟩),(by rintro⟨a,vs,h1,h2,h3⟩;exact⟨a,vs,h1,⟨rfl,h2⟩,h3⟩)⟩
end
structure Pg where
 defs:List (Str×Stmt)
 cons:List (Str×PV):=[]
 de:List Str:=[]
 tabs:List (Str×List (Str×Str)):=[]
 cls:List (Str×Stmt):=[]
 flds:List Str:=[]
 nU:List Str:=[]
 W9:List (Str×List (Str×Nat)):=[]
def params(st:Stmt):List Str:=(g8 st).args.map λa=>a.arg
def Xa:NameKind->Bool
 | .local=>true
 | .cell=>true
 | _=>false
def cb(st:Stmt):List Str:=params st++((aw st).names.filter λy=>Xa y.2&&!(params st).contains y.1).map λy=>y.1
structure Iq (K:W.Frag) (x:Str) (st:Stmt):Prop where
 ex:∃f fd,W.nsIn K mainGlobals x=some (some (.ref f))/\Cf K x x st f fd/\∀us:List Value,us.length=(params st).length->bindArgs fd ⟨us,[]⟩=pure ((params st).zip us)
 sc:dD (cb st) (params st) (aw st)
def FY(K:W.Frag)(P:Params)(T:Str)(rows:List (Str×Str)):Prop :=
 ∃a es n,W.nsIn K mainGlobals T=some (some (.ref a))/\K.lookup a=some ⟨.type "dict",none,.dict es n,#[]⟩/\W.KeysLit P es.toList/\∀d∈rows,∃f,W.nsIn K a d.1=some (some (.ref f))/\W.nsIn K mainGlobals d.2=some (some (.ref f))
def abK{K:W.Frag}{P:Params}{T:Str}{rows:List (Str×Str)}{a:Addr}{es:Array DictEntry}{n:Nat}(h1:W.nsIn K mainGlobals T=some (some (.ref a)))(h2:K.lookup a=some ⟨.type "dict",none,.dict es n,#[]⟩)(h3:W.KeysLit P es.toList)
  (h4:∀d∈rows,∃f,W.nsIn K a d.1=some (some (.ref f))/\W.nsIn K mainGlobals d.2=some (some (.ref f))):FY K P T rows:=⟨a,es,n,h1,h2,h3,h4⟩
noncomputable def P4:PV->Value->Bool
 | .int i,.int j _=>i==j
 | .str x,.str y _=>x==y
 | .bl a,.bool b=>a==b
 | .bB,.none=>true
 | _,_=>false
def wC:List PV->List Value->Bool
 | [],[]=>true
 | p::r,u::q=>P4 p u&&wC r q
 | _,_=>false
def Si{K:W.Frag}{p:PV}{u:Value}(h:P4 p u=true):∃v,RelV v u/\∀F,bO K F p v:=by
 cases p<;>cases u<;>first | exact absurd h c9 | skip
 ·exact⟨.bB,rfl,λF=>di.mpr rfl⟩
 ·cases bf h;exact⟨.bl _,rfl,λF=>bZ.mpr rfl⟩
 ·cases bf h;exact⟨.int _,⟨_,rfl⟩,λF=>aG.mpr rfl⟩
 ·cases bf h;exact⟨.str _,⟨_,rfl⟩,λF=>cL.mpr rfl⟩
def MF{K:W.Frag}{ps:List PV}{us:List Value}(h:wC ps us=true):∃vs,Vals vs us/\∀F,az K F ps vs:=by
 induction ps generalizing us with
 | nil=>cases us;exact⟨[],.nil,λ_=>.nil⟩;cases h
 | cons p r ih =>
  cases us with
  | nil=>cases h
  | cons u q =>
   have h:=fu.mp h;obtain⟨v,a,b⟩:=Si (K:=K) h.1;obtain⟨vs,h1,h2⟩:=ih h.2;exact⟨v::vs,.cons a h1,λF=>.cons (b F) (h2 F)⟩
def MH{K:W.Frag}{g:Addr}{x:Str}{a:Addr}{ps:List PV}{us:List Value}{n:Nat}{dd:Option Addr}{sl:Array (Option Value)}(h1:W.nsIn K g x=some (some (.ref a)))(h2:K.lookup a=some ⟨.type "tuple",dd,.seq us.toArray n,sl⟩)(h3:wC ps us=true)(h4:us.length<=100) :
  ∃u v,W.nsIn K g x=some (some u)/\RelV v u/\∀F,bO K F (.ao ps) v:=by
 obtain⟨vs,r,b⟩:=MF h3;exact⟨_,.ref a,h1,rfl,λF=>cw.mpr ⟨a,vs,rfl,.inr ⟨_,us.toArray,n,h2,rfl,rfl,by rw[eS];exact bA h4 (by decide),by grind⟩,b F⟩⟩
def MI{K:W.Frag}{g:Addr}{x:Str}{y:Str}{t:Tok}(a:W.nsIn K g x=some (some (.str y t))):∃u v,W.nsIn K g x=some (some u)/\RelV v u/\∀F,bO K F (.str y) v:=⟨_,.str y,a,⟨t,rfl⟩,λF=>cL.mpr rfl⟩
def MJ{K:W.Frag}{g:Addr}{x:Str}{i:Int}{t:Tok}(a:W.nsIn K g x=some (some (.int i t))):∃u v,W.nsIn K g x=some (some u)/\RelV v u/\∀F,bO K F (.int i) v:=⟨_,.int i,a,⟨t,rfl⟩,λF=>aG.mpr rfl⟩
def Sj(K:W.Frag)(C:Str)(st:Stmt)(flds:List Str):Prop:=∃Ca f fd,W.nsIn K mainGlobals C=some (some (.ref Ca))/\Mk K Ca f/\FX K Ca/\(∀g∈flds,jb K Ca g)/\Cf K "__init__" (C++".__init__") st f fd/\(∀us:List Value,us.length=(params st).length->bindArgs fd ⟨us,[]⟩=pure ((params st).zip us))/\dD (cb st) (params st) (aw st)
def Sk(K:W.Frag)(x:Str):Prop:=x∈du/\∃c T,W.tabIn K x=some (c,T)/\W.codeHdIn K c T=true
def Ir(K:W.Frag):Prop:=∃bm o,W.nsIn K mainGlobals "__builtins__"=some (some (.ref bm))/\bm≠builtinsNs/\bm≠mainGlobals/\K.lookup bm=some o/\o.cls=.type "module"/\o.dict=some builtinsNs/\o.data=.plain
structure lY (K:W.Frag) (h:Heap):Prop where
 at_:∀x∈du,∀c T,W.tabIn K x=some (c,T)->W.codeHdIn K c T=true/\h.get? T=some {cls:=.none,data:=.fields #[]}/\K.lookup T=none
 nd:(du.filterMap λx=>(W.tabIn K x).map (·.2)).Nodup
def lY.keeps{K:W.Frag}{h h':Heap}(t:lY K h)(k:∀b o,h.get? b=some o->h'.get? b=some o):lY K h':=⟨λx hx c T e=>let ⟨h1,h2,h3⟩:=t.at_ x hx c T e;⟨h1,k _ _ h2,h3⟩,t.nd⟩
structure Iu (P:Pg) (w:World) (K:W.Frag):Prop where
 hd:∀d∈P.defs,Iq K d.1 d.2
 hc:∀d∈P.cons,∃u v,W.nsIn K mainGlobals d.1=some (some u)/\RelV v u/\∀F,bO K F d.2 v
 hb:∀x∈P.de,W.nsIn K mainGlobals x=some none
 ht:∀d∈P.tabs,FY K w.params d.1 d.2
 hcl:∀d∈P.cls,Sj K d.1 d.2 P.flds
 hlm:∀x∈P.nU,Sk K x
 hbm:P.nU≠[]->Ir K
noncomputable def Iv:Value->List Addr
 | .ref a=>[a]
 | _=>[]
def D9:Option Obj->List Addr
 | some ⟨_,_,.dict es _,_⟩=>es.toList.flatMap λe=>Iv e.val
 | some ⟨_,_,.func fd,_⟩=>Iv fd.code
 | some ⟨_,_,.cls cd,_⟩=>cd.ns::cd.mro.flatMap Iv
 | _=>[]
noncomputable def fragOf(h:Heap):List Addr->W.Frag
 | []=>[]
 | a::r=>match h.get? a with
  | some o=>(a,o)::fragOf h r
  | none=>fragOf h r
theorem nV(h:Heap):∀as:List Addr,(fragOf h as).In h
 | []=>λ_ _ e=>by cases e
 | a::r=>λb o e=>by
  unfold fragOf at e;split at e
  ·rename_i o' ho;rw[jT]at e;cases z:b==a with
   | true =>
    rw[z]at e;cases e;rw[bf z];exact ho
   | false =>
    rw[z]at e;exact nV h r b o e
  ·exact nV h r b o e
def nsO:Option Obj->List Addr
 | some ⟨_,_,.cls cd,_⟩=>[cd.ns]
 | _=>[]
def abM(h:Heap)(a:Addr):List Addr:=a::(D9 (h.get? a)++(nsO (h.get? a)).flatMap λb=>(D9 (h.get? b)).flatMap λc=>c::D9 (h.get? c))
def fw(h:Heap):W.Frag:=fragOf h (mainGlobals::(D9 (h.get? mainGlobals)).flatMap (abM h))
noncomputable def chFn(K:W.Frag)(x:Str):Option FuncData:=match W.nsIn K mainGlobals x with
 | some (some (.ref f))=>(match K.lookup f with
  | some ⟨_,_,.func fd,_⟩=>(match W.codeIn K fd.code x with
   | true=>some {fd with kwdefaults:=.none,doc:=.none,pyModule:=.none,annotations:=none,code:=.none,closureTuple:=.none}
   | false=>none)
  | _=>none)
 | _=>none
def jq(x:Str)(st:Stmt):FuncData:=W.fnOf x x (g8 st) (dh st) (aw st) .none .none .none .none none .none .none
def MK{K:W.Frag}{x:Str}{st:Stmt}(h:chFn K x=some (jq x st)):∃f fd,W.nsIn K mainGlobals x=some (some (.ref f))/\Cf K x x st f fd:=by
 unfold chFn at h;split at h
 ·rename_i f hf;split at h
  ·rename_i oc od fd yB hl;split at h
   ·rename_i hc;have h:=cz h;obtain⟨a1,a2,a3,a4,a5,a6,a7,a8,a9,a10,a11,a12,a13,a14,a15⟩:=fd;unfold jq at h;simp only[FuncData.mk.injEq]at h;obtain⟨e1,e2,e3,e4,e5,e6,e7,e8,-,-,-,-,-,-,e15⟩:=h;subst e1 e2 e3 e4 e5 e6 e7 e8 e15;exact⟨f,_,hf,Ip hl hc (by unfold W.keepIn;dsimp only;rw[hl])⟩
   ·cases h
  ·cases h
 ·cases h
def yI(K:W.Frag)(g:Addr)(d:Str×PV):Bool:=match W.nsIn K g d.1 with
 | some (some (.int j _))=>(match d.2 with | .int i=>i==j | _=>false)
 | some (some (.str y _))=>(match d.2 with | .str x=>x==y | _=>false)
 | some (some (.ref a))=>(match K.lookup a with
  | some ⟨.type t,_,.seq us _,_⟩=>(match d.2 with | .nd .ao ps=>(t=="tuple")&&(wC ps us.toList&&decide (us.toList.length<=100)) | _=>false)
  | _=>false)
 | _=>false
def Iw{K:W.Frag}{g:Addr}{x:Str}{p:PV}(h:yI K g (x,p)=true):∃u v,W.nsIn K g x=some (some u)/\RelV v u/\∀F,bO K F p v:=by
 unfold yI at h;dsimp only at h
 split at h
 ·rename_i j t hn;split at h
  ·obtain rfl:=bf h;exact MJ hn
  ·cases h
 ·rename_i y t hn;split at h
  ·obtain rfl:=bf h;exact MI hn
  ·cases h
 ·rename_i a hn;split at h
  ·rename_i t dd us n sl hl;split at h
   ·rw[aV,aV]at h;obtain⟨h1,h2,h3⟩:=h;obtain rfl:=bf h1;obtain⟨us⟩:=us;exact MH hn hl h2 (fL h3)
   ·cases h
  ·cases h
 ·cases h
def yJ(K:W.Frag)(x:Str):Bool:=match W.nsIn K mainGlobals x with
 | some none=>true
 | _=>false
def Iy{K:W.Frag}{x:Str}(h:yJ K x=true):W.nsIn K mainGlobals x=some none:=by
 unfold yJ at h;split at h
 ·assumption
 ·cases h
abbrev OV:=Option (Option Value)
noncomputable def Iz(e:DictEntry):Option Str×Int:=(match e.key with
 | .str x _=>some x
 | _=>none,e.hash)
noncomputable def IA(K:W.Frag)(a:Addr)(d:Str×Str):Bool:=match W.nsIn K a d.1,W.nsIn K mainGlobals d.2 with
 | some (some (.ref f)),some (some (.ref g))=>f==g
 | _,_=>false
def yK(K:W.Frag)(T:Str)(rows:List (Str×Str)):Option (Value×Option Addr×Array (Option Value)×List (Option Str×Int)×Bool):=match W.nsIn K mainGlobals T with
 | some (some (.ref a))=>(match K.lookup a with
  | some ⟨c,dd,.dict es _,sl⟩=>some (c,dd,sl,es.toList.map Iz,rows.all (IA K a))
  | _=>none)
 | _=>none
noncomputable def qO(P:Params)(rows:List (Str×Str)):Option (Value×Option Addr×Array (Option Value)×List (Option Str×Int)×Bool):=some (.type "dict",none,#[],rows.map (λd=>(some d.1,PyData.keyHash P d.1)),true)
theorem yL{β:Type}{P:Params}:∀{es:List DictEntry} {rows:List (Str×β)},es.map Iz=rows.map (λd=>(some d.1,PyData.keyHash P d.1))->W.KeysLit P es
 | [],_,_=>trivial
 | _::_,[],h=>by cases h
 | e::es,d::rows,h=>by
  rw[aI,aI,B9]at h;obtain⟨h1,h2⟩:=h;refine⟨?_,yL h2⟩;unfold Iz at h1;rw[qJ]at h1;obtain⟨h3,h4⟩:=h1;split at h3
  ·grind
  ·cases h3
def IB{K:W.Frag}{a:Addr}{d:Str×Str}(h:IA K a d=true):∃f,W.nsIn K a d.1=some (some (.ref f))/\W.nsIn K mainGlobals d.2=some (some (.ref f)):=by
 unfold IA at h;split at h
 ·grind
 ·cases h
def IC{K:W.Frag}{P:Params}{T:Str}{rows:List (Str×Str)}(h:yK K T rows=qO P rows):FY K P T rows:=by
 unfold yK qO at h;split at h
 ·rename_i a hn;split at h
  ·rename_i c dd es n sl hl;have h:=cz h;simp only[qJ]at h;obtain⟨rfl,rfl,rfl,h4,h5⟩:=h;exact abK hn hl (yL h4) λd hd=>IB (gH.mp h5 d hd)
  ·cases h
 ·cases h
abbrev abO:=Option (Value×Option Addr×Array (Option Value)×List (Option Str×Int)×Bool)
noncomputable def Cg(K:W.Frag)(f:Addr)(qual:Str):Option FuncData:=match K.lookup f with
 | some ⟨_,_,.func fd,_⟩=>(match W.codeIn K fd.code qual with
  | true=>some {fd with kwdefaults:=.none,doc:=.none,pyModule:=.none,annotations:=none,code:=.none,closureTuple:=.none}
  | false=>none)
 | _=>none
def ID(x qual:Str)(st:Stmt):FuncData:=W.fnOf x qual (g8 st) (dh st) (aw st) .none .none .none .none none .none .none
def FZ{K:W.Frag}{x qual:Str}{st:Stmt}{f:Addr}(h:Cg K f qual=some (ID x qual st)):∃fd,Cf K x qual st f fd:=by
 unfold Cg at h;split at h
 ·rename_i oc od fd yB hl;split at h
  ·rename_i hc;have h:=cz h;obtain⟨a1,a2,a3,a4,a5,a6,a7,a8,a9,a10,a11,a12,a13,a14,a15⟩:=fd;unfold ID at h;simp only[FuncData.mk.injEq]at h;obtain⟨e1,e2,e3,e4,e5,e6,e7,e8,-,-,-,-,-,-,e15⟩:=h;subst e1 e2 e3 e4 e5 e6 e7 e8 e15;exact⟨_,Ip hl hc (by unfold W.keepIn;dsimp only;rw[hl])⟩
  ·cases h
 ·cases h
abbrev Sl:=Option (Bool×OV×List OV×Option FuncData)
def yM(K:W.Frag)(flds:List Str)(C:Str):Sl:=match W.nsIn K mainGlobals C with
 | some (some (.ref a))=>(match W.findIn K (.ref a) "__init__" with
  | some (some (.ref f))=>some (W.makesIn K a&&(W.isFn K (.ref f)&&(W.keepIn K (.ref a)&&(W.plainGet K a Str.empty&&(W.hasDictIn K a&&W.plainOver K a)))),W.findIn K (.ref a) "__setattr__",flds.map (λg=>W.findIn K (.ref a) g),Cg K f (C++".__init__"))
  | _=>none)
 | _=>none
def qP(flds:List Str)(C:Str)(st:Stmt):Sl:=some (true,some (some (.builtin "object.__setattr__")),flds.map (λ_=>some none),some (ID "__init__" (C++".__init__") st))
def wD:List Str->Bool
 | []=>true
 | x::r=>!r.contains x&&wD r
theorem uP:∀{l:List Str},wD l=true->l.Nodup
 | [],_=>lz
 | x::r,h=>by
  simp only[wD,aV,Bool.not_eq_true',List.contains_eq_mem,decide_eq_false_iff_not]at h;exact gJ.mpr ⟨h.1,uP h.2⟩
def abP:Option NameKind->Bool
 | some .local=>true
 | some .cell=>true
 | _=>false
def Xb:NameKind->Bool
 | .free=>false
 | _=>true
def Xc:ScopeKind->Bool
 | .function=>true
 | _=>false
def ML(st:Stmt):Bool:=Xc (aw st).kind&&(!(aw st).isCoroutine&&(!(aw st).isGenerator&&(wD (cb st)&&((params st).all (λx=>abP ((aw st).names.lookup x))&&(aw st).names.all λy=>Xb y.2))))
def IE{st:Stmt}(h:ML st=true):dD (cb st) (params st) (aw st):=by
 unfold ML at h;rw[aV,aV,aV,aV,aV]at h;obtain⟨h1,h2,h3,h4,h5,h6⟩:=h;refine⟨?_,by grind,by grind,uP h4,?_,λx hx=>?_,λy hy=>?_⟩
 ·cases z:(aw st).kind<;>rw[z]at h1<;>first | rfl | cases h1
 ·exact List.take_left
 ·have k:=gH.mp h5 x hx;cases z:(aw st).names.lookup x with
  | none=>rw[z]at k;cases k
  | some b =>
   rw[z]at k;cases b<;>first | exact .inl rfl | exact .inr rfl | cases k
 ·have k:=gH.mp h6 y hy;intro z;rw[z]at k;cases k
def Ea(P:Pg):Prop:=∀(kV doc pm:Value) (an:Option Addr) (cS ct:Value) (u:Nat->Value),
 P.defs.map (λd=>bindArgs (W.fnOf d.1 d.1 (g8 d.2) (dh d.2) (aw d.2) .none kV doc pm an cS ct) ⟨(List.range (params d.2).length).map u,[]⟩)=P.defs.map λd=>pure ((params d.2).zip ((List.range (params d.2).length).map u))
def yN{us:List Value}{n:Nat}(h:us.length=n):(List.range n).map (λi=>us.getD i .none)=us:=by
 subst h;apply List.ext_getElem
 ·simp
 ·intro i h1 h2;simp[h2]
def Sm{K:W.Frag}{x:Str}{st:Stmt}{f:Addr}{fd:FuncData}{P:Pg}(hb:Ea P)(hd:(x,st)∈P.defs)(F:Cf K x x st f fd)(us:List Value)(hl:us.length=(params st).length):bindArgs fd ⟨us,[]⟩=pure ((params st).zip us):=by
 obtain⟨oc,od,kV,doc,pm,an,cS,ct,yB,rfl,lk,Eb⟩:=F.ex;have k:=lj.mp (hb kV doc pm an cS ct λi=>us.getD i .none) (x,st) hd
 dsimp only at k
 rw[yN hl]at k;exact k
def MM(P:Pg):Prop:=∀(kV doc pm:Value) (an:Option Addr) (cS ct:Value) (u:Nat->Value),
 P.cls.map (λd=>bindArgs (W.fnOf "__init__" (d.1++".__init__") (g8 d.2) (dh d.2) (aw d.2) .none kV doc pm an cS ct) ⟨(List.range (params d.2).length).map u,[]⟩)=P.cls.map λd=>pure ((params d.2).zip ((List.range (params d.2).length).map u))
def IF{K:W.Frag}{P:Pg}{C:Str}{st:Stmt}(Sn:ML st=true)(hb:MM P)(hd:(C,st)∈P.cls)(h:yM K P.flds C=qP P.flds C st):Sj K C st P.flds:=by
 unfold yM qP at h;split at h
 ·rename_i a hn;split at h
  ·rename_i f hf;have h:=cz h;simp only[qJ,aV]at h;obtain⟨⟨h1,h2,h3,h4,h5,h6⟩,h7,h8,h9⟩:=h;obtain⟨fd,F⟩:=FZ h9;refine⟨a,f,fd,hn,⟨h1,hf,h2,h3⟩,⟨h4,h5,h6,h7⟩,λg hg=>lj.mp h8 g hg,F,λus hl=>?_,IE Sn⟩
   obtain⟨oc,od,kV,doc,pm,an,cS,ct,yB,rfl,lk,Eb⟩:=F.ex;have k:=lj.mp (hb kV doc pm an cS ct λi=>us.getD i .none) (C,st) hd
   dsimp only at k
   rw[yN hl]at k;exact k
  ·cases h
 ·cases h
noncomputable def Ci(K:W.Frag)(h:Heap)(x:Str):Bool:=match W.tabIn K x with
 | none=>true
 | some (c,T)=>W.codeHdIn K c T&&((K.lookup T).isNone&&(match h.get? T with
  | some ⟨.none,none,.fields vs,sl⟩=>vs.isEmpty&&sl.isEmpty
  | _=>false))
noncomputable def So(K:W.Frag):Bool:=match W.nsIn K mainGlobals "__builtins__" with
 | some (some (.ref bm))=>!(bm==builtinsNs)&&(!(bm==mainGlobals)&&(match K.lookup bm with
  | some ⟨.type m,some d,.plain,_⟩=>(m=="module")&&(d==builtinsNs)
  | _=>false))
 | _=>false
def yO(P:Pg)(K:W.Frag)(h:Heap):Bool:=du.all (Ci K h)&&(decide (du.filterMap λx=>(W.tabIn K x).map (·.2)).Nodup&&((P.nU.isEmpty || So K)&&P.nU.all λx=>du.contains x&&(W.tabIn K x).isSome))
def uQ{K:W.Frag}{h:Heap}{x:Str}{c T:Addr}(e:Ci K h x=true)(t:W.tabIn K x=some (c,T)):W.codeHdIn K c T=true/\h.get? T=some {cls:=.none,data:=.fields #[]}/\K.lookup T=none:=by
 unfold Ci at e;rw[t]at e;simp only[aV]at e;obtain⟨h1,h2,h3⟩:=e;refine⟨h1,?_,by simpa using h2⟩
 split at h3
 ·grind
 ·cases h3
def MN{K:W.Frag}(e:So K=true):Ir K:=by
 unfold So at e;split at e
 ·rename_i bm hb;simp only[aV]at e;obtain⟨h1,h2,h3⟩:=e;split at h3
  ·rename_i m d sl z;rw[aV]at h3;obtain rfl:=bf h3.1;obtain rfl:=bf h3.2;exact⟨bm,_,hb,by grind,by grind,z,rfl,rfl,rfl⟩
  ·cases h3
 ·cases e
def IG{P:Pg}{K:W.Frag}{h:Heap}(e:yO P K h=true):lY K h/\(∀x∈P.nU,Sk K x)/\(P.nU≠[]->Ir K):=by
 unfold yO at e;simp only[aV]at e;obtain⟨h1,h2,h3,h4⟩:=e;have all:=gH.mp h1;refine⟨⟨λx hx c T t=>uQ (all x hx) t,fL h2⟩,λx hx=>?_,λz=>?_⟩
 ·have:=gH.mp h4 x hx;rw[aV]at this;have hm:x∈du:=by grind
  cases t:W.tabIn K x with
  | none=>rw[t]at this;cases this.2
  | some cT=>exact⟨hm,cT.1,cT.2,t,(uQ (all x hm) t).1⟩
 ·rcases Bool.or_eq_true_iff.mp h3 with y | y
  ·grind
  ·exact MN y
abbrev Sq:=List (Option FuncData)×List (Option FuncData)×Bool×List abO×List Sl
def Cj(P:Pg)(K:W.Frag)(hp:Heap):Sq:=((P.defs.take 26).map (λd=>chFn K d.1),(P.defs.drop 26).map (λd=>chFn K d.1),P.cons.all (yI K mainGlobals)&&(P.de.all (yJ K)&&yO P K hp),P.tabs.map (λd=>yK K d.1 d.2),P.cls.map (λd=>yM K P.flds d.1))
def Ck(P:Pg)(w:World):Sq:=((P.defs.take 26).map (λd=>some (jq d.1 d.2)),(P.defs.drop 26).map (λd=>some (jq d.1 d.2)),true,P.tabs.map (λd=>qO w.params d.2),P.cls.map (λd=>qP P.flds d.1 d.2))
def F6{P:Pg}{w:World}{K:W.Frag}(Sn:P.defs.all (λd=>ML d.2)=true)(Xd:Ea P)(IH:P.cls.all (λd=>ML d.2)=true)(II:MM P){hp:Heap}(h:Cj P K hp=Ck P w):Iu P w K/\lY K hp:=by
 unfold Cj Ck at h;simp only[qJ]at h;obtain⟨h1,h0,h2,h5,h6⟩:=h;rw[aV,aV]at h2;obtain⟨l1,l2,l3⟩:=IG h2.2.2;refine⟨⟨λd hd=>?_,λd hd=>Iw (gH.mp h2.1 d hd),λx hx=>Iy (gH.mp h2.2.1 x hx),λd hd=>IC (lj.mp h5 d hd),λd hd=>IF (gH.mp IH d hd) II hd (lj.mp h6 d hd),l2,l3⟩,l1⟩
 obtain⟨f,fd,a,F⟩:=MK (by
  have wF:=hd;rw[<-BJ 26 P.defs]at wF;rcases bh.mp wF with z | z
  ·exact lj.mp h1 d z
  ·exact lj.mp h0 d z)
 exact⟨⟨f,fd,a,F,λus hl=>Sm Xd hd F us hl⟩,IE (gH.mp Sn d hd)⟩
def iB{α β γ:Type}{o:Option α}{f:α->β}{g:α->γ}{a:β}{b:γ}(h1:o.map f=some a)(h2:o.map g=some b):o.map (λs=>(f s,g s))=some (a,b):=by
 cases o with
 | none=>cases h1
 | some s=>cases h1;cases h2;rfl
def MO(P:Pg)(Sn:P.defs.all (λd=>ML d.2)=true)(Xd:Ea P)(IH:P.cls.all (λd=>ML d.2)=true)(II:MM P):W.Hook :=
 ⟨Sq,λs=>Cj P (fw s.heap) s.heap,λw=>Ck P w,λw h=>∃K:W.Frag,K.In h/\Iu P w K/\lY K h,λw s e=>⟨_,nV _ _,F6 Sn Xd IH II e⟩,λ_ _ _ ⟨K,a,b,c⟩ k=>⟨K,a.keeps k,b,c.keeps k⟩⟩
noncomputable def iC(p:Program)(row:String)(b:Bool)(N:Nat)(w:World):Option Shared:=(W.fencedOpening treeTable p w N).bind λs₀=>W.topFrom treeTable p (w.withFollow row b) N s₀
def F7{p q:Program}{loose:List Str}{Xt:Shared->Bool}{α:Type}{Yf:Shared->α}{Ya:World->α}{N:Nat}{g0:Bool}(row:String)
  (h1:∀w,(iC p row false N w).map (W.openSeen q loose (importedModules p.main.body) Xt g0)=some (W.openGood q loose)) (h2:∀w,(iC p row true N w).map (W.openSeen q loose (importedModules p.main.body) Xt g0)=some (W.openGood q loose))
  (h3:∀w,(iC p row false N w).map Yf=some (Ya (w.withFollow row false))) (h4:∀w,(iC p row true N w).map Yf=some (Ya (w.withFollow row true))):W.LeftO p q loose Xt Yf Ya N g0:=by
 refine W.LeftO.of_split row λw=>?_
 obtain⟨sA,a1,a2⟩:=jN.mp (h1 w);obtain⟨sB,b1,b2⟩:=jN.mp (h2 w);obtain⟨sC,c1,c2⟩:=jN.mp (h3 w);obtain⟨sD,d1,d2⟩:=jN.mp (h4 w);rw[a1]at c1;rw[b1]at d1;cases c1;cases d1;obtain⟨s0,f0,tA⟩:=la.mp a1;obtain⟨s1,f1,tB⟩:=la.mp b1;rw[f0]at f1;cases f1;rw[f0,gI,tA,tB,gI,gI,a2,b2,c2,d2]
end L2.U
namespace bU
open PySem L2 L2.U
noncomputable def top(i:Nat):Stmt:=PySem.Challenge.pw_lendrule_k27_whole_needed_along_a_way.main.body.getD i (.Pass ⟨0,0,0,0⟩)
noncomputable def jd:List (Str×Str):=[("put","put_acts"),("set","set_acts"),("fill","put_acts"),("copy","copy_acts"),("move","move_acts"),("drop","drop_acts"),("lend","lend_acts"),("sole","lend_acts"),("call","call_acts"),("if","if_acts"),("go","go_acts"),("say","say_acts"),("give","give_acts")]
def txt:Pg where
 defs:=([("leaves",5),("check_part",6),("part",7),("first",8),("is_copied",9),("kind_of",12),("is_holder",13),("shape_of",14),("spread",16),("tell_new",17),("row_nexts",29),("acts",30),("nexts",31),("touched",32),("is_lending",33),("touch",34),("touch_whole",35),("at_acts",36),("operand_acts",37),("target_acts",38),("put_acts",39),("set_acts",40),("copy_acts",41),("move_acts",42),("drop_acts",43),("lend_acts",44),("call_acts",45),("arg_act",46),("owner_act",47),("if_acts",48),("go_acts",49),("say_acts",50),("give_acts",51),("needs",54),("acts_ahead",55),("needed_by",56),("handed",57),("needed_ahead",58),("_law_cell_at",60),("_law_mixed",61),("_law_names",62),("_law_shape",63),("_law_leaves",64),("_law_parts",65),("_law_lets",66),("_law_spots",67),("_law_numbers",68),("_law_operand",69),("_law_carried",70),("_law_lending",71),("_law_call",72),("_law_small_row",73),("_law_row",74),("_law_program",75),("_law_first",76),("_law_nexts",77),("_law_starts",78),("_law_touched",79),("_law_through",80),("_law_given",81),("_law_way_from",82),("law",83)]:List (String×Nat)).map λd=>(d.1,top d.2)
 cons:=[("HOLDER_WORDS",.ao [(.str "lent"),(.str "sole")]),("ROW",.int 0),("ACT",.int 1),("NAME",.int 2),("THROUGH",.int 3),("FIRST",.int 4),("MANY",.int 5),("TAKER",.int 6),("REST",.ao [(.str "rest"),(.str ""),(.bl false),(.int 0),(.int 0),(.str "")]),("HAND",.ao [(.str "hand"),(.str ""),(.bl false),(.int 0),(.int 0),(.str "")]),("LENDING",.ao [(.str "lend"),(.str "sole")])]
 de:=["bool","dict","enumerate","int","isinstance","len","list","range","reversed","set","sorted","str","sum","tuple"]
 tabs:=[("MAKERS",jd)]
 cls:=[]
 flds:=[]
 nU:=["needs"]
 W9:=[("leaves",[("told",1)]),("spread",[("known",10),("told",1)]),("tell_new",[("known",10),("told",1)]),("acts",[("told",1)]),("nexts",[("firsts",1),("told",1)]),("call_acts",[("told",1)]),("needs",[("firsts",1)]),("acts_ahead",[("told",2)]),("handed",[("told",1)]),("_law_names",[("_law_named",1)]),("_law_lets",[("_law_lets_here",1)]),("_law_spots",[("_law_found",1)]),("_law_numbers",[("_law_found",1)]),("_law_call",[("_law_args",1)]),("_law_program",[("_law_params",1),("_law_heads",1)]),("_law_starts",[("_law_starts_here",1)]),("_law_way_from",[("_law_way",1)]),("law",[("_law_known",10),("_law_needed",10)])]
section
end
theorem p0{α β γ:Type}{E:Option α}{l:List β}{f:α->β->γ}{g:β->γ}(n:Nat)(h1:E.map (λs=>(l.take n).map (f s))=some ((l.take n).map g))(h2:E.map (λs=>(l.drop n).map (f s))=some ((l.drop n).map g)):E.map (λs=>l.map (f s))=some (l.map g):=by
 cases E with
 | none=>cases h1
 | some s=>exact dB some (show l.map (f s)=l.map g by rw[<-BJ n l,bQ,bQ,show(l.take n).map (f s)=_ from cz h1,show(l.drop n).map (f s)=_ from cz h2])
theorem Sn:txt.defs.all (λd=>ML d.2)=true:=by kernel_rfl
theorem Xd:Ea txt:=by
 intro kV doc pm an cS ct u;kernel_rfl
theorem IH:txt.cls.all (λd=>ML d.2)=true:=by kernel_rfl
theorem II:MM txt:=by
 intro kV doc pm an cS ct u;kernel_rfl
noncomputable def qv:Program:=W.view (W.OpenLaw.prog PySem.Challenge.rw_lendrule_k27_whole_needed_along_a_way) [83]
noncomputable def lo:List Str:=(W.OpenLaw.prog PySem.Challenge.rw_lendrule_k27_whole_needed_along_a_way).boundNames.filter (· != "law")
def Xt(s:Shared):Bool:=W.xlAt qv [] s&&W.recOk (W.RowW.records (W.OpenRow.toRowW (W.OpenLaw.row PySem.Challenge.rw_lendrule_k27_whole_needed_along_a_way))) s
abbrev hk:W.Hook:=MO txt Sn Xd IH II
theorem kq1(w:World):(iC (W.OpenLaw.prog PySem.Challenge.rw_lendrule_k27_whole_needed_along_a_way) "special-get-raises" false 5000 w).map (W.openSeen qv lo (importedModules (W.OpenLaw.prog PySem.Challenge.rw_lendrule_k27_whole_needed_along_a_way).main.body) Xt true)=some (W.openGood qv lo):=by kernel_rfl
theorem kq2(w:World):(iC (W.OpenLaw.prog PySem.Challenge.rw_lendrule_k27_whole_needed_along_a_way) "special-get-raises" true 5000 w).map (W.openSeen qv lo (importedModules (W.OpenLaw.prog PySem.Challenge.rw_lendrule_k27_whole_needed_along_a_way).main.body) Xt true)=some (W.openGood qv lo):=by kernel_rfl
theorem Xe(w:World):(iC (W.OpenLaw.prog PySem.Challenge.rw_lendrule_k27_whole_needed_along_a_way) "special-get-raises" false 5000 w).map (λs:Shared=>(txt.defs.take 26).map (λd=>chFn (fw s.heap) d.1))=some ((txt.defs.take 26).map (λd=>some (jq d.1 d.2))):=by kernel_rfl
theorem Sr(w:World):(iC (W.OpenLaw.prog PySem.Challenge.rw_lendrule_k27_whole_needed_along_a_way) "special-get-raises" false 5000 w).map (λs:Shared=>((txt.defs.drop 26).take 15).map (λd=>chFn (fw s.heap) d.1))=some (((txt.defs.drop 26).take 15).map (λd=>some (jq d.1 d.2))):=by kernel_rfl
theorem Ss(w:World):(iC (W.OpenLaw.prog PySem.Challenge.rw_lendrule_k27_whole_needed_along_a_way) "special-get-raises" false 5000 w).map (λs:Shared=>(((txt.defs.drop 26).drop 15).take 15).map (λd=>chFn (fw s.heap) d.1))=some ((((txt.defs.drop 26).drop 15).take 15).map (λd=>some (jq d.1 d.2))):=by kernel_rfl
theorem Su(w:World):(iC (W.OpenLaw.prog PySem.Challenge.rw_lendrule_k27_whole_needed_along_a_way) "special-get-raises" false 5000 w).map (λs:Shared=>(((txt.defs.drop 26).drop 15).drop 15).map (λd=>chFn (fw s.heap) d.1))=some ((((txt.defs.drop 26).drop 15).drop 15).map (λd=>some (jq d.1 d.2))):=by kernel_rfl
theorem Sv(w:World):(iC (W.OpenLaw.prog PySem.Challenge.rw_lendrule_k27_whole_needed_along_a_way) "special-get-raises" false 5000 w).map (λs:Shared=>txt.cons.all (yI (fw s.heap) mainGlobals)&&(txt.de.all (yJ (fw s.heap))&&yO txt (fw s.heap) s.heap))=some true:=by kernel_rfl
theorem Sw(w:World):(iC (W.OpenLaw.prog PySem.Challenge.rw_lendrule_k27_whole_needed_along_a_way) "special-get-raises" false 5000 w).map (λs:Shared=>(txt.tabs.map (λd=>yK (fw s.heap) d.1 d.2),txt.cls.map (λd=>yM (fw s.heap) txt.flds d.1)))=some (txt.tabs.map (λd=>qO (w.withFollow "special-get-raises" false).params d.2),txt.cls.map (λd=>qP txt.flds d.1 d.2)):=by kernel_rfl
theorem kq3(w:World):(iC (W.OpenLaw.prog PySem.Challenge.rw_lendrule_k27_whole_needed_along_a_way) "special-get-raises" false 5000 w).map (W.Hook.obs hk)=some (W.Hook.val hk (w.withFollow "special-get-raises" false)):=iB (Xe w) (iB (p0 15 (Sr w) (p0 15 (Ss w) (Su w))) (iB (Sv w) (Sw w)))
theorem Xf(w:World):(iC (W.OpenLaw.prog PySem.Challenge.rw_lendrule_k27_whole_needed_along_a_way) "special-get-raises" true 5000 w).map (λs:Shared=>(txt.defs.take 26).map (λd=>chFn (fw s.heap) d.1))=some ((txt.defs.take 26).map (λd=>some (jq d.1 d.2))):=by kernel_rfl
theorem Sx(w:World):(iC (W.OpenLaw.prog PySem.Challenge.rw_lendrule_k27_whole_needed_along_a_way) "special-get-raises" true 5000 w).map (λs:Shared=>((txt.defs.drop 26).take 15).map (λd=>chFn (fw s.heap) d.1))=some (((txt.defs.drop 26).take 15).map (λd=>some (jq d.1 d.2))):=by kernel_rfl
theorem Sy(w:World):(iC (W.OpenLaw.prog PySem.Challenge.rw_lendrule_k27_whole_needed_along_a_way) "special-get-raises" true 5000 w).map (λs:Shared=>(((txt.defs.drop 26).drop 15).take 15).map (λd=>chFn (fw s.heap) d.1))=some ((((txt.defs.drop 26).drop 15).take 15).map (λd=>some (jq d.1 d.2))):=by kernel_rfl
theorem Sz(w:World):(iC (W.OpenLaw.prog PySem.Challenge.rw_lendrule_k27_whole_needed_along_a_way) "special-get-raises" true 5000 w).map (λs:Shared=>(((txt.defs.drop 26).drop 15).drop 15).map (λd=>chFn (fw s.heap) d.1))=some ((((txt.defs.drop 26).drop 15).drop 15).map (λd=>some (jq d.1 d.2))):=by kernel_rfl
theorem SA(w:World):(iC (W.OpenLaw.prog PySem.Challenge.rw_lendrule_k27_whole_needed_along_a_way) "special-get-raises" true 5000 w).map (λs:Shared=>txt.cons.all (yI (fw s.heap) mainGlobals)&&(txt.de.all (yJ (fw s.heap))&&yO txt (fw s.heap) s.heap))=some true:=by kernel_rfl
theorem SD(w:World):(iC (W.OpenLaw.prog PySem.Challenge.rw_lendrule_k27_whole_needed_along_a_way) "special-get-raises" true 5000 w).map (λs:Shared=>(txt.tabs.map (λd=>yK (fw s.heap) d.1 d.2),txt.cls.map (λd=>yM (fw s.heap) txt.flds d.1)))=some (txt.tabs.map (λd=>qO (w.withFollow "special-get-raises" true).params d.2),txt.cls.map (λd=>qP txt.flds d.1 d.2)):=by kernel_rfl
theorem kq4(w:World):(iC (W.OpenLaw.prog PySem.Challenge.rw_lendrule_k27_whole_needed_along_a_way) "special-get-raises" true 5000 w).map (W.Hook.obs hk)=some (W.Hook.val hk (w.withFollow "special-get-raises" true)):=iB (Xf w) (iB (p0 15 (Sx w) (p0 15 (Sy w) (Sz w))) (iB (SA w) (SD w)))
theorem ws:W.OpenLaw.wellSaid PySem.Challenge.rw_lendrule_k27_whole_needed_along_a_way=true:=by kernel_rfl
end bU
open PySem PySem.W PyProof.Rows PySem.Calls
set_option maxRecDepth 100000 in
set_option maxHeartbeats 0 in
theorem bU.jI(hc:∀d:DefRec,d.name="law"->d.params.defaults=[]->W.WalkO bU.qv bU.lo (XL bU.qv []) (Hook.says bU.hk) (W.OpenRow.toRowW (W.OpenLaw.row PySem.Challenge.rw_lendrule_k27_whole_needed_along_a_way)) d [] (λf vs=>PySem.call f vs)):PySem.Challenge.rw_lendrule_k27_whole_needed_along_a_way.Holds:=by
 w_on;refine W.holds_law bU.ws λaga=>?_
 refine W.holds_open (q:=bU.qv) (loose:=bU.lo) (Xt:=bU.Xt) (XP:=XL bU.qv []) (Yf:=Hook.obs bU.hk) (Ya:=Hook.val bU.hk) (YP:=Hook.says bU.hk) (N:=5000) (L2.U.F7 "special-get-raises" bU.kq1 bU.kq2 bU.kq3 bU.kq4) (Hook.of _) (Hook.keeps _) (λs e=>xl_of s (fu.mp e).1) XL.keeps (by rfl) (by rfl) (by rfl) (λs e=>recFacts_of (fu.mp e).2) (by rfl) (by first | assumption | decide +kernel) (by decide +kernel) ⟨rfl,rfl,rfl,rfl,rfl,by decide +kernel⟩ ?hw (hc _ rfl rfl)
 case hw=>w_witness2
end
namespace L2
open PySem PySem.Spec PyProof.Rows
noncomputable def uR:bz->Value->Bool
 | .inl k,v=>Value.isInt k v
 | .inr x,v=>Value.isStrOf x v
def abQ(w:World):bz->Int
 | .inl k=>hashInt k
 | .inr x=>hashStr w x
theorem c5:∀{k:bz} {v:Value},uR k v=true->(∃i t,k=Sum.inl i/\v=Value.int i t)\/(∃x t,k=Sum.inr x/\v=Value.str x t)
 | .inl i,v,h=>by
  obtain⟨t,e⟩:=Value.isInt_shape h;exact .inl ⟨i,t,rfl,e⟩
 | .inr x,v,h=>by
  obtain⟨t,e⟩:=Value.isStrOf_shape h;exact .inr ⟨x,t,rfl,e⟩
def F8(i:Int)(t:Tok):uR (.inl i) (.int i t)=true:=by simp[uR,Value.isInt]
def F9(x:Str)(t:Tok):uR (.inr x) (.str x t)=true:=by simp[uR,Value.isStrOf]
def SE(a b:Int):decide ((Sum.inl a:bz)=Sum.inl b)=(a==b):=by
 grind
def SF(a b:Str):decide ((Sum.inr a:bz)=Sum.inr b)=decide (a=b):=by
 grind
def SG(a:Int)(b:Str):decide ((Sum.inl a:bz)=Sum.inr b)=false:=by grind
def SH(a:Str)(b:Int):decide ((Sum.inr a:bz)=Sum.inl b)=false:=by grind
def cf(prog:Program)(w:World):PySem.KeyKind prog w bz where
 is:=uR
 hash:=abQ w
 inj:=λv a b ha hb=>by
  rcases c5 ha with⟨i,t,rfl,rfl⟩ | ⟨x,t,rfl,rfl⟩
  ·rcases c5 hb with⟨j,u,rfl,e⟩ | ⟨y,u,rfl,e⟩
   ·injection e with e1 _;rw[e1]
   ·exact nomatch e
  ·rcases c5 hb with⟨j,u,rfl,e⟩ | ⟨y,u,rfl,e⟩
   ·exact nomatch e
   ·injection e with e1 _;rw[e1]
 byValue:=λk v h=>by
  rcases c5 h with⟨i,t,rfl,rfl⟩ | ⟨x,t,rfl,rfl⟩<;>rfl
 pyHash:=λhv h=>by
  rcases c5 hv with⟨i,t,rfl,rfl⟩ | ⟨x,t,rfl,rfl⟩
  ·exact wpAny_pyHash_int h
  ·exact wpAny_pyHash_str h
 eqBool:=λhu hv h=>by
  rcases c5 hu with⟨i,t,rfl,rfl⟩ | ⟨x,t,rfl,rfl⟩
  ·rcases c5 hv with⟨j,u,rfl,rfl⟩ | ⟨y,u,rfl,rfl⟩
   ·rw[SE]at h;exact wpAny_eqBool_int h
   ·rw[SG]at h;exact SeqAt.EqAt.int_str i t y u _ _ _ _ h
  ·rcases c5 hv with⟨j,u,rfl,rfl⟩ | ⟨y,u,rfl,rfl⟩
   ·rw[SH]at h;exact SeqAt.EqAt.str_int x t j u _ _ _ _ h
   ·rw[SF]at h;exact wpAny_eqBool_str h
 «strs» := λk x t v h=>by
  rcases c5 h with⟨i,u,rfl,e⟩ | ⟨y,u,rfl,e⟩
  ·exact nomatch e
  ·injection e with e1 _
   subst e1;cases v<;>rfl
def yP(prog:Program)(w:World)(i:Int)(t:Tok):(cf prog w).is (.inl i) (.int i t)=true:=F8 i t
def yQ(prog:Program)(w:World)(x:Str)(t:Tok):(cf prog w).is (.inr x) (.str x t)=true:=F9 x t
def Vals.length(r:Vals xs us):xs.length=us.length:=nK r
theorem Vals.get:∀{xs:List V} {us:List Value} {i:Nat} {x:V},Vals xs us->xs[i]?=some x->∃u,us[i]?=some u/\RelV x u
 | _,_,_,_,.nil,e=>by simp at e
 | _,_,0,_,.cons r _,e=>by grind
 | _,_,i+1,x,.cons _ t,e=>by
  obtain⟨u,h1,h2⟩:=Vals.get t (by simpa using e)
  exact⟨u,by grind,h2⟩
theorem Vals.set(r:RelV x u):∀{xs:List V} {us:List Value} (i:Nat),Vals xs us->Vals (xs.set i x) (us.set i u)
 | _,_,_,.nil=>.nil
 | _,_,0,.cons _ t=>.cons r t
 | _,_,i+1,.cons q t=>.cons q (Vals.set r i t)
theorem Vals.append:∀{xs ys:List V} {us ws:List Value},Vals xs us->Vals ys ws->Vals (xs++ys) (us++ws)
 | _,_,_,_,.nil,s=>s
 | _,_,_,_,.cons r t,s=>.cons r (Vals.append t s)
theorem Vals.take:∀{xs:List V} {us:List Value} (n:Nat),Vals xs us->Vals (xs.take n) (us.take n)
 | _,_,0,_=>.nil
 | _,_,_+1,.nil=>.nil
 | _,_,n+1,.cons r t=>.cons r (Vals.take n t)
theorem Vals.drop:∀{xs:List V} {us:List Value} (n:Nat),Vals xs us->Vals (xs.drop n) (us.drop n)
 | _,_,0,r=>r
 | _,_,_+1,.nil=>.nil
 | _,_,n+1,.cons _ t=>Vals.drop n t
def qQ:Option V->Option Value->Prop
 | some v,some u=>RelV v u
 | none,none=>True
 | _,_=>False
def KV{κ:Type}:List (κ×V)->List (κ×Value)->Prop:=Paired fun(p:κ×V) (q:κ×Value)=>p.1=q.1/\RelV p.2 q.2
noncomputable def cg(H:Hp)(a:Addr)(o:HO):Hp:=λb=>if b=a then some o else H b
def aA:cg H a o a=some o:=by unfold cg;rw[if_pos rfl]
def aJ(h:b≠a):cg H a o b=H b:=by unfold cg;rw[if_neg h]
def bP{H:Hp}{a b:Addr}{o:HO}(h:H a=some o)(h':H b=none):a≠b:=by
 grind
section
variable (P:Program) (w:World)
def fG(H:Hp)(h:Heap)(a:Addr):HO->Prop
 | .lst xs=>xs.length<=sizeLine/\∃(aH:List Value) (n:Nat),Vals xs aH/\h.get? a=some {cls:=.type "list",data:=.seq aH.toArray n}
 | .ao xs=>xs.length<=sizeLine/\∃aH:List Value,Vals xs aH/\IsTup h a aH.toArray
 | .dK kvs=>kvs.length<=sizeLine/\(a==sysModules)=false/\∃vs,KV kvs vs/\h.DictOf (cf P w) a vs
 | .dT xs=>xs.length<=sizeLine/\(a==sysModules)=false/\∃o es ep,h.get? a=some o/\o.ExactDict/\o.data=.dict es ep/\es.toList=xs.map (entryOfKey (tupleKind (cf P w)))/\(xs.map (·.1)).Nodup
 | .set S n=>h.SetOf (intKind P w) a S n
 | .oQ C dx fs=>H dx=some (.own a)/\fs.length<=1000/\dx≠a/\h.get? a=some (W.instObj C dx) /\
   ∃mA,h.Ns1 dx mA/\(∀f,qQ (fs.lookup f) (mA f))/\PySem.Within mA (fs.map (·.1))
 | .own _=>∃o,h.get? a=some o
 | .xd fs=>∃mA,h.Ns1 a mA/\∀f,qQ (fs.lookup f) (mA f)
 | .rng lo hi=>∃t u v,h.get? a=some {cls:=.type "range",data:=.fields #[.int lo t,.int hi u,.int 1 v]}
 | .oR o u=>h.get? a=some o/\fG H h a u
 | .Cd q=>∃ps:Array Value,h.get? a=some {cls:=.none,data:=.fields ps}/\TriplesOk ps.toList/\∀(pos:Pos) (cv:Value),codeAmong pos ps.toList=some cv ->
   ∃(c:Addr) (oc:Obj) (u:HO) (vs:Array Value) (t:Tok),cv=.ref c/\H c=some (.oR oc u)/\oc.data=.fields vs/\vs[1]?=some (.str q t)
 | .met f x=>h.get? a=some (W.methodObj (.ref f) (.ref x))
 | .ext φ=>φ h/\(∃o,h.get? a=some o)/\∀h1 h2:Heap,φ h1->(∀o,h1.get? a=some o->h2.get? a=some o)->φ h2
def lF(H:Hp)(h:Heap):Prop:=∀a o,H a=some o->fG P w H h a o
end
section
variable {P:Program} {w:World} {H H':Hp} {h h':Heap} {a:Addr} {o:HO}
def fG.lt(x:fG P w H h a o):a<h.objs.size:=by
 cases o with
 | lst xs=>obtain⟨_,_,_,_,e⟩:=x;exact aW e
 | ao xs=>obtain⟨_,_,_,p⟩:=x;exact p.lt
 | dK kvs=>obtain⟨_,_,_,_,o,_,_,e,_⟩:=x;exact aW e
 | dT kvs=>obtain⟨_,_,o,_,_,e,_⟩:=x;exact aW e
 | set S n=>obtain⟨o,_,_,_,e,_⟩:=x;exact aW e
 | oQ C dx fs=>obtain⟨_,_,_,e,_⟩:=x;exact aW e
 | own y=>obtain⟨_,e⟩:=x;exact aW e
 | xd fs=>obtain⟨_,⟨_,_,_,e,_⟩,_⟩:=x;exact aW e
 | rng lo hi=>obtain⟨_,_,_,e⟩:=x;exact aW e
 | oR ob u=>obtain⟨e,_⟩:=x;exact aW e
 | Cd q=>obtain⟨_,e,_⟩:=x;exact aW e
 | met f y=>exact aW (x)
 | ext φ=>obtain⟨_,⟨_,e⟩,_⟩:=x;exact aW e
def fG.wG(x:fG P w H h a o)(k:∀b u,(b=a\/H b=some (.own a))->h.get? b=some u->h'.get? b=some u)
  (ho:∀b,H b=some (.own a)->H' b=some (.own a)) (ht:∀b xs,H b=some (.ao xs)->H' b=some (.ao xs)) (hz:∀b ob u,H b=some (.oR ob u)->H' b=some (.oR ob u)):fG P w H' h' a o:=by
 induction o with
 | lst xs=>obtain⟨z,aH,n,r,e⟩:=x;exact⟨z,aH,n,r,k _ _ (.inl rfl) e⟩
 | ao xs=>obtain⟨z,aH,r,ob,e,c⟩:=x;exact⟨z,aH,r,ob,k _ _ (.inl rfl) e,c⟩
 | dK kvs=>obtain⟨z,y,vs,r,ob,es,ep,e,c⟩:=x;exact⟨z,y,vs,r,ob,es,ep,k _ _ (.inl rfl) e,c⟩
 | dT kvs=>obtain⟨z,y,ob,es,ep,e,c⟩:=x;exact⟨z,y,ob,es,ep,k _ _ (.inl rfl) e,c⟩
 | set S n=>obtain⟨ob,es,ep,t,e,c⟩:=x;exact⟨ob,es,ep,t,k _ _ (.inl rfl) e,c⟩
 | oQ C dx fs =>
  obtain⟨d,z,ne,e,mA,⟨od,es,ep,e2,c⟩,r⟩:=x;exact⟨ho _ d,z,ne,k _ _ (.inl rfl) e,mA,⟨od,es,ep,k _ _ (.inr d) e2,c⟩,r⟩
 | own y=>obtain⟨ob,e⟩:=x;exact⟨ob,k _ _ (.inl rfl) e⟩
 | xd fs=>obtain⟨mA,⟨od,es,ep,e,c⟩,r⟩:=x;exact⟨mA,⟨od,es,ep,k _ _ (.inl rfl) e,c⟩,r⟩
 | rng lo hi=>obtain⟨t,u,v,e⟩:=x;exact⟨t,u,v,k _ _ (.inl rfl) e⟩
 | oR ob u ih=>obtain⟨e,q⟩:=x;exact⟨k _ _ (.inl rfl) e,ih q⟩
 | Cd q =>
  obtain⟨ps,e,t,c⟩:=x;exact⟨ps,k _ _ (.inl rfl) e,t,λpos cv z=>let ⟨c,oc,u,vs,tk,h1,h2,h3⟩:=c pos cv z;⟨c,oc,u,vs,tk,h1,hz _ _ _ h2,h3⟩⟩
 | met f y =>
  have e:=x;exact k a _ (.inl rfl) e
 | ext φ=>obtain⟨p,⟨o,e⟩,st⟩:=x;exact⟨st _ _ p λo q=>k _ _ (.inl rfl) q,⟨o,k _ _ (.inl rfl) e⟩,st⟩
def lF.lt(x:lF P w H h)(e:H a=some o):a<h.objs.size:=(x a o e).lt
def lF.fresh(x:lF P w H h)(e:h.objs.size<=a):H a=none:=by
 cases q:H a with
 | none=>rfl
 | some u=>exact absurd (bY (x.lt q) e) (gK _)
def lF.kept(x:lF P w H h)(k:∀b u,h.get? b=some u->h'.get? b=some u):lF P w H h':=λa o e =>
 (x a o e).wG (λb u _ q=>k b u q) (λ_ q=>q) (λ_ _ q=>q) λ_ _ _ q=>q
def lF.laid(x:lF P w H h)(k:∀b u,h.get? b=some u->h'.get? b=some u)(hp:h.objs.size<=a)(new:fG P w (cg H a o) h' a o):lF P w (cg H a o) h':=λb u e=>by
 have hn:=x.fresh hp;by_cases hb:b=a
 ·subst hb;rw[aA]at e;cases e;exact new
 ·rw[aJ hb]at e;exact(x b u e).wG (λc v _ q=>k c v q) (λc q=>by rw[aJ (bP q hn)];exact q) (λc xs q=>by rw[aJ (bP q hn)];exact q) λc ob v q=>by rw[aJ (bP q hn)];exact q
end
def Rd.ok(r:Rd H a u)(x:lF P w H h):fG P w H h a u:=by
 rcases r with r | ⟨o,r⟩
 ·exact x a u r
 ·obtain⟨_,q⟩:=x a _ r;exact q
def Mut:Option HO->Prop
 | some (.lst _)=>True
 | some (.dK _)=>True
 | some (.dT _)=>True
 | some (.set _ _)=>True
 | some (.oQ _ _ _)=>True
 | some (.ext _)=>True
 | _=>False
section
variable {P:Program} {w:World} {H:Hp} {h h':Heap} {x e:Addr} {o':HO}
def lF.write(ok:lF P w H h)(mu:Mut (H x))(he:e=x\/H e=some (.own x))(k:∀b u,b≠e->h.get? b=some u->h'.get? b=some u)(WE:∃u,h'.get? e=some u)
  (new:fG P w (cg H x o') h' x o'):lF P w (cg H x o') h':=λb u q=>by
 have Xg:∀c y,H c=some (.own y)->c≠x:=λc y r z=>by subst z;rw[r]at mu;exact mu
 have abR:∀c xs,H c=some (.ao xs)->c≠x:=λc xs r z=>by subst z;rw[r]at mu;exact mu
 have abS:∀c ob v,H c=some (.oR ob v)->c≠x:=λc ob v r z=>by subst z;rw[r]at mu;exact mu
 by_cases hb:b=x
 ·subst hb;rw[aA]at q;cases q;exact new
 ·rw[aJ hb]at q;by_cases SJ:b=e
  ·have q':H b=some (.own x):=by
    rcases he with z | z
    ·exact absurd (SJ.trans z) hb
    ·rw[SJ];exact z
   rw[q]at q';cases q';obtain⟨v,hv⟩:=WE;exact⟨v,by rw[SJ];exact hv⟩
  ·refine(ok b u q).wG (λc v hc r=>k c v ?_ r) (λc r=>by rw[aJ (Xg c b r)];exact r) (λc xs r=>by rw[aJ (abR c xs r)];exact r) λc ob v r=>by rw[aJ (abS c ob v r)];exact r
   rcases hc with rfl | hc
   ·exact SJ
   ·rintro rfl
    rcases he with z | z
    ·exact Xg c b hc z
    ·rw[hc]at z;cases z;exact hb rfl
end
structure Un (fs ex:List Addr) (H H':Hp) (h h':Heap):Prop where
 keep:∀b o,h.get? b=some o->H b=none->b∉fs->b∉ex->h'.get? b=some o
 slot:∀b o,h.get? b=some o->H b=none->b∈fs->b∉ex->∃sl,h'.get? b=some {o with slots:=sl}
 free:∀b o,h.get? b=some o->H b=none->b∉ex->H' b=none
 there:∀b o,h.get? b=some o->b∉ex->∃o',h'.get? b=some o'
 tups:∀b xs,H b=some (.ao xs)->H' b=some (.ao xs)
 frzs:∀b o u,H b=some (.oR o u)->H' b=some (.oR o u)
 tbls:∀b q,H b=some (.Cd q)->H' b=some (.Cd q)
section
variable {fs Xh ex ex':List Addr} {H H1 H2:Hp} {h h1 h2 h':Heap} {a x e:Addr} {o:HO}
def Un.any(u:Un fs ex H H1 h h1)(q:h.get? b=some ob)(n:H b=none)(hx:b∉ex):∃sl,h1.get? b=some {ob with slots:=sl}:=by
 by_cases hb:b∈fs
 ·exact u.slot b ob q n hb hx
 ·exact⟨ob.slots,u.keep b ob q n hb hx⟩
def Un.trans(a:Un fs ex H H1 h h1)(b:Un fs ex H1 H2 h1 h2):Un fs ex H H2 h h2 where
 keep:=λc ob q n hc hx=>b.keep c ob (a.keep c ob q n hc hx) (a.free c ob q n hx) hc hx
 slot:=λc ob q n hc hx=>by
  obtain⟨sl,e1⟩:=a.slot c ob q n hc hx;obtain⟨Xi,e2⟩:=b.slot c _ e1 (a.free c ob q n hx) hc hx;exact⟨Xi,e2⟩
 free:=λc ob q n hx=>by
  obtain⟨o',e1⟩:=a.there c ob q hx;exact b.free c o' e1 (a.free c ob q n hx) hx
 there:=λc ob q hx=>by
  obtain⟨o',e1⟩:=a.there c ob q hx;exact b.there c o' e1 hx
 tups:=λc xs q=>b.tups c xs (a.tups c xs q)
 frzs:=λc ob xs q=>b.frzs c ob xs (a.frzs c ob xs q)
 tbls:=λc q e=>b.tbls c q (a.tbls c q e)
def Un.kept(k:∀b u,h.get? b=some u->h'.get? b=some u):Un fs ex H H h h' :=
 ⟨λb ob q _ _ _=>k b ob q,λb ob q _ _ _=>⟨ob.slots,k b ob q⟩,λ_ _ _ n _=>n,λb ob q _=>⟨ob,k b ob q⟩,λ_ _ q=>q,λ_ _ _ q=>q,λ_ _ q=>q⟩
def Un.refl:Un fs ex H H h h:=Un.kept λ_ _ q=>q
def Un.laid(k:∀b u,h.get? b=some u->h'.get? b=some u)(hp:h.objs.size<=a)(hn:H a=none):Un fs ex H (cg H a o) h h' where
 keep:=λb u q _ _ _=>k b u q
 slot:=λb u q _ _ _=>⟨u.slots,k b u q⟩
 free:=λb u q n _=>by rw[aJ (bI (bY (aW q) hp))];exact n
 there:=λb u q _=>⟨u,k b u q⟩
 tups:=λb xs q=>by rw[aJ (bP q hn)];exact q
 frzs:=λb u xs q=>by rw[aJ (bP q hn)];exact q
 tbls:=λb ps q=>by rw[aJ (bP q hn)];exact q
def Un.write(mu:Mut (H x))(he:e=x\/H e=some (.own x))(k:∀b u,b≠e->h.get? b=some u->h'.get? b=some u)(WE:∃u,h'.get? e=some u):Un fs ex H (cg H x o) h h':=by
 have hx:∀b,H b=none->b≠x:=λb n z=>by subst z;rw[n]at mu;exact mu
 have hb:∀b,H b=none->b≠e:=λb n z=>by
  subst z;rcases he with r | r
  ·exact hx b n r
  ·rw[n]at r;cases r
 have hm:∀b u,H b=some u->¬Mut (some u)->b≠x:=λb u q nm z=>by subst z;rw[q]at mu;exact nm mu
 refine⟨λb u q n _ _=>k b u (hb b n) q,λb u q n _ _=>⟨u.slots,k b u (hb b n) q⟩,λb u q n _=>by rw[aJ (hx b n)];exact n,λb u q _=>?_,
  λb xs q=>by rw[aJ (hm b _ q λz=>z)];exact q,λb u xs q=>by rw[aJ (hm b _ q λz=>z)];exact q,λb ps q=>by rw[aJ (hm b _ q λz=>z)];exact q⟩
 by_cases SJ:b=e
 ·subst SJ;exact WE
 ·exact⟨u,k b u SJ q⟩
end
noncomputable def trk(h:Heap)(H:Hp):List Addr:=(List.range h.objs.size).filter λa=>(H a).isSome
def yR(h:Heap)(H:Hp):Heap:=W.hideAll h (trk h H)
def Ga(h:Heap)(H:Hp):(yR h H).objs.size=h.objs.size:=W.hideAll_size _ _
def hidT_get(e:h.get? b=some o)(n:H b=none):(yR h H).get? b=some o :=
 W.hideAll_get _ e λhm=>by
  have q:=(b9.mp hm).2;rw[n]at q;simp at q
def of_hidT(e:(yR h H).get? b=some o):h.get? b=some o/\H b=none:=by
 have e':=W.of_hideAll (trk h H) e;refine⟨e',?_⟩;cases q:H b with
 | none=>rfl
 | some x =>
  have hm:b∈trk h H:=b9.mpr ⟨gq.mpr (aW e'),by simp[q]⟩
  have z:(yR h H).get? b=none:=W.hideAll_none (trk h H) hm;rw[z]at e;cases e
structure Mod (K:W.Frag) (mg:Str->Option Value) (base:Heap):Prop where
 kin:K.In base
 glob:base.Ns mainGlobals mg
 blt:∃mb,base.Ns builtinsNs mb/\∀x:Str,x≠"__name__"->mb x=bootBuiltins x
 nolimit:base.NoLimit
structure Cx where
 prog:Program
 w:World
 K:W.Frag
 mg:Str->Option Value
 base:Heap
 A:Around
 N:List Str
 s₀:Shared
 aa:Hp
 env:Env
 ax:List Env
 stack:List Env
 ex:List Addr
 fn:Str->Bool
 calm:Bool
 pn:List (Addr×Obj)
 xe:Value->Shared->Prop
noncomputable def nW(l:List Env):List Addr:=l.filterMap (·.frame)
abbrev Cx.fs(X:Cx):List Addr:=nW X.ax
def Xj(sc:Scope)(x:Str):Prop:=sc.names.lookup x=some .local\/sc.names.lookup x=some .cell\/sc.names.lookup x=some .free
def P5(sc:Scope)(x:Str):Prop:=sc.names.lookup x=some .local\/sc.names.lookup x=some .cell
def abT(env:Env)(h:Heap)(m:Str->Option Value)(x:Str)(u:Value):Prop :=
 (env.kindOf x=some .local/\m x=some u)\/((env.kindOf x=some .cell\/env.kindOf x=some .free)/\∃c,env.cells.lookup x=some c/\h.IsCell c (some u))
def yS(x:Str):Str:=x++".<locals>."++"<lambda>"
def qR(K:W.Frag)(H:Hp):Prop:=∀x∈du,∀c T,W.tabIn K x=some (c,T)->H T=some (.Cd (yS x))
structure Cx.Ok (X:Cx):Prop where
 mod:Mod X.K X.mg X.base
 kind:X.env.scope.kind=.function
 glob:X.env.globals=mainGlobals
 blt:X.env.builtins=builtinsNs
 above:X.s₀.heap.objs.size<=X.env.locals
 inj:∀x y c,X.env.cells.lookup x=some c->X.env.cells.lookup y=some c->x=y
 has:∀x,(X.env.kindOf x=some .cell\/X.env.kindOf x=some .free)->∃c,X.env.cells.lookup x=some c
 cab:∀x c,X.fn x=true->X.env.cells.lookup x=some c->X.s₀.heap.objs.size<=c
 hd:X.calm=true->X.A.handled=none
 frames:X.A.frames=some X.stack
 stk:X.stack=X.ax\/(X.stack=X.env::X.ax/\X.env.frame=some X.env.locals)
 exf:∀b∈X.ex,b≠X.env.locals/\∀x c,X.env.cells.lookup x=some c->c≠b
 bs:∀b o,X.base.get? b=some o->X.s₀.heap.get? b=some o/\X.aa b=none
 bsz:X.base.objs.size<=X.s₀.heap.objs.size
 noex:∀b o,X.base.get? b=some o->b∉X.ex
 exfs:∀b∈X.ex,b∉X.fs
 funs:X.s₀.heap.FunFrames X.base X.ax
 frf:∀b∈X.fs,X.aa b=none
 tabs:qR X.K X.aa
structure Inv (X:Cx) (ae:List (Addr×Obj)) (σ:List (Option V)) (H:Hp) (s:Shared):Prop where
 ok:X.Ok
 os:s.os=X.s₀.os
 bare:AllBare s.gens
 base:Un X.fs X.ex X.aa H X.s₀.heap s.heap
 loc:∃m,s.heap.Ns X.env.locals m/\∀(i:Nat) (x:Str) (v:V),X.N[i]?=some x->σ[i]?=some (some v)->Xj X.env.scope x->∃u,RelV v u/\abT X.env s.heap m x u
 cell:∀x c,X.env.cells.lookup x=some c->∃v,s.heap.IsCell c v
 free:H X.env.locals=none
 freeC:∀x c,X.env.cells.lookup x=some c->H c=none
 pin:∀p∈X.pn++ae,s.heap.get? p.1=some p.2/\H p.1=none/\p.1≠X.env.locals/\p.1∉X.fs/\∀v,p.2.data≠.cell v
 hok:lF X.prog X.w H s.heap
 len:σ.length=X.N.length
section
variable {X:Cx} {ae:List (Addr×Obj)} {σ:List (Option V)} {H H':Hp} {s:Shared} {h':Heap}
def Cx.Ok.abU(ok:X.Ok)(e:X.base.get? b=some o):b∉X.fs:=λhb=>by
 have:=(ok.funs.mem hb).1;rw[e]at this;cases this
def Inv.bs(I:Inv X ae σ H s):∀b o,X.base.get? b=some o->s.heap.get? b=some o/\H b=none:=λb o e =>
 ⟨I.base.keep b o (I.ok.bs b o e).1 (I.ok.bs b o e).2 (I.ok.abU e) (I.ok.noex b o e),I.base.free b o (I.ok.bs b o e).1 (I.ok.bs b o e).2 (I.ok.noex b o e)⟩
def Inv.bk(I:Inv X ae σ H s):∀b o,X.base.get? b=some o->s.heap.get? b=some o:=λb o e=>(I.bs b o e).1
def Inv.mod(I:Inv X ae σ H s):Mod X.K X.mg X.base:=I.ok.mod
def Inv.qS(I:Inv X ae σ H s):X.K.In s.heap:=I.ok.mod.kin.keeps I.bk
def Inv.lt(I:Inv X ae σ H s):X.env.locals<s.heap.objs.size:=let ⟨_,hn,_⟩:=I.loc;hn.lt
def Inv.sz(I:Inv X ae σ H s):X.s₀.heap.objs.size<=s.heap.objs.size:=bA I.ok.above (i9 I.lt)
def Inv.abV(I:Inv X ae σ H s){a:Addr}(h:s.heap.objs.size<=a):a∉X.fs:=λhb=>by
 obtain⟨_,o,ho,_⟩:=I.ok.funs.mem hb;exact absurd (bY (aW ho) (bA I.sz h)) (gK _)
def Inv.SK(I:Inv X ae σ H s):∀x c,X.env.cells.lookup x=some c->c≠X.env.locals:=λx c e z=>by
 obtain⟨v,o,ho,hd⟩:=I.cell x c e;obtain⟨m,⟨o',es,ep,nh,wF,_⟩,_⟩:=I.loc;rw[z,nh]at ho;cases ho;rw[wF]at hd;cases hd
def Inv.funs(I:Inv X ae σ H s):s.heap.FunFrames X.base X.ax:=by
 have all:∀l,(∀b∈nW l,b∈X.fs)->X.s₀.heap.FunFrames X.base l->s.heap.FunFrames X.base l:=by
  intro l;induction l with
  | nil=>intro _ _;trivial
  | cons env r ih =>
   intro hs hl;obtain⟨hk,⟨L,o,hf,hn,ho,hd⟩,hr⟩:=hl;have hL:=hs L (by unfold nW;rw[ny,hf];exact aE)
   obtain⟨sl,e⟩:=I.base.slot L o ho (I.ok.frf L hL) hL λz=>I.ok.exfs L z hL
   exact⟨hk,⟨L,_,hf,hn,e,hd⟩,ih (λb hb=>hs b (by unfold nW;rw[ny,hf];exact aF _ hb)) hr⟩
 exact all X.ax (λ_ hb=>hb) I.ok.funs
def Inv.stack(I:Inv X ae σ H s):s.heap.FunFrames X.base X.stack:=by
 rcases I.ok.stk with e | ⟨e,hf⟩
 ·rw[e];exact I.funs
 ·rw[e];obtain⟨m,hn,_⟩:=I.loc;refine .cons (by rw[I.ok.kind];decide) hf hn ?_ I.funs
  exact Heap.get?_none_of_le (bA I.ok.bsz I.ok.above)
def Inv.wH(I:Inv X ae σ H s):∀b∈nW X.stack,b∈X.env.locals::X.fs:=λb hb=>by
 rcases I.ok.stk with e | ⟨e,hf⟩
 ·rw[e]at hb;exact aF _ hb
 ·rw[e]at hb;unfold nW at hb;rw[ny,hf]at hb;exact hb
def Inv.wI(I:Inv X ae σ H s):∀b∈nW X.stack,H b=none:=λb hb=>by
 rcases aD.mp (I.wH b hb)with e | hb
 ·rw[e];exact I.free
 ·obtain⟨_,o,ho,_⟩:=I.ok.funs.mem hb;exact I.base.free b o ho (I.ok.frf b hb) λz=>I.ok.exfs b z hb
def Inv.tabs(I:Inv X ae σ H s):qR X.K H:=λx hx c T e=>I.base.tbls T _ (I.ok.tabs x hx c T e)
def Inv.step{g':Array GenState}{t':Nat}{d':Drawn}{ch:List Addr}(I:Inv X ae σ H s)
  (P6:∀b∈ch,(b∈X.ex\/X.s₀.heap.objs.size<=b)/\b≠X.env.locals/\(∀x c,X.env.cells.lookup x=some c->c≠b)/\∀p∈X.pn++ae,p.1≠b)
  (keep:∀b o,b≠X.env.locals->b∉X.fs->b∉ch->s.heap.get? b=some o->H b=none->h'.get? b=some o)
  (slot:∀b o,b≠X.env.locals->b∈X.fs->b∉ch->s.heap.get? b=some o->H b=none->∃sl,h'.get? b=some {o with slots:=sl}) (free:∀b o,b∉ch->s.heap.get? b=some o->H b=none->H' b=none)
  (there:∀b o,b∉ch->s.heap.get? b=some o->∃o',h'.get? b=some o')
  (tups:∀b xs,H b=some (.ao xs)->H' b=some (.ao xs)) (frzs:∀b o u,H b=some (.oR o u)->H' b=some (.oR o u)) (tbls:∀b q,H b=some (.Cd q)->H' b=some (.Cd q))
  (ns:∀m,s.heap.Ns X.env.locals m->h'.Ns X.env.locals m) (hok:lF X.prog X.w H' h') (hg:AllBare g') :
  Inv X ae σ H' {s with heap:=h',gens:=g',drawn:=d',toks:=t'}:=by
 have neL:∀b o,X.s₀.heap.get? b=some o->b≠X.env.locals:=λb o e=>bI (bY (aW e) I.ok.above)
 have neC:∀b o,X.s₀.heap.get? b=some o->b∉X.ex->b∉ch:=λb o e hx hb=>by
  rcases(P6 b hb).1 with z | z
  ·exact hx z
  ·exact absurd (bY (aW e) z) (gK _)
 have cellK:∀x c,X.env.cells.lookup x=some c->∀v,s.heap.IsCell c v->h'.IsCell c v:=by
  rintro x c e v ⟨o,ho,hd⟩
  have Xk:c∉ch:=by grind
  by_cases hc:c∈X.fs
  ·obtain⟨sl,q⟩:=slot c o (I.SK x c e) hc Xk ho (I.freeC x c e);exact⟨_,q,hd⟩
  ·exact⟨o,keep c o (I.SK x c e) hc Xk ho (I.freeC x c e),hd⟩
 refine⟨I.ok,I.os,hg,⟨λb o e n hb hx=>?_,λb o e n hb hx=>?_,λb o e n hx=>?_,λb o e hx=>?_,λb xs e=>tups b xs (I.base.tups b xs e),λb o xs e=>frzs b o xs (I.base.frzs b o xs e),λb ps e=>?_⟩,?_,λx c e=>?_,?_,λx c e=>?_,λp hp=>?_,hok,I.len⟩
 ·exact keep b o (neL b o e) hb (neC b o e hx) (I.base.keep b o e n hb hx) (I.base.free b o e n hx)
 ·obtain⟨sl,e1⟩:=I.base.slot b o e n hb hx;obtain⟨Xi,e2⟩:=slot b _ (neL b o e) hb (neC b o e hx) e1 (I.base.free b o e n hx);exact⟨Xi,e2⟩
 ·obtain⟨o',e1⟩:=I.base.there b o e hx;exact free b o' (neC b o e hx) e1 (I.base.free b o e n hx)
 ·obtain⟨o',e1⟩:=I.base.there b o e hx;exact there b o' (neC b o e hx) e1
 ·exact tbls b ps (I.base.tbls b ps e)
 ·obtain⟨m,hn,hl⟩:=I.loc;refine⟨m,ns m hn,λi x v e1 e2 e3=>?_⟩
  obtain⟨u,r,l⟩:=hl i x v e1 e2 e3;refine⟨u,r,?_⟩;rcases l with l | ⟨k,c,e,z⟩
  ·exact .inl l
  ·exact .inr ⟨k,c,e,cellK x c e _ z⟩
 ·obtain⟨v,z⟩:=I.cell x c e;exact⟨v,cellK x c e v z⟩
 ·obtain⟨m,⟨o,_,_,ho,_⟩,_⟩:=I.loc;exact free _ o (λz=>(P6 _ z).2.1 rfl) ho I.free
 ·obtain⟨v,o,ho,hd⟩:=I.cell x c e;exact free c o (λz=>(P6 c z).2.2.1 x c e rfl) ho (I.freeC x c e)
 ·obtain⟨e,n,ne,nf,d⟩:=I.pin p hp;have Xk:p.1∉ch:=by grind
  exact⟨keep p.1 p.2 ne nf Xk e n,free p.1 p.2 Xk e n,ne,nf,d⟩
def Inv.un{t':Nat}(I:Inv X ae σ H s)(u:Un X.fs [] H H' s.heap h')(hok:lF X.prog X.w H' h'):Inv X ae σ H' {s with heap:=h',toks:=t'}:=by
 obtain⟨m,⟨o,es,ep,ho,r⟩,_⟩:=id I.loc;obtain⟨sl,hL⟩:=u.any ho I.free (by simp)
 exact I.step (ch:=[]) (λ_ z=>nomatch z) (λb o _ hb _ e n=>u.keep b o e n hb (by simp)) (λb o _ hb _ e n=>u.slot b o e n hb (by simp)) (λb o _ e n=>u.free b o e n (by simp)) (λb o _ e=>u.there b o e (by simp)) u.tups u.frzs u.tbls (λm' hm=>by
  obtain⟨o',Xl,ep',nh,r'⟩:=hm;rw[ho]at nh;cases nh;exact⟨_,Xl,ep',hL,r'⟩) hok I.bare
def Inv.call{g':Array GenState}{t':Nat}{d':Drawn}{ch:List Addr}(I:Inv X ae σ H s)(u:Un (nW X.stack) ch H H' s.heap h')(hok:lF X.prog X.w H' h')(hg:AllBare g')
  (P6:∀b∈ch,(b∈X.ex\/X.s₀.heap.objs.size<=b)/\b≠X.env.locals/\(∀x c,X.env.cells.lookup x=some c->c≠b)/\∀p∈X.pn++ae,p.1≠b) :
  Inv X ae σ H' {s with heap:=h',gens:=g',drawn:=d',toks:=t'}:=by
 obtain⟨m,⟨o,es,ep,ho,r⟩,_⟩:=id I.loc;obtain⟨sl,hL⟩:=u.any ho I.free λz=>(P6 _ z).2.1 rfl
 exact I.step P6 (λb o hL hb hc e n=>u.keep b o e n (λz=>(aD.mp (I.wH b z)).elim hL hb) hc) (λb o _ _ hc e n=>u.any e n hc) (λb o hc e n=>u.free b o e n hc) (λb o hc e=>u.there b o e hc) u.tups u.frzs u.tbls (λm' hm=>by
  obtain⟨o',Xl,ep',nh,r'⟩:=hm;rw[ho]at nh;cases nh;exact⟨_,Xl,ep',hL,r'⟩) hok hg
def Inv.turned{t':Nat}(I:Inv X ae σ H s)(k:∀b o,b≠it->s.heap.get? b=some o->h'.get? b=some o)(hn:H it=none)(hL:it≠X.env.locals)
  (h1:it∈X.ex\/X.s₀.heap.objs.size<=it) (h2:∀x c,X.env.cells.lookup x=some c->c≠it) (h3:∀p∈X.pn++ae,p.1≠it):Inv X ae σ H {s with heap:=h',toks:=t'}:=by
 have Xm:∀b u,H b=some u->b≠it:=λb u e z=>by rw[z,hn]at e;cases e
 refine I.step (ch:=[it]) (λb hb=>?_) (λb o _ _ hc e _=>k b o (λz=>hc (by simp[z])) e) (λb o _ _ hc e _=>⟨o.slots,k b o (λz=>hc (by simp[z])) e⟩) (λ_ _ _ _ n=>n)
  (λb o hc e=>⟨o,k b o (λz=>hc (by simp[z])) e⟩) (λ_ _ e=>e) (λ_ _ _ e=>e) (λ_ _ e=>e) (λm hm=>?_) (λb u e=>?_) I.bare
 ·have e:b=it:=by simpa using hb
  subst e;exact⟨h1,hL,h2,h3⟩
 ·obtain⟨o,es,ep,ho,r⟩:=hm;exact⟨o,es,ep,k _ o (dt hL) ho,r⟩
 ·refine(I.hok b u e).wG (λc v hc q=>k c v ?_ q) (λ_ q=>q) (λ_ _ q=>q) λ_ _ _ q=>q
  rcases hc with z | z
  ·rw[z];exact Xm b u e
  ·exact Xm c _ z
def Inv.tok(I:Inv X ae σ H s)(t:Nat):Inv X ae σ H {s with toks:=t}:=I.un Un.refl I.hok
def Inv.kept(I:Inv X ae σ H s)(k:∀b u,s.heap.get? b=some u->h'.get? b=some u):Inv X ae σ H {s with heap:=h',toks:=t'}:=I.un (Un.kept k) (I.hok.kept k)
def Inv.laid{a:Addr}{o:HO}{t':Nat}(I:Inv X ae σ H s)(k:∀b u,s.heap.get? b=some u->h'.get? b=some u)(hp:s.heap.objs.size<=a)(new:fG X.prog X.w (cg H a o) h' a o) :
  Inv X ae σ (cg H a o) {s with heap:=h',toks:=t'}:=I.un (Un.laid k hp (I.hok.fresh hp)) (I.hok.laid k hp new)
def Inv.write(I:Inv X ae σ H s)(mu:Mut (H x))(he:e=x\/H e=some (.own x))(k:∀b u,b≠e->s.heap.get? b=some u->h'.get? b=some u)(WE:∃u,h'.get? e=some u)
  (new:fG X.prog X.w (cg H x o) h' x o):Inv X ae σ (cg H x o) {s with heap:=h',toks:=t'}:=I.un (Un.write mu he k WE) (I.hok.write mu he k WE new)
def Inv.lZ(I:Inv X ae σ H s)(h:∀p∈Xn,s.heap.get? p.1=some p.2/\H p.1=none/\p.1≠X.env.locals/\p.1∉X.fs/\∀v,p.2.data≠.cell v):Inv X Xn σ H s :=
 ⟨I.ok,I.os,I.bare,I.base,I.loc,I.cell,I.free,I.freeC,λp hp=>(bh.mp hp).elim (λz=>I.pin p (dR _ z)) (h p),I.hok,I.len⟩
def yT{N:List Str}(hN:N.Nodup){i j:Nat}(a:N[i]?=some x)(b:N[j]?=some x):i=j:=by
 obtain⟨h1,e1⟩:=bM.mp a;obtain⟨h2,e2⟩:=bM.mp b;exact(B0 hN).mp (e1.trans e2.symm)
def store_ok2{M:Model}{A:Around}{E:Value->Shared->Prop}{i:Nat}{v:V}{u:Value}{Q:Unit->Shared->Prop}(I:Inv X ae σ H s)(hN:X.N.Nodup)(hi:X.N[i]?=some x)(hx:P5 X.env.scope x)(r:RelV v u)
  (h:∀s',Inv X ae (σ.set i (some v)) H s'->(∃a,Heap.SameBut a s.heap s'.heap/\(a=X.env.locals\/X.env.cells.lookup x=some a))->Q () s') (hf:X.fn x=true\/X.env.scope.names.lookup x=some .local:=by first | exact .inl rfl | exact .inr rfl | assumption):wpAny M A (storeName X.env x u) Q E s:=by
 obtain⟨m,hn,hl⟩:=id I.loc;have abX:(X.env.scope.kind==.class || (X.env.scope.kind==.module&&X.env.locals != X.env.globals))=false:=by rw[I.ok.kind];rfl
 have Xo:i<σ.length:=by rw[I.len];exact(bM.mp hi).1
 have SK:=I.SK;have Ec:∀{a:Addr} {h':Heap},(∃o,s.heap.get? a=some o/\H a=none)->Heap.SameBut a s.heap h'->lF X.prog X.w H h':=λ{a h'} ha hs b ob e=>by
  obtain⟨_,_,yU⟩:=ha;refine(I.hok b ob e).wG (λc w' hc q=>(hs.2 c ?_).trans q) (λ_ q=>q) (λ_ _ q=>q) λ_ _ _ q=>q
  rintro rfl
  rcases hc with rfl | hc
  ·grind
  ·grind
 rcases hx with hk | hk
 ·refine wpAny_storeName_local hk hn (λh' Xp hs=>?_) abX
  obtain⟨oL,_,_,Xq,_⟩:=id hn;refine h _ ⟨I.ok,I.os,I.bare,⟨λb o e n hb hx=>?_,λb o e n hb hx=>?_,I.base.free,λb o e hx=>?_,I.base.tups,I.base.frzs,I.base.tbls⟩,⟨_,Xp,λj y v' e1 e2 e3=>?_⟩,λy c e=>?_,I.free,I.freeC,λp hp=>?_,Ec ⟨oL,Xq,I.free⟩ hs,by simpa using I.len⟩ ⟨_,hs,.inl rfl⟩
  ·exact(hs.2 b (bI (bY (aW e) I.ok.above))).trans (I.base.keep b o e n hb hx)
  ·obtain⟨sl,e1⟩:=I.base.slot b o e n hb hx;exact⟨sl,(hs.2 b (bI (bY (aW e) I.ok.above))).trans e1⟩
  ·obtain⟨o',e1⟩:=I.base.there b o e hx;exact⟨o',(hs.2 b (bI (bY (aW e) I.ok.above))).trans e1⟩
  ·by_cases hj:j=i
   ·subst hj;rw[hi]at e1;cases e1;rw[lb Xo]at e2;cases e2;exact⟨u,r,.inl ⟨hk,by simp⟩⟩
   ·rw[iW (dt hj)]at e2;obtain⟨u',r',q⟩:=hl j y v' e1 e2 e3;refine⟨u',r',?_⟩;rcases q with⟨k,e⟩ | ⟨k,c,e,z⟩
    ·refine .inl ⟨k,?_⟩;have:y≠x:=λe=>hj (yT hN e1 (e▸hi))
     simp[this,e]
    ·exact .inr ⟨k,c,e,z.sameBut hs (SK y c e)⟩
  ·obtain⟨w',z⟩:=I.cell y c e;exact⟨w',z.sameBut hs (SK y c e)⟩
  ·obtain⟨e,n,ne,nf,d⟩:=I.pin p hp;exact⟨(hs.2 p.1 ne).trans e,n,ne,nf,d⟩
 ·have Ed:X.fn x=true:=by
   grind
  obtain⟨c,hc⟩:=I.ok.has x (.inl hk);obtain⟨w',z⟩:=I.cell x c hc;refine wpAny_storeName_cell I.ok.kind hk hc z (λh' Ee hs=>?_)
  obtain⟨oc,hoc,agb⟩:=id z;refine h {s with heap:=h'} ⟨I.ok,I.os,I.bare,⟨λb o e n hb hx=>?_,λb o e n hb hx=>?_,I.base.free,λb o e hx=>?_,I.base.tups,I.base.frzs,I.base.tbls⟩,⟨m,hn.sameBut hs (dt (SK x c hc)),λj y v' e1 e2 e3=>?_⟩,λy c' e=>?_,I.free,I.freeC,λp hp=>?_,Ec ⟨oc,hoc,I.freeC x c hc⟩ hs,by simpa using I.len⟩ ⟨c,hs,.inr hc⟩
  ·exact(hs.2 b (bI (bY (aW e) (I.ok.cab x c Ed hc)))).trans (I.base.keep b o e n hb hx)
  ·obtain⟨sl,e1⟩:=I.base.slot b o e n hb hx;exact⟨sl,(hs.2 b (bI (bY (aW e) (I.ok.cab x c Ed hc)))).trans e1⟩
  ·obtain⟨o',e1⟩:=I.base.there b o e hx;exact⟨o',(hs.2 b (bI (bY (aW e) (I.ok.cab x c Ed hc)))).trans e1⟩
  ·by_cases hj:j=i
   ·subst hj;rw[hi]at e1;cases e1;rw[lb Xo]at e2;cases e2;exact⟨u,r,.inr ⟨.inl hk,c,hc,Ee⟩⟩
   ·rw[iW (dt hj)]at e2;obtain⟨u',r',q⟩:=hl j y v' e1 e2 e3;refine⟨u',r',?_⟩;rcases q with q | ⟨k,c',e,z'⟩
    ·exact .inl q
    ·refine .inr ⟨k,c',e,z'.sameBut hs ?_⟩
     rintro rfl
     exact hj (yT hN e1 (I.ok.inj _ _ _ e hc▸hi))
  ·by_cases WG:c'=c
   ·grind
   ·obtain⟨w2,z2⟩:=I.cell y c' e;exact⟨w2,z2.sameBut hs WG⟩
  ·obtain⟨e,n,ne,nf,d⟩:=I.pin p hp;refine⟨(hs.2 p.1 ?_).trans e,n,ne,nf,d⟩;intro q;rw[q,hoc]at e;have q':=cz e;exact d w' (by grind)
def qT(I:Inv X ae σ H s)(hN:X.N.Nodup)(hi:X.N[i]?=some x)(hx:P5 X.env.scope x)(r:RelV v u)
  (h:∀s',Inv X ae (σ.set i (some v)) H s'->Q () s') (hf:X.fn x=true\/X.env.scope.names.lookup x=some .local:=by first | exact .inl rfl | exact .inr rfl | assumption):wpAny M A (storeName X.env x u) Q E s :=
 store_ok2 I hN hi hx r (λs' I' _=>h s' I') hf
def Inv.P7(I:Inv X ae σ H s)(ho:s'.os=s.os)(u:Un (nW X.stack) ch H H' s.heap s'.heap)(hok:lF X.prog X.w H' s'.heap)(hg:AllBare s'.gens)
  (P6:∀b∈ch,(b∈X.ex\/X.s₀.heap.objs.size<=b)/\b≠X.env.locals/\(∀x c,X.env.cells.lookup x=some c->c≠b)/\∀p∈X.pn++ae,p.1≠b):Inv X ae σ H' s':=by
 obtain⟨h',g',d',t',o'⟩:=s';have e:=ho;subst e;exact I.call u hok hg P6
end
abbrev XK:=Value->Option Addr->Hp->Prop
abbrev St:=List (Option V)
abbrev VK:=V->Hp->Prop
abbrev TE:=St->Hp->VK->Prop
abbrev TT:=St->Hp->(Bool->Hp->Prop)->Prop
abbrev TA:=St->Hp->(List V->Hp->Prop)->Prop
structure ub where
 nx:St->Hp->Prop
 rt:VK
 bk:St->Hp->Prop:=λ_ _=>False
 ct:St->Hp->Prop:=λ_ _=>False
abbrev TS:=ub->St->Hp->Prop
def EP(X:Cx)(ae:List (Addr×Obj))(σ:St)(Q:VK)(u:Value)(s':Shared):Prop:=∃v H',Inv X ae σ H' s'/\RelV v u/\Q v H'
def TP(X:Cx)(ae:List (Addr×Obj))(σ:St)(Q:Bool->Hp->Prop)(b:Bool)(s':Shared):Prop:=∃H',Inv X ae σ H' s'/\Q b H'
def AP(X:Cx)(ae:List (Addr×Obj))(σ:St)(Q:List V->Hp->Prop)(us:List Value)(s':Shared):Prop:=∃vs H',Inv X ae σ H' s'/\Vals vs us/\Q vs H'
def SP(X:Cx)(ae:List (Addr×Obj))(D:ub)(f:Flow)(s':Shared):Prop :=
 match f with
 | .next=>∃bG H',Inv X ae bG H' s'/\D.nx bG H'
 | .brk=>∃bG H',Inv X ae bG H' s'/\D.bk bG H'
 | .cont=>∃bG H',Inv X ae bG H' s'/\D.ct bG H'
 | .ret u=>∃v bG H',Inv X ae bG H' s'/\RelV v u/\D.rt v H'
def PE(X:Cx)(e:Expr)(t:TE):Prop :=
 ∀(ae:List (Addr×Obj)) (s:Shared) (σ:St) (H:Hp) (Q:VK),Inv X ae σ H s->t σ H Q->wpAny (model X.prog X.w) X.A (eval e X.env) (EP X ae σ Q) X.xe s
def PT(X:Cx)(e:Expr)(t:TT):Prop :=
 ∀(ae:List (Addr×Obj)) (s:Shared) (σ:St) (H:Hp) (Q:Bool->Hp->Prop),Inv X ae σ H s->t σ H Q->wpAny (model X.prog X.w) X.A (isTrue e X.env (eval e X.env)) (TP X ae σ Q) X.xe s
def PW(X:Cx)(e:Expr)(t:TT):Prop :=
 ∀(jr:Sem Value) (ae:List (Addr×Obj)) (s:Shared) (σ:St) (H:Hp) (Q:Bool->Hp->Prop),Inv X ae σ H s->t σ H Q->wpAny (model X.prog X.w) X.A (isTrue e X.env jr) (TP X ae σ Q) X.xe s
def PW.pt(h:PW X e t):PT X e t:=h _
def PA(X:Cx)(es:List Expr)(t:TA):Prop :=
 ∀(pos:Pos) (ae:List (Addr×Obj)) (s:Shared) (σ:St) (H:Hp) (Q:List V->Hp->Prop),Inv X ae σ H s->t σ H Q->wpAny (model X.prog X.w) X.A (spliced (backTo pos (starEach es X.env))) (AP X ae σ Q) X.xe s
def PS(X:Cx)(st:Stmt)(t:TS):Prop :=
 ∀(ae:List (Addr×Obj)) (s:Shared) (σ:St) (H:Hp) (D:ub),Inv X ae σ H s->t D σ H->wpAny (model X.prog X.w) X.A (exec st X.env) (SP X ae D) X.xe s
def PSs(X:Cx)(st:List Stmt)(t:TS):Prop :=
 ∀(ae:List (Addr×Obj)) (s:Shared) (σ:St) (H:Hp) (D:ub),Inv X ae σ H s->t D σ H->wpAny (model X.prog X.w) X.A (execs st X.env) (SP X ae D) X.xe s
def thn{α:Type}{t:Sem α}{Q Q':α->Shared->Prop}{M:Model}{A:Around}{E:Value->Shared->Prop}(h:wpAny M A t Q E s)(hQ:∀a s,Q a s->Q' a s):wpAny M A t Q' E s:=jX h hQ λ_ _ x=>x
section
variable {X:Cx}
def MP(i:Nat):TE:=λσ H Q=>∃v,σ[i]?=some (some v)/\Q v H
def tC(v:V):TE:=λ_ H Q=>Q v H
def pe_var{i:Nat}{x:Str}{pos:Pos}(hN:X.N[i]?=some x)(hv:Xj X.env.scope x)(hd:(x==("__debug__":Str))=false:=by decide)(Eb:(x==("__classdict__":Str))=false:=by decide):PE X (.Name x pos) (MP i):=by
 intro ae s σ H Q I h;obtain⟨v,e,h⟩:=h;obtain⟨m,hn,hl⟩:=I.loc;obtain⟨u,r,l⟩:=hl i x v hN e hv;have jI:EP X ae σ Q u s:=⟨v,H,I,r,h⟩;rcases l with⟨hk,hm⟩ | ⟨hk,c,hc,jZ⟩
 ·exact wpAny_Name (wpAny_loadName_local I.ok.kind hk hn hm jI) hd
 ·rcases hk with hk | hk
  ·exact wpAny_Name (wpAny_loadName_cell I.ok.kind hk hc jZ jI) hd
  ·exact wpAny_Name (wpAny_loadName_free I.ok.kind hk hc jZ jI Eb) hd
def SM{i j pos}:PE X (.Constant (.int i) j pos) (tC (.int i)):=λ_ _ _ H _ I h=>wpAny_Constant_int ⟨.int i,H,I.tok _,⟨_,rfl⟩,h⟩
def Xr{b j pos}:PE X (.Constant (.bool b) j pos) (tC (.bl b)):=λ_ _ _ H _ I h=>Constant_bool ⟨.bl b,H,I,rfl,h⟩
def SN{j pos}:PE X (.Constant .none j pos) (tC .bB):=λ_ _ _ H _ I h=>Constant_none ⟨.bB,H,I,rfl,h⟩
def SO{x j pos}:PE X (.Constant (.str x) j pos) (tC (.str x)):=λ_ _ _ H _ I h=>Calls.Constant_str ⟨.str x,H,I.tok _,⟨_,rfl⟩,h⟩
def Gl(X:Cx)(x:Str):Prop:=X.env.kindOf x=some .globalImplicit
def ld_glob{E:Value->Shared->Prop}{ae:List (Addr×Obj)}{s:Shared}{σ:St}{H:Hp}{x:Str}{u:Value}{pos:Pos}{Q:Value->Shared->Prop}(I:Inv X ae σ H s)(hg:Gl X x)(hm:X.mg x=some u)(h:Q u s)
  (hd:(x==("__debug__":Str))=false:=by decide):wpAny (model X.prog X.w) X.A (eval (.Name x pos) X.env) Q E s :=
 Il I.ok.kind hg (Calls.loadGlobal_global (by rw[I.ok.glob];exact I.mod.glob.keeps I.bk) hm h) hd
def ld_blt{E:Value->Shared->Prop}{ae:List (Addr×Obj)}{s:Shared}{σ:St}{H:Hp}{x:Str}{u:Value}{pos:Pos}{Q:Value->Shared->Prop}(I:Inv X ae σ H s)(hg:Gl X x)(hm:X.mg x=none)(hv:bootBuiltins x=some u)(h:Q u s)
  (hn:x≠"__name__":=by decide) (hd:(x==("__debug__":Str))=false:=by decide):wpAny (model X.prog X.w) X.A (eval (.Name x pos) X.env) Q E s:=by
 obtain⟨mb,h1,h2⟩:=I.mod.blt;exact Il I.ok.kind hg (Calls.loadGlobal_builtin (by rw[I.ok.glob];exact I.mod.glob.keeps I.bk) hm (by rw[I.ok.blt];exact h1.keeps I.bk) ((h2 x hn).trans hv) h) hd
def Ef(hg:Gl X x)(hm:X.mg x=some u)(r:RelV v u)(hd:(x==("__debug__":Str))=false:=by decide):PE X (.Name x pos) (tC v) :=
 λ_ _ _ H _ I h=>ld_glob I hg hm ⟨v,H,I,r,h⟩ hd
def MQ{x:Str}{v:V}{u:Value}{pos:Pos}(hg:Gl X x)(hm:X.mg x=none)(hv:bootBuiltins x=some u)(r:RelV v u)(hn:x≠"__name__":=by decide)(hd:(x==("__debug__":Str))=false:=by decide):PE X (.Name x pos) (tC v) :=
 λ_ _ _ H _ I h=>ld_blt I hg hm hv ⟨v,H,I,r,h⟩ hn hd
variable {a b:Expr} {ta tb:TE} {pos:Pos}
variable {tA tB':TT} {rest:List Expr}
def abY(t u:TT):TT:=λσ H Q=>t σ H λc H1=>if c=true then u σ H1 Q else Q false H1
def tOr(t u:TT):TT:=λσ H Q=>t σ H λc H1=>if c=true then Q true H1 else u σ H1 Q
def abZ(t:TT):TT:=λσ H Q=>t σ H λc H1=>Q (!c) H1
def MR(ha:PT X a tA):PW X (.BoolOp .And [a] pos) tA:=by
 intro wh ae s σ H Q I h;refine isTrue_and (thn (ha ae s σ H Q I h) λc s1 e=>?_)
 cases c with
 | true=>exact isTrue_and_nil e
 | false=>exact e
def SQ(ha:PT X a tA):PW X (.BoolOp .Or [a] pos) tA:=by
 intro wh ae s σ H Q I h;refine isTrue_or (thn (ha ae s σ H Q I h) λc s1 e=>?_)
 cases c with
 | false=>exact isTrue_or_nil e
 | true=>exact e
def SR(ha:PT X a tA)(hb:PW X (.BoolOp .And (b::rest) pos) tB'):PW X (.BoolOp .And (a::b::rest) pos) (abY tA tB'):=by
 intro wh ae s σ H Q I h;refine isTrue_and (thn (ha ae s σ H _ I h) λc s1 ⟨H1,I1,q1⟩=>?_)
 cases c with
 | true=>exact hb wh ae s1 σ H1 Q I1 q1
 | false=>exact⟨H1,I1,q1⟩
def Xs(ha:PT X a tA)(hb:PW X (.BoolOp .Or (b::rest) pos) tB'):PW X (.BoolOp .Or (a::b::rest) pos) (tOr tA tB'):=by
 intro wh ae s σ H Q I h;refine isTrue_or (thn (ha ae s σ H _ I h) λc s1 ⟨H1,I1,q1⟩=>?_)
 cases c with
 | true=>exact⟨H1,I1,q1⟩
 | false=>exact hb wh ae s1 σ H1 Q I1 q1
def SS(ha:PT X a tA):PT X (.UnaryOp .Not a pos) (abZ tA):=by
 intro ae s σ H Q I h;exact isTrue_not (ha ae s σ H (λc H1=>Q (!c) H1) I h)
def Xu(ta:TE):TE:=λσ H Q=>ta σ H λx H1=>∃c,x=.bl c/\Q (.bl (!c)) H1
def IJ{op}(h:PE X a t):PE X (.BoolOp op [a] pos) t:=λae s σ H Q I hw=>BoolOp_one (h ae s σ H Q I hw)
def SU(ha:PE X a ta):PE X (.UnaryOp .Not a pos) (Xu ta):=by
 intro ae s σ H Q I h;refine UnaryOp_ (thn (ha ae s σ H _ I h) λv s1 ⟨x,H1,I1,r1,q1⟩=>?_)
 obtain⟨c,rfl,q1⟩:=q1;cases r1;exact not_of (lq ⟨.bl (!c),H1,I1,rfl,q1⟩)
def tIf(t:TT)(ta tb:TE):TE:=λσ H Q=>t σ H λc H1=>if c=true then ta σ H1 Q else tb σ H1 Q
def IK(hc:PT X c tA)(ha:PE X a ta)(hb:PE X b tb):PE X (.IfExp c a b pos) (tIf tA ta tb):=by
 intro ae s σ H Q I h;refine wpAny_IfExp (thn (hc ae s σ H _ I h) λd s1 ⟨H1,I1,q1⟩=>?_)
 cases d with
 | true=>exact ha ae s1 σ H1 Q I1 q1
 | false=>exact hb ae s1 σ H1 Q I1 q1
end
def ud(K:W.Frag)(H:Hp)(a:Addr)(xs:List V):Prop :=
 Rd H a (.lst xs) \/
  ∃(o:Obj) (aH:Array Value) (n:Nat),K.lookup a=some o/\o.cls=.type "list"/\o.dict=none/\o.data=.seq aH n/\aH.size<=sizeLine/\Vals xs aH.toList
def kF.sq{K:W.Frag}{H:Hp}{a:Addr}{xs:List V}(h:kF K H a xs):ud K H a xs:=by
 rcases h with h | ⟨aH,n,e,z,r⟩
 ·exact .inl h
 ·exact .inr ⟨_,aH.toArray,n,e,rfl,rfl,rfl,by grind,by grind⟩
noncomputable def ab0:Value->Option V
 | .none=>some .bB
 | .bool b=>some (.bl b)
 | .int i _=>some (.int i)
 | .str x _=>some (.str x)
 | .bytes b _=>some (.WC b)
 | .float b _=>some (.flt b)
 | .ref a=>some (.ref a)
 | .type n=>some (.ty n)
 | _=>none
def RelV.abs(r:RelV x u):ab0 u=some x:=by
 cases x with
 | bB=>cases r;rfl
 | bl _=>cases r;rfl
 | int _=>obtain⟨t,rfl⟩:=r;rfl
 | str _=>obtain⟨t,rfl⟩:=r;rfl
 | WC _=>obtain⟨t,rfl⟩:=r;rfl
 | flt _=>obtain⟨t,rfl⟩:=r;rfl
 | ref _=>cases r;rfl
 | ty _=>cases r;rfl
def RelV.inj(r:RelV x u)(q:RelV y u):x=y:=cz (r.abs.symm.trans q.abs)
theorem Vals.inj:∀{xs ys:List V} {us:List Value},Vals xs us->Vals ys us->xs=ys
 | _,_,_,.nil,.nil=>rfl
 | _,_,_,.cons r t,.cons r' t'=>by rw[r.inj r',Vals.inj t t']
section
variable {X:Cx} {ae:List (Addr×Obj)} {σ:St} {H:Hp} {s:Shared} {a:Addr} {xs ys:List V}
def gU.of{K:W.Frag}(h:H a=some (.ao xs)):gU K H a xs:=.inl (.inl h)
def Inv.list(I:Inv X ae σ H s)(h:ud X.K H a xs):∃aH:List Value,Vals xs aH/\PlainL s.heap a aH.toArray/\xs.length<=sizeLine:=by
 rcases h with h | ⟨o,aH,n,hk,hc,hd,hs,hz,r⟩
 ·obtain⟨z,aH,n,r,e⟩:=h.ok I.hok;exact⟨aH,r,⟨_,n,e,rfl,rfl,rfl⟩,z⟩
 ·refine⟨aH.toList,r,⟨o,n,I.qS a o hk,hc,hd,by simp_all⟩,?_⟩
  have e:=r.length;simp only[jQ]at e
  lia
def Inv.tuple(I:Inv X ae σ H s)(h:gU X.K H a xs):∃aH:List Value,Vals xs aH/\IsTup s.heap a aH.toArray/\xs.length<=sizeLine:=by
 rcases h with h | ⟨o,aH,n,hk,hc,hs,hz,r⟩
 ·obtain⟨z,aH,r,p⟩:=h.ok I.hok;exact⟨aH,r,p,z⟩
 ·refine⟨aH.toList,r,⟨o,I.qS a o hk,hc,n,by simp_all⟩,?_⟩
  have e:=r.length;simp only[jQ]at e
  lia
def Inv.j0(I:Inv X ae σ H s)(h:ud X.K H a xs)(h':ud X.K H a ys):xs=ys:=by
 obtain⟨aH,r,⟨o,n,e,_,_,d⟩,_⟩:=I.list h;obtain⟨pK,r',⟨o',n',e',_,_,d'⟩,_⟩:=I.list h';rw[e]at e';cases e';rw[d]at d';injection d' with d1 _
 have:aH=pK:=by grind
 subst this;exact r.inj r'
def Inv.ku(I:Inv X ae σ H s)(h:gU X.K H a xs)(h':gU X.K H a ys):xs=ys:=by
 obtain⟨aH,r,⟨o,e,_,n,d⟩,_⟩:=I.tuple h;obtain⟨pK,r',⟨o',e',_,n',d'⟩,_⟩:=I.tuple h';rw[e]at e';cases e';rw[d]at d';injection d' with d1 _
 have:aH=pK:=by grind
 subst this;exact r.inj r'
end
section
variable {X:Cx} {st:Stmt} {rest:List Stmt} {t u:TS} {e:Expr} {te:TE} {pos:Pos}
def P8:TS:=λD σ H=>D.nx σ H
def ab1(t u:TS):TS:=λD σ H=>t {D with nx:=u D} σ H
def MS:PSs X [] P8:=λ_ _ σ H _ I h=>wm ⟨σ,H,I,h⟩
def IL(h1:PS X st t)(h2:PSs X rest u):PSs X (st::rest) (ab1 t u):=by
 intro ae s σ H D I h;refine wpAny_execs_cons (thn (h1 ae s σ H {D with nx:=u D} I h) λf s1 q=>?_)
 cases f with
 | next =>
  obtain⟨bG,H',I',q⟩:=q;exact h2 ae s1 bG H' D I' q
 | ret v=>exact q
 | brk=>exact q
 | cont=>exact q
def MT(h1:PS X st t):PSs X [st] t:=by
 intro ae s σ H D I h;refine wpAny_execs_cons (thn (h1 ae s σ H D I h) λf s1 q=>?_)
 cases f with
 | next=>exact wm q
 | ret v=>exact q
 | brk=>exact q
 | cont=>exact q
def SW:TS:=λD σ H=>D.bk σ H
def Xv:TS:=λD σ H=>D.ct σ H
def MU:PS X (.Pass pos) P8:=λ_ _ σ H _ I h=>wpAny_Pass ⟨σ,H,I,h⟩
def IM:PS X (.Break pos) SW:=λ_ _ σ H _ I h=>wpAny_Break ⟨σ,H,I,h⟩
def yV:PS X (.Continue pos) Xv:=λ_ _ σ H _ I h=>wpAny_Continue ⟨σ,H,I,h⟩
def Inv.quiet{ae:List (Addr×Obj)}{σ:St}{H:Hp}{s:Shared}(I:Inv X ae σ H s):interactive X.env=false:=by simp[interactive,I.ok.kind]
def Xw(te:TE):TS:=λD σ H=>te σ H λ_ H1=>D.nx σ H1
def MV(he:PE X e te)(hs:swapsWith e none pos.line X.env=pure false:=by rfl):PS X (.Expr e pos) (Xw te):=by
 intro ae s σ H D I h;exact wpAny_Expr_any (thn (he ae s σ H _ I h) (by rintro v s1 ⟨x,H1,I1,r1,q1⟩;exact⟨σ,H1,I1,q1⟩)) I.quiet hs
def ab2(te:TE):TS:=λD σ H=>te σ H D.rt
def SX(he:PE X e te):PS X (.Return (some e) pos) (ab2 te):=by
 intro ae s σ H D I h;exact wpAny_Return_some (thn (he ae s σ H _ I h) (by rintro v s1 ⟨x,H1,I1,r1,q1⟩;exact⟨x,σ,H1,I1,r1,q1⟩))
def Xx:TS:=λD _ H=>D.rt .bB H
def MW:PS X (.Return none pos) Xx:=λ_ _ σ H _ I h=>wpAny_Return_none ⟨.bB,σ,H,I,rfl,h⟩
def ab3(c:TT)(t u:TS):TS:=λD σ H=>c σ H λb H1=>if b=true then t D σ H1 else u D σ H1
def Xy(hc:PT X c tc)(ha:PSs X a t)(hb:PSs X b u):PS X (.If c a b pos) (ab3 tc t u):=by
 intro ae s σ H D I h;refine wpAny_If (thn (hc ae s σ H _ I h) λd s1 ⟨H1,I1,q1⟩=>?_)
 cases d with
 | true=>exact ha ae s1 σ H1 D I1 q1
 | false=>exact hb ae s1 σ H1 D I1 q1
end
abbrev TG:=V->St->Hp->(St->Hp->Prop)->Prop
abbrev SY:=List V->St->Hp->(St->Hp->Prop)->Prop
def PG(X:Cx)(target:Expr)(t:TG):Prop :=
 ∀(ae:List (Addr×Obj)) (s:Shared) (σ:St) (H:Hp) (v:V) (u:Value) (Q:St->Hp->Prop),Inv X ae σ H s->RelV v u->t v σ H Q ->
  wpAny (model X.prog X.w) X.A (assign target X.env u) (λ_ s'=>∃bG H',Inv X ae bG H' s'/\Q bG H') X.xe s
def PGs(X:Cx)(ts:List Expr)(t:SY):Prop :=
 ∀(ae:List (Addr×Obj)) (s:Shared) (σ:St) (H:Hp) (vs:List V) (us:List Value) (Q:St->Hp->Prop),Inv X ae σ H s->Vals vs us->t vs σ H Q ->
  wpAny (model X.prog X.w) X.A (assignInOrder ((assignEach ts X.env).map (·.2)) us) (λ_ s'=>∃bG H',Inv X ae bG H' s'/\Q bG H') X.xe s
abbrev IP:=V->V->V->Hp->(Hp->Prop)->Prop
def IQ(X:Cx)(t:IP):Prop :=
 ∀(ae:List (Addr×Obj)) (s:Shared) (σ:St) (H:Hp) (o i v:V) (ov iv u:Value) (Q:Hp->Prop),Inv X ae σ H s->RelV o ov->RelV i iv->RelV v u->t o i v H Q ->
  wpAny (model X.prog X.w) X.A (setItem ov iv u) (λ_ s'=>∃H',Inv X ae σ H' s'/\Q H') X.xe s
abbrev TIp:=V->V->Hp->VK->Prop
def PIp(X:Cx)(op:Operator)(t:TIp):Prop :=
 ∀(ae:List (Addr×Obj)) (s:Shared) (σ:St) (H:Hp) (x y:V) (v u:Value) (Q:VK),Inv X ae σ H s->RelV x v->RelV y u->t x y H Q ->
  wpAny (model X.prog X.w) X.A (inplaceOp op v u) (EP X ae σ Q) X.xe s
section
variable {X:Cx} {pos:Pos}
def gName(i:Nat):TG:=λv σ H Q=>Q (σ.set i (some v)) H
def MX(hN:X.N.Nodup)(hi:X.N[i]?=some x)(hx:P5 X.env.scope x)(hf:X.fn x=true\/X.env.scope.names.lookup x=some .local:=by first | exact .inl rfl | exact .inr rfl | assumption):PG X (.Name x pos) (gName i):=by
 intro ae s σ H v u Q I r h;exact wpAny_assign_Name (qT I hN hi hx r (λs' I'=>⟨_,H,I',h⟩) hf)
def ab4:SY:=λvs σ H Q=>vs=[]/\Q σ H
def Xz(t:TG)(u:SY):SY:=λvs σ H Q=>∃v r,vs=v::r/\t v σ H λbG H'=>u r bG H' Q
def MY:PGs X [] ab4:=by
 intro ae s σ H vs us Q I r h;obtain⟨e,h⟩:=h;subst e;cases r;exact assignInOrder_nil ⟨σ,H,I,h⟩
def IS(h1:PG X e t)(h2:PGs X es u)
  (hs:(assignEach (e::es) X.env).map (·.2)=assign e X.env::(assignEach es X.env).map (·.2):=by rfl):PGs X (e::es) (Xz t u):=by
 intro ae s σ H vs us Q I r h;obtain⟨v,vr,e1,h⟩:=h;subst e1;cases r with
 | cons r rr =>
  rw[hs];refine assignInOrder_cons (thn (h1 ae s σ H _ _ _ I r h) λ_ s1 ⟨je,H1,I1,q1⟩=>?_)
  exact h2 ae s1 je H1 _ _ Q I1 rr q1
def ab5(K:W.Frag)(n:Nat)(t:SY):TG:=λv σ H Q=>∃a xs,v=.ref a/\gU K H a xs/\xs.length=n/\t xs σ H Q
def S2{es:List Expr}{k:Nat}{t:SY}{n:Nat}(hc:X.calm=true)(h:PGs X es t)
  (hn:(assignEach es X.env).length=n:=by rfl) (qU:(assignEach es X.env).findIdx? (·.1)=none:=by rfl):PG X (.Tuple es k pos) (ab5 X.K n t):=by
 intro ae s σ H v u Q I r hw;obtain⟨a,xs,e1,hq,hl,hw⟩:=hw;subst e1;cases r;obtain⟨aH,rv,ht,hz⟩:=I.tuple hq;refine assign_Tuple_tuple (I.ok.hd hc) ht (by simp[hn,<-hl,rv.length]) qU λh' hx=>?_
 have I1:=I.kept (t':=s.toks) λb o e=>hx b o (bI (aW e)) e
 exact h ae _ σ H xs _ Q I1 (by grind) hw
def ab6(to ti:TE)(t:IP):TG:=λv σ H Q=>to σ H λo H1=>ti σ H1 λi H2=>t o i v H2 λH3=>Q σ H3
def S3(ho:PE X o to)(hi:PE X i ti)(hs:IQ X t)
  (ha:∀v,assign (.Subscript o i pos) X.env v=(do
   let ov <-holding [v] (eval o X.env)
   let iv <-holding [v,ov] (eval i X.env)
   standAt pos
   holding [v,ov,iv] (setItem ov iv v)
   release [v,ov,iv] []):=by intro _;rfl):PG X (.Subscript o i pos) (ab6 to ti t):=by
 intro ae s σ H v u Q I r h;rw[ha];refine af (ez (thn (ho ae s σ H _ I h) λov s1 ⟨x,H1,I1,r1,q1⟩=>?_))
 refine af (ez (thn (hi ae s1 σ H1 _ I1 q1) λiv s2 ⟨y,H2,I2,r2,q2⟩=>?_))
 refine af (wpAny_standAt (af (ez (thn (hs ae s2 σ H2 x y v ov iv u _ I2 r1 r2 r q2) λ_ s3 ⟨H3,I3,q3⟩=>?_))))
 exact wpAny_release ⟨σ,H3,I3,q3⟩
def MZ(te:TE)(g:TG):TS:=λD σ H=>te σ H λx H1=>g x σ H1 D.nx
def IT(he:PE X e te)(hg:PG X tg g)(hs:swapsWithSole [tg] e pos.line X.env=pure false:=by rfl)(hw:swappedStores [tg] e X.env=pure none:=by rfl)
  (h1:(assignEach [tg] X.env).map (·.2)=[assign tg X.env]:=by rfl):PS X (.Assign [tg] e pos) (MZ te g):=by
 intro ae s σ H D I h;refine wpAny_Assign_stores (thn (he ae s σ H _ I h) λv s1 ⟨x,H1,I1,r1,q1⟩=>?_) hs hw
 rw[h1];exact thn (hg ae s1 σ H1 x v _ I1 r1 q1) λ_ s2 q=>q
def S4(hN:X.N.Nodup)(hi:X.N[i]?=some x)(hx:P5 X.env.scope x)(he:PE X e te)(hs:swapsWith e (some (.Name x ue)) pos.line X.env=pure false:=by rfl)(hf:X.fn x=true\/X.env.scope.names.lookup x=some .local:=by first | exact .inl rfl | exact .inr rfl | assumption) :
  PS X (.Assign [.Name x ue] e pos) (MZ te (gName i)):=by
 intro ae s σ H D I h;refine wpAny_Assign_Name (thn (he ae s σ H _ I h) λv s1 ⟨y,H1,I1,r1,q1⟩=>?_) hs
 exact qT I1 hN hi hx r1 (λs2 I2=>⟨_,H1,I2,q1⟩) hf
def ab7(i:Nat)(te:TE)(ti:TIp):TS:=λD σ H=>∃x,σ[i]?=some (some x)/\te σ H λy H1=>ti x y H1 λz H2=>D.nx (σ.set i (some z)) H2
def S5(hN:X.N.Nodup)(hi:X.N[i]?=some x)(hx:P5 X.env.scope x)(he:PE X e te)(ho:PIp X op ti)(hf:X.fn x=true\/X.env.scope.names.lookup x=some .local:=by first | exact .inl rfl | exact .inr rfl | assumption) :
  PS X (.AugAssign (.Name x ue) op e pos) (ab7 i te ti):=by
 intro ae s σ H D I h;obtain⟨v,e1,h⟩:=h;obtain⟨m,hn,hl⟩:=I.loc;have M3:Xj X.env.scope x:=by rcases hx with k | k;exact .inl k;exact .inr (.inl k)
 obtain⟨u,r,l⟩:=hl i x v hi e1 M3;refine wpAny_AugAssign_Name ?_;have go:wpAny (model X.prog X.w) X.A (eval e X.env) (λw Gb=>wpAny (model X.prog X.w) X.A (inplaceOp op u w) (λr ab8=>wpAny (model X.prog X.w) X.A (storeName X.env x r) (λ_=>SP X ae D .next) X.xe ab8) X.xe Gb) X.xe s:=by
  refine thn (he ae s σ H _ I h) λw s1 ⟨y,H1,I1,r1,q1⟩=>?_
  refine thn (ho ae s1 σ H1 v y u w _ I1 r r1 q1) λz s2 ⟨zv,H2,I2,r2,q2⟩=>?_
  exact qT I2 hN hi hx r2 (λs3 I3=>⟨_,H2,I3,q2⟩) hf
 rcases l with⟨hk,hm⟩ | ⟨hk,c,hc,jZ⟩
 ·exact wpAny_loadName_local I.ok.kind hk hn hm go
 ·rcases hk with hk | hk
  ·exact wpAny_loadName_cell I.ok.kind hk hc jZ go
  ·rcases hx with k | k
   ·have:X.env.scope.names.lookup x=some .free:=hk;rw[k]at this;cases this
   ·have:X.env.scope.names.lookup x=some .free:=hk;rw[k]at this;cases this
end
section
variable {X:Cx} {pos:Pos}
def S6(c:TT)(tb:TS):TS:=λD σ H=>∃W:Nat->St->Hp->Prop,(∃m,W m σ H)/\∀m σ H,W m σ H ->
 c σ H λb H1=>if b=true then ∃N:St->Hp->Prop,(∀bG H',N bG H'->∃m',m'<m/\W m' bG H')/\tb {D with nx:=N,ct:=N,bk:=D.nx} σ H1 else D.nx σ H1
def IU(hp:PassesOwn (model X.prog X.w) X.A X.env X.xe)(hc:PT X c tc)(hb:PSs X body tb):PS X (.While c body [] pos) (S6 tc tb):=by
 intro ae s σ H D I h;obtain⟨W,⟨m0,w0⟩,lG⟩:=h;refine wpAny_While (codeAny_whileLoop (λn s'=>∃bG H',Inv X ae bG H' s'/\W n bG H') ?_ m0 ⟨σ,H,I,w0⟩)
 rintro n s1 ⟨je,H1,I1,w1⟩
 refine lu hp (thn (hc ae s1 je H1 _ I1 (lG n je H1 w1)) λb s2 ⟨H2,I2,q2⟩=>?_)
 cases b with
 | true =>
  obtain⟨N,hN,q2⟩:=q2;rw[if_pos rfl];refine lu hp (thn (hb ae s2 je H2 _ I2 q2) λf s3 q3=>?_)
  cases f with
  | next =>
   obtain⟨oS,H3,I3,n3⟩:=q3;obtain⟨m',hm,w3⟩:=hN oS H3 n3;exact⟨m',hm,oS,H3,I3,w3⟩
  | cont =>
   obtain⟨oS,H3,I3,n3⟩:=q3;obtain⟨m',hm,w3⟩:=hN oS H3 n3;exact⟨m',hm,oS,H3,I3,w3⟩
  | brk=>exact q3
  | ret v=>exact q3
 | false =>
  rw[if_neg c9];exact wm ⟨je,H2,I2,q2⟩
end
structure It where
 go:Nat->Hp->Prop
 yld:Nat->Hp->V->Hp->Prop
 stop:Nat->Hp->Prop
def wJ(X:Cx)(ae:List (Addr×Obj))(H:Hp)(b:Addr):Prop :=
 H b=none/\b≠X.env.locals/\b∉X.fs/\(b∈X.ex\/X.s₀.heap.objs.size<=b)/\(∀x c,X.env.cells.lookup x=some c->c≠b)/\∀p∈X.pn++ae,p.1≠b
def Inv.Cm{X:Cx}{ae:List (Addr×Obj)}{σ:St}{H H':Hp}{s:Shared}{b:Addr}(I:Inv X ae σ H s)(hb:s.heap.objs.size<=b)(hn:H' b=none):wJ X ae H' b:=by
 refine⟨hn,qK (bY I.lt hb),I.abV hb,.inr (bA I.sz hb),λx c e z=>?_,λp hp z=>?_⟩
 ·obtain⟨v,q⟩:=I.cell x c e;exact absurd (bY q.lt (by grind)) (gK _)
 ·exact absurd (bY (aW (I.pin p hp).1) (by grind)) (gK _)
structure Turn (P:Program) (w:World) (K:W.Frag) (tg:Expr) (J:It) (fp:List Addr) (it:Addr) (tn:Nat->Heap->Prop):Prop where
 mem:it∈fp
 obj:∀i h,tn i h->∀b∈fp,∃o,h.get? b=some o/\∀v,o.data≠.cell v
 keep:∀i h h',tn i h->(∀b∈fp,∀o,h.get? b=some o->h'.get? b=some o)->tn i h'
 item:∀(X:Cx),X.prog=P->X.w=w->X.K=K->X.calm=true->∀(i:Nat) (ae:List (Addr×Obj)) (s:Shared) (σ:St) (H:Hp) (E:Value->Shared->Prop),Inv X ae σ H s->(∀b∈fp,wJ X ae H b)->tn i s.heap->J.go i H ->
  wpAny (model P w) X.A (pyNext (.ref it)) (λr s1=>∃u,r=some u /\
   wpAny (model P w) X.A (letOwnedTupleGo tg (.ref it) u) (λ_ s2=>∃x H',Inv X ae σ H' s2/\RelV x u/\J.yld i H x H'/\tn (i+1) s2.heap/\∀b∈fp,H' b=none) E s1) E s
 done:∀(X:Cx),X.prog=P->X.w=w->X.K=K->X.calm=true->∀(i:Nat) (ae:List (Addr×Obj)) (s:Shared) (σ:St) (H:Hp) (E:Value->Shared->Prop),Inv X ae σ H s->(∀b∈fp,wJ X ae H b)->tn i s.heap->J.stop i H ->
  wpAny (model P w) X.A (pyNext (.ref it)) (λr s1=>r=none/\Inv X ae σ H s1) E s
 self:∀(A:Around) (i:Nat) (s:Shared) (Q:Value->Shared->Prop) (E:Value->Shared->Prop),tn i s.heap->Q (.ref it) s->wpAny (model P w) A (pyIter (.ref it)) Q E s
abbrev TI:=St->Hp->(It->Hp->Prop)->Prop
def PIE(X:Cx)(ae:List (Addr×Obj))(σ:St)(tg:Expr)(R:It->Hp->Prop)(itv:Value)(s2:Shared):Prop :=
 ∃(it:Addr) (fp:List Addr) (tn:Nat->Heap->Prop) (J:It) (H':Hp),itv=.ref it/\Inv X ae σ H' s2/\Turn X.prog X.w X.K tg J fp it tn/\tn 0 s2.heap/\(∀b∈fp,wJ X ae H' b)/\R J H'
def PI(X:Cx)(tg iter:Expr)(wi:TI):Prop :=
 ∀(ae:List (Addr×Obj)) (s:Shared) (σ:St) (H:Hp) (R:It->Hp->Prop),Inv X ae σ H s->wi σ H R ->
  wpAny (model X.prog X.w) X.A (eval iter X.env) (λv s1=>wpAny (model X.prog X.w) X.A (pyIter v) (PIE X ae σ tg R) X.xe s1) X.xe s
def yW(ho:s.heap.get? it=some o)(hc:o.cls=.type n)(hd:o.data=.fields vs)
  (hn:["enumerate","zip","dict_itemiterator","dict_reverseitemiterator","odict_iterator","itertools.zip_longest","itertools.pairwise"].contains n=false) (hQ:Q () s):wpAny M A (letOwnedTupleGo tg (.ref it) u) Q E s:=by
 unfold letOwnedTupleGo;cases tg<;>first
  | exact aj hQ
  | (cases u<;>first
    | exact aj hQ
    | (refine af (wpAny_load ho ?_)
       rw[hc,hd];show wpAny M A (if(["enumerate","zip","dict_itemiterator","dict_reverseitemiterator","odict_iterator","itertools.zip_longest","itertools.pairwise"].contains n&&vs[0]?==some (rawInt _))=true then _ else _) Q E s
       rw[if_neg (by grind)]
       exact aj hQ))
def Itl(K:W.Frag)(a:Addr):It :=
 ⟨λi H=>∃xs x,ud K H a xs/\xs[i]?=some x,λi H x H'=>H'=H/\∀xs,ud K H a xs->xs[i]?=some x,λi H=>∃xs,ud K H a xs/\xs.length<=i⟩
def Itt(K:W.Frag)(a:Addr):It :=
 ⟨λi H=>∃xs x,gU K H a xs/\xs[i]?=some x,λi H x H'=>H'=H/\∀xs,gU K H a xs->xs[i]?=some x,λi H=>∃xs,gU K H a xs/\xs.length<=i⟩
def XA(lo:Int)(n:Nat):It:=⟨λi _=>i<n,λi H x H'=>H'=H/\x=.int (lo+i),λi _=>n<=i⟩
def Gd{P:Program}{w:World}{K:W.Frag}{tg:Expr}(a it:Addr):Turn P w K tg (Itl K a) [it] it (λi h=>h.IsListIter it a i) where
 mem:=by simp
 obj:=λi h st b hb=>by
  have e:b=it:=by grind
  subst e;obtain⟨o,e,c,d⟩:=st;exact⟨o,e,λv z=>by grind⟩
 keep:=λi h h' st k=>st.at λo e=>k it (by simp) o e
 item:=by
  intro X hP hw hK hc i ae s σ H E I hf st hg;subst hP hw hK;obtain⟨xs,x,hq,hx⟩:=hg;obtain⟨aH,rv,p,hz⟩:=I.list hq;obtain⟨u,hu,ru⟩:=rv.get hx;obtain⟨f0,f1,f2,f3,f4,f5⟩:=hf it (by simp)
  refine wpAny_pyNext_list_item st p.isList (by simpa using hu) λh' cC sb=>?_
  have I1:=I.turned (t':=s.toks) (λb o hb e=>(sb.2 b hb).trans e) f0 f1 f3 f4 f5
  obtain⟨o,e,c,d⟩:=id cC;exact⟨u,rfl,yW e c d (by decide) ⟨x,H,I1,ru,⟨rfl,λys hy=>by rw[I.j0 hy hq];exact hx⟩,cC,λb hb=>(hf b hb).1⟩⟩
 done:=by
  intro X hP hw hK hc i ae s σ H E I hf st hg;subst hP hw hK;obtain⟨xs,hq,hx⟩:=hg;obtain⟨aH,rv,p,hz⟩:=I.list hq;obtain⟨f0,f1,f2,f3,f4,f5⟩:=hf it (by simp)
  have hl:=rv.length;exact wpAny_pyNext_list_end (I.ok.hd hc) st p.isList (by simp;lia) λh' eb=>⟨rfl,I.turned (λb o hb e=>eb b o hb e) f0 f1 f3 f4 f5⟩
 self:=λ_ _ _ _ _ st h=>wpAny_pyIter_listiter st h
def Cn{P:Program}{w:World}{K:W.Frag}{tg:Expr}(a it:Addr):Turn P w K tg (Itt K a) [it] it (λi h=>h.IsTupleIter it a i) where
 mem:=by simp
 obj:=λi h st b hb=>by
  have e:b=it:=by grind
  subst e;obtain⟨o,e,c,d⟩:=st;exact⟨o,e,λv z=>by grind⟩
 keep:=λi h h' st k=>st.at λo e=>k it (by simp) o e
 item:=by
  intro X hP hw hK hc i ae s σ H E I hf st hg;subst hP hw hK;obtain⟨xs,x,hq,hx⟩:=hg;obtain⟨aH,rv,p,hz⟩:=I.tuple hq;obtain⟨u,hu,ru⟩:=rv.get hx;obtain⟨f0,f1,f2,f3,f4,f5⟩:=hf it (by simp)
  refine wpAny_pyNext_tuple_item st (p) (by simpa using hu) λh' cC sb=>?_
  have I1:=I.turned (t':=s.toks) (λb o hb e=>(sb.2 b hb).trans e) f0 f1 f3 f4 f5
  obtain⟨o,e,c,d⟩:=id cC;exact⟨u,rfl,yW e c d (by decide) ⟨x,H,I1,ru,⟨rfl,λys hy=>by rw[I.ku hy hq];exact hx⟩,cC,λb hb=>(hf b hb).1⟩⟩
 done:=by
  intro X hP hw hK hc i ae s σ H E I hf st hg;subst hP hw hK;obtain⟨xs,hq,hx⟩:=hg;obtain⟨aH,rv,p,hz⟩:=I.tuple hq;obtain⟨f0,f1,f2,f3,f4,f5⟩:=hf it (by simp)
  have hl:=rv.length;exact wpAny_pyNext_tuple_end (I.ok.hd hc) st (p) (by simp;lia) λh' eb=>⟨rfl,I.turned (λb o hb e=>eb b o hb e) f0 f1 f3 f4 f5⟩
 self:=λ_ _ _ _ _ st h=>wpAny_pyIter_tupleiter st h
def Co{P:Program}{w:World}{K:W.Frag}{tg:Expr}(it:Addr)(lo:Int)(n:Nat):Turn P w K tg (XA lo n) [it] it (λi h=>IsRangeIter h it (lo+(i:Nat)*1) ((n:Int)-(i:Nat)) 1) where
 mem:=by simp
 obj:=λi h st b hb=>by
  grind
 keep:=λi h h' st k=>k it (by simp) _ st
 item:=by
  intro X hP hw hK hc i ae s σ H E I hf st hg;subst hP hw hK;obtain⟨f0,f1,f2,f3,f4,f5⟩:=hf it (by simp)
  have W:=Walks.range (prog:=X.prog) (w:=X.w) (I.ok.hd hc) it lo 1 n;refine W.item i s _ _ hg st λv h' tk hv cC kk=>?_
  obtain⟨t,rfl⟩:=hv;have I1:Inv X ae σ H {s with heap:=h',toks:=tk}:=I.turned (λb o hb e=>kk b o (by grind) e) f0 f1 f3 f4 f5
  refine⟨_,rfl,yW cC rfl rfl (by decide) ⟨.int (lo+i),H,I1,⟨t,?_⟩,⟨rfl,rfl⟩,cC,λb hb=>(hf b hb).1⟩⟩
  rw[Int.mul_one]
 done:=by
  intro X hP hw hK hc i ae s σ H E I hf st hg;subst hP hw hK;obtain⟨f0,f1,f2,f3,f4,f5⟩:=hf it (by simp)
  exact wpAny_pyNext_range_end (I.ok.hd hc) st (by have:n<=i:=hg;lia) λh' eb=>⟨rfl,I.turned (λb o hb e=>eb b o hb e) f0 f1 f3 f4 f5⟩
 self:=λ_ _ _ _ _ st h=>wpAny_pyIter_rangeiter st h
section
variable {X:Cx} {tg:Expr}
def XB(K:W.Frag)(tl:TE):TI:=λσ H R=>tl σ H λx H1=>∃a,x=.ref a/\(∃xs,ud K H1 a xs)/\R (Itl K a) H1
def acb(K:W.Frag)(tl:TE):TI:=λσ H R=>tl σ H λx H1=>∃a,x=.ref a/\(∃xs,gU K H1 a xs)/\R (Itt K a) H1
def Eg{l:Expr}{tl:TE}(hl:PE X l tl):PI X tg l (XB X.K tl):=by
 intro ae s σ H R I h;refine thn (hl ae s σ H _ I h) λv s1 ⟨x,H1,I1,r1,q1⟩=>?_
 obtain⟨a,e,⟨xs,hq⟩,q⟩:=q1;subst e;cases r1;obtain⟨aH,rv,p,hz⟩:=I1.list hq;refine BY p.isList ?_;refine⟨s1.heap.objs.size,[s1.heap.objs.size],_,_,H1,rfl,I1.kept λb o e=>aZ _ e,Gd a _,⟨_,bX _ rfl,rfl,rfl⟩,λb hb=>?_,q⟩
 have e:b=s1.heap.objs.size:=by grind
 subst e;exact I1.Cm (ay _) (I1.hok.fresh (ay _))
def IV{l:Expr}{tl:TE}(hl:PE X l tl):PI X tg l (acb X.K tl):=by
 intro ae s σ H R I h;refine thn (hl ae s σ H _ I h) λv s1 ⟨x,H1,I1,r1,q1⟩=>?_
 obtain⟨a,e,⟨xs,hq⟩,q⟩:=q1;subst e;cases r1;obtain⟨aH,rv,p,hz⟩:=I1.tuple hq;refine BR (p) ?_;refine⟨s1.heap.objs.size,[s1.heap.objs.size],_,_,H1,rfl,I1.kept λb o e=>aZ _ e,Cn a _,⟨_,bX _ rfl,rfl,rfl⟩,λb hb=>?_,q⟩
 have e:b=s1.heap.objs.size:=by grind
 subst e;exact I1.Cm (ay _) (I1.hok.fresh (ay _))
def yX{ae:List (Addr×Obj)}{σ:St}{H:Hp}{s:Shared}{R:It->Hp->Prop}{E:Value->Shared->Prop}{lo hi:Int}{t u v:Tok}{tk:Nat}(I:Inv X ae σ H s)(h1:-(2^62)<=lo)(h2:lo<2^62)(h3:-(2^62)<=hi)(h4:hi<2^62)
  (q:R (XA lo (hi-lo).toNat) H):wpAny (model X.prog X.w) X.A (pyIter (.ref s.heap.objs.size)) (PIE X ae σ tg R) E {s with heap:=s.heap.push {cls:=.type "range",data:=.fields #[.int lo t,.int hi u,.int 1 v]},toks:=tk}:=by
 refine wpAny_pyIter_range (IsRange.new ..) (small_one h1 h2 h3 h4) ?_;have I1:Inv X ae σ H {s with heap:=s.heap.push {cls:=.type "range",data:=.fields #[.int lo t,.int hi u,.int 1 v]},toks:=tk}:=I.kept λb o e=>aZ _ e
 refine⟨(s.heap.push {cls:=.type "range",data:=.fields #[.int lo t,.int hi u,.int 1 v]}).objs.size,[(s.heap.push {cls:=.type "range",data:=.fields #[.int lo t,.int hi u,.int 1 v]}).objs.size],_,_,H,rfl,
  I1.kept λb o e=>aZ _ e,Co _ lo (hi-lo).toNat,?_,λb hb=>?_,q⟩
 ·have e1:lo+(0:Nat)*1=lo:=by simp
  have e2:(((hi-lo).toNat:Nat):Int)-(0:Nat)=Builtin.Range.rangeSize lo hi 1:=by rw[rangeSize_one];split<;>lia
  rw[e1,e2];exact bX _ rfl
 ·have e:b=(s.heap.push {cls:=.type "range",data:=.fields #[.int lo t,.int hi u,.int 1 v]}).objs.size:=by grind
  subst e;exact I1.Cm (ay _) (I1.hok.fresh (ay _))
def XC(ta:TA):TI:=λσ H R=>ta σ H λvs H1=>∃j:Int,vs=[.int j] /\ -(2^62)<=j/\j<2^62/\R (XA 0 j.toNat) H1
def XD(ta:TA):TI:=λσ H R=>ta σ H λvs H1=>∃i j:Int,vs=[.int i,.int j]/\(-(2^62)<=i/\i<2^62 /\ -(2^62)<=j/\j<2^62)/\R (XA i (j-i).toNat) H1
def Ge{a:Expr}{ta:TA}{p pos:Pos}(hg:Gl X "range")(hm:X.mg "range"=none)(ha:PA X [a] ta)(hs:starEach [a] X.env=[(false,eval a X.env)]:=by rfl):PI X tg (.Call (.Name "range" p) [a] [] pos) (XC ta):=by
 intro ae s σ H R I h;refine Call_ (ld_blt I hg hm boot_range (il (thn (ha pos ae s σ H _ I h) λus s1 ⟨vs,H1,I1,r1,q1⟩=>?_) hs rfl))
 obtain⟨j,e,q1,q2,q⟩:=q1;subst e;cases r1 with
 | cons r rr =>
  cases rr;obtain⟨t,rfl⟩:=r;exact call_range_1 (yX I1 (by lia) (by lia) q1 q2 (by grind))
def Gf{a b:Expr}{ta:TA}{p pos:Pos}(hg:Gl X "range")(hm:X.mg "range"=none)(ha:PA X [a,b] ta)(hs:starEach [a,b] X.env=[(false,eval a X.env),(false,eval b X.env)]:=by rfl)(Mq:starEach [b] X.env=[(false,eval b X.env)]:=by rfl) :
  PI X tg (.Call (.Name "range" p) [a,b] [] pos) (XD ta):=by
 intro ae s σ H R I h;refine Call_ (ld_blt I hg hm boot_range (il (thn (ha pos ae s σ H _ I h) λus s1 ⟨vs,H1,I1,r1,q1⟩=>?_) (by grind) (by rw[Mq];rfl)))
 obtain⟨i,j,e,⟨q1,q2,q3,q4⟩,q⟩:=q1;subst e;cases r1 with
 | cons r rr =>
  cases rr with
  | cons r' rr =>
   cases rr;obtain⟨t,rfl⟩:=r;obtain⟨t',rfl⟩:=r';exact call_range_2 (yX I1 q1 q2 q3 q4 q)
def acd(wi:TI)(g:TG)(tb:TS):TS:=λD σ H=>wi σ H λJ H1=>∃W:Nat->Nat->St->Hp->Prop,(∃m,W 0 m σ H1)/\∀i m σ H,W i m σ H ->
 (J.stop i H/\D.nx σ H)\/(J.go i H/\∃N:St->Hp->Prop,(∀bG H',N bG H'->∃m',m'<m/\W (i+1) m' bG H')/\∀x H',J.yld i H x H'->g x σ H' λyY H2=>tb {D with nx:=N,ct:=N,bk:=D.nx} yY H2)
def qV(fp:List Addr)(h:Heap):List (Addr×Obj):=fp.filterMap λb=>(h.get? b).map λo=>(b,o)
def jf(hb:b∈fp)(e:h.get? b=some o):(b,o)∈qV fp h:=qC.mpr ⟨b,hb,by rw[e];rfl⟩
def Gg(hp:p∈qV fp h):p.1∈fp/\h.get? p.1=some p.2:=by
 obtain⟨b,hb,e⟩:=qC.mp hp;cases q:h.get? b with
 | none=>rw[q]at e;cases e
 | some o =>
  rw[q]at e;have e':=cz e;subst e';exact⟨hb,q⟩
def Inv.pinned{ae:List (Addr×Obj)}{σ:St}{H:Hp}{s:Shared}{fp:List Addr}(I:Inv X ae σ H s)(hf:∀b∈fp,wJ X ae H b)(ho:∀b∈fp,∃o,s.heap.get? b=some o/\∀v,o.data≠.cell v):Inv X (ae++qV fp s.heap) σ H s :=
 I.lZ λp hp=>(bh.mp hp).elim (λz=>I.pin p (cV _ z)) λz=>by
  obtain⟨hb,e⟩:=Gg z;obtain⟨f0,f1,f2,_⟩:=hf p.1 hb;obtain⟨o,e',d⟩:=ho p.1 hb;rw[e]at e';cases e';exact⟨e,f0,f1,f2,d⟩
def Inv.qW{ae pl:List (Addr×Obj)}{σ:St}{H:Hp}{s:Shared}(I:Inv X (ae++pl) σ H s):Inv X ae σ H s:=I.lZ λp hp=>I.pin p (cV _ (dR _ hp))
def IW(hp:PassesOwn (model X.prog X.w) X.A X.env X.xe)(hc:X.calm=true)(hi:PI X tg iter wi)(hg:PG X tg g)(hb:PSs X body tb)
  (hs:∀x,foldedSetIterable iter X.env x=pure x:=by intro _;rfl):PS X (.For tg iter body [] pos) (acd wi g tb):=by
 intro ae s σ H D I h;refine wpAny_For (thn (hi ae s σ H _ I h) λv s1 h1=>thn h1 λitv s2 h2=>?_) hs
 obtain⟨it,fp,tn,J,H2,e,I2,T,d0,f2,W,⟨m0,w0⟩,lG⟩:=h2;subst e;have Cp:∀{H':Hp},(∀b∈fp,H' b=none)->∀b∈fp,wJ X ae H' b:=λhn b hb=>⟨hn b hb,(f2 b hb).2⟩
 refine codeAny_forLoop_any (λn s'=>∃i bG H',Inv X ae bG H' s'/\tn i s'.heap/\(∀b∈fp,H' b=none)/\W i n bG H') ?_ m0 ⟨0,σ,H2,I2,d0,λb hb=>(f2 b hb).1,w0⟩
 rintro n s3 ⟨i,oS,H3,I3,M6,fr3,w3⟩
 rcases lG i n oS H3 w3 with⟨stop,qn⟩ | ⟨go,N,hN,step⟩
 ·refine lu hp (thn (T.done X rfl rfl rfl hc i ae s3 oS H3 X.xe I3 (Cp fr3) M6 stop) λr s4 ⟨hr,I4⟩=>?_)
  subst hr;exact wm ⟨oS,H3,I4,qn⟩
 ·refine lu hp (thn (T.item X rfl rfl rfl hc i ae s3 oS H3 X.xe I3 (Cp fr3) M6 go) λr s4 ⟨u,hr,h4⟩=>?_)
  subst hr;refine lu hp (thn h4 λ_ s5 z9=>?_)
  obtain⟨x,H5,I5,r5,y5,S7,fr5⟩:=z9;have I5':=I5.pinned (Cp fr5) (T.obj _ _ S7);refine lu hp (thn (hg _ s5 oS H5 x u _ I5' r5 (step x H5 y5)) λ_ s6 ⟨σ6,H6,I6,q6⟩=>?_)
  refine lu hp (thn (hb _ s6 σ6 H6 _ I6 q6) λf s7 q7=>?_)
  have again:∀{IX:St} {H7:Hp},Inv X (ae++qV fp s5.heap) IX H7 s7->N IX H7->∃m,m<n/\∃i bG H',Inv X ae bG H' s7/\tn i s7.heap/\(∀b∈fp,H' b=none)/\W i m bG H':=λ{IX H7} I7 n7=>by
   obtain⟨m',hm,w7⟩:=hN IX H7 n7;refine⟨m',hm,i+1,IX,H7,I7.qW,T.keep _ _ _ S7 λb hb o e=>(I7.pin (b,o) (cV _ (cV _ (jf hb e)))).1,λb hb=>?_,w7⟩
   obtain⟨o,e,d⟩:=T.obj _ _ S7 b hb;exact(I7.pin (b,o) (cV _ (cV _ (jf hb e)))).2.1
  cases f with
  | next=>obtain⟨IX,H7,I7,n7⟩:=q7;exact again I7 n7
  | cont=>obtain⟨IX,H7,I7,n7⟩:=q7;exact again I7 n7
  | brk=>obtain⟨IX,H7,I7,q7⟩:=q7;exact⟨IX,H7,I7.qW,q7⟩
  | ret v=>obtain⟨x7,IX,H7,I7,r7,q7⟩:=q7;exact⟨x7,IX,H7,I7.qW,r7,q7⟩
end
abbrev R2:=V->V->Hp->VK->Prop
def OpR(X:Cx)(f:Value->Value->Sem Value)(r:R2):Prop :=
 ∀(ae:List (Addr×Obj)) (s:Shared) (σ:St) (H:Hp) (x y:V) (v u:Value) (Q:VK),Inv X ae σ H s->RelV x v->RelV y u->r x y H Q ->
  wpAny (model X.prog X.w) X.A (f v u) (EP X ae σ Q) X.xe s
def UnR(X:Cx)(f:Value->Sem Value)(r:V->Hp->VK->Prop):Prop :=
 ∀(ae:List (Addr×Obj)) (s:Shared) (σ:St) (H:Hp) (x:V) (v:Value) (Q:VK),Inv X ae σ H s->RelV x v->r x H Q ->
  wpAny (model X.prog X.w) X.A (f v) (EP X ae σ Q) X.xe s
def l7(X:Cx)(f:Value)(r:List V->Hp->VK->Prop):Prop :=
 ∀(ae:List (Addr×Obj)) (s:Shared) (σ:St) (H:Hp) (xs:List V) (us:List Value) (Q:VK),Inv X ae σ H s->Vals xs us->r xs H Q ->
  wpAny (model X.prog X.w) X.A (call f us) (EP X ae σ Q) X.xe s
def acg(X:Cx)(r:V->Hp->(Bool->Hp->Prop)->Prop):Prop :=
 ∀(ae:List (Addr×Obj)) (s:Shared) (σ:St) (H:Hp) (x:V) (v:Value) (Q:Bool->Hp->Prop),Inv X ae σ H s->RelV x v->r x H Q ->
  wpAny (model X.prog X.w) X.A (truthy v) (TP X ae σ Q) X.xe s
def WH(r:R2)(ta tb:TE):TE:=λσ H Q=>ta σ H λx H1=>tb σ H1 λy H2=>r x y H2 Q
def tUn(r:V->Hp->VK->Prop)(ta:TE):TE:=λσ H Q=>ta σ H λx H1=>r x H1 Q
def rI(C:Int->Int->Prop)(g:Int->Int->V):R2:=λx y H Q=>∃i j,x=.int i/\y=.int j/\C i j/\Q (g i j) H
def M7(g:Int->Int->V):R2:=λx y H Q=>∃i j,x=.int i/\y=.int j/\Q (g i j) H
def rU(g:Int->V):V->Hp->VK->Prop:=λx H Q=>∃i,x=.int i/\Q (g i) H
section
variable {X:Cx} {a b c:Expr} {ta tb tc:TE} {pos:Pos}
def M8(ha:PE X a ta)(hb:PE X b tb){ae:List (Addr×Obj)}{s:Shared}{σ:St}{H:Hp}{R:V->V->Hp->Prop}(I:Inv X ae σ H s)
  (h:ta σ H λx H1=>tb σ H1 λy H2=>R x y H2) {Q:Value->Shared->Prop} {f:Value->Value->Sem Value}
  (hf:∀v u s2 x y H2,Inv X ae σ H2 s2->RelV x v->RelV y u->R x y H2->wpAny (model X.prog X.w) X.A (f v u) Q X.xe s2) :
  wpAny (model X.prog X.w) X.A (eval a X.env) (λv s₁=>wpAny (model X.prog X.w) X.A (eval b X.env) (λu Gb=>wpAny (model X.prog X.w) X.A (f v u) Q X.xe Gb) X.xe s₁) X.xe s:=by
 refine thn (ha ae s σ H _ I h) λv s1 ⟨x,H1,I1,r1,q1⟩=>?_
 refine thn (hb ae s1 σ H1 _ I1 q1) λu s2 ⟨y,H2,I2,r2,q2⟩=>?_
 exact hf v u s2 x y H2 I2 r1 r2 q2
def XE(ho:OpR X (binaryOp op) r)(ha:PE X a ta)(hb:PE X b tb):PE X (.BinOp a op b pos) (WH r ta tb):=by
 intro ae s σ H Q I h;exact wpAny_BinOp (M8 ha hb I h λv u s2 x y H2 I2 rx ry q=>ho ae s2 σ H2 x y v u Q I2 rx ry q)
def XF{r:V->Hp->VK->Prop}(ho:UnR X (unaryOp op) r)(ha:PE X a ta):PE X (.UnaryOp op a pos) (tUn r ta):=by
 intro ae s σ H Q I h;exact UnaryOp_ (thn (ha ae s σ H _ I h) (by rintro v s1 ⟨x,H1,I1,r1,q1⟩;exact ho ae s1 σ H1 x v Q I1 r1 q1))
def opI{f:Value->Value->Sem Value}{C:Int->Int->Prop}{g:Int->Int->Int}
  (rule:∀(i j:Int) (t u:Tok) (s:Shared) (Q:Value->Shared->Prop) (E:Value->Shared->Prop),C i j->Q (.int (g i j) s.toks) {s with toks:=s.toks+1}->wpAny (model X.prog X.w) X.A (f (.int i t) (.int j u)) Q E s) :
  OpR X f (rI C λi j=>.int (g i j)):=by
 intro ae s σ H x y v u Q I rx ry h;obtain⟨i,j,rfl,rfl,hc,q⟩:=h;obtain⟨t,rfl⟩:=rx;obtain⟨t',rfl⟩:=ry;exact rule i j t t' s _ _ hc ⟨.int (g i j),H,I.tok _,⟨_,rfl⟩,q⟩
def S8{f:Value->Value->Sem Value}{g:Int->Int->Int}
  (rule:∀(i j:Int) (t u:Tok) (s:Shared) (Q:Value->Shared->Prop) (E:Value->Shared->Prop),Q (.int (g i j) s.toks) {s with toks:=s.toks+1}->wpAny (model X.prog X.w) X.A (f (.int i t) (.int j u)) Q E s) :
  OpR X f (M7 λi j=>.int (g i j)):=by
 intro ae s σ H x y v u Q I rx ry h;obtain⟨i,j,rfl,rfl,q⟩:=h;obtain⟨t,rfl⟩:=rx;obtain⟨t',rfl⟩:=ry;exact rule i j t t' s _ _ ⟨.int (g i j),H,I.tok _,⟨_,rfl⟩,q⟩
def S9{f:Value->Value->Sem Value}{g:Int->Int->Bool}
  (rule:∀(i j:Int) (t u:Tok) (s:Shared) (Q:Value->Shared->Prop) (E:Value->Shared->Prop),Q (.bool (g i j)) s->wpAny (model X.prog X.w) X.A (f (.int i t) (.int j u)) Q E s) :
  OpR X f (M7 λi j=>.bl (g i j)):=by
 intro ae s σ H x y v u Q I rx ry h;obtain⟨i,j,rfl,rfl,q⟩:=h;obtain⟨t,rfl⟩:=rx;obtain⟨t',rfl⟩:=ry;exact rule i j t t' s _ _ ⟨.bl (g i j),H,I,rfl,q⟩
def ach(i j:Int):Prop:=0<j/\j<1073741824
def aci(i j:Int):Prop:=0<=j/\j<=1000000/\i.natAbs<2^64
def Ta(i j:Int):Prop:=(-(2^64)<i/\i<2^64)\/(-(2^64)<j/\j<2^64)
def Ta.ok(h:Ta i j):IntMulOk i j:=by
 rcases h with⟨h1,h2⟩ | ⟨h1,h2⟩
 ·exact .of_left (intBits_le_64 h1 h2)
 ·exact .of_right (intBits_le_64 h1 h2)
def Tb:OpR X (binaryOp .Add) (M7 λi j=>.int (i+j)):=S8 λ_ _ _ _ _ _ _ q=>add_int q
def Tc:OpR X (binaryOp .Sub) (M7 λi j=>.int (i-j)):=S8 λ_ _ _ _ _ _ _ q=>sub_int q
def Td:OpR X (binaryOp .Mult) (rI Ta λi j=>.int (i*j)):=opI λ_ _ _ _ _ _ _ hc q=>mul_int q hc.ok
def M9:OpR X (binaryOp .FloorDiv) (rI ach λi j=>.int (i/j)):=opI λi j _ _ _ _ _ hc q=>by
 have h1:=hc.1;have h2:=hc.2;exact floordiv_int (by lia) (by rw[Int.fdiv_eq_ediv_of_nonneg i (by lia)];exact q) (.inl (PyProof.noPylong_small (by lia)))
def Te:OpR X (binaryOp .Mod) (rI (λ_ j=>0<j) λi j=>.int (i%j)):=opI λi j _ _ _ _ _ hc q=>by
 have h1:=hc;exact mod_int' (by lia) (by rw[Int.fmod_eq_emod_of_nonneg i (by lia)];exact q)
def Tf:OpR X (binaryOp .Pow) (rI aci λi j=>.int (i^j.toNat)):=opI λ_ _ _ _ _ _ _ hc q=>pow_int_small hc.1 hc.2.1 hc.2.2 q
def Na:OpR X (inplaceOp .Add) (M7 λi j=>.int (i+j)):=S8 λ_ _ _ _ _ _ _ q=>iadd_int q
def unI{f:Value->Sem Value}{g:Int->Int}
  (rule:∀(i:Int) (t:Tok) (s:Shared) (Q:Value->Shared->Prop) (E:Value->Shared->Prop),Q (.int (g i) s.toks) {s with toks:=s.toks+1}->wpAny (model X.prog X.w) X.A (f (.int i t)) Q E s) :
  UnR X f (rU λi=>.int (g i)):=by
 intro ae s σ H x v Q I rx h;obtain⟨i,rfl,q⟩:=h;obtain⟨t,rfl⟩:=rx;exact rule i t s _ _ ⟨.int (g i),H,I.tok _,⟨_,rfl⟩,q⟩
def Th:UnR X (unaryOp .USub) (rU λi=>.int (-i)):=unI λ_ _ _ _ _ q=>neg_int q
end
section
variable {X:Cx} {a b c:Expr} {ta tb tc:TE} {pos:Pos}
def IY{ae:List (Addr×Obj)}{σ:St}{H:Hp}{s:Shared}{Q:VK}{k k':Bool}(I:Inv X ae σ H s)(q:Q (.bl k) H)(e:k=k'):EP X ae σ Q (.bool k') s:=by
 subst e;exact⟨.bl k,H,I,rfl,q⟩
def XG:OpR X (compareOp .Lt) (M7 λi j=>.bl (decide (i<j))):=S9 λ_ _ _ _ _ _ _ q=>lt_int q
def XH:OpR X (compareOp .LtE) (M7 λi j=>.bl (decide (i<=j))):=S9 λ_ _ _ _ _ _ _ q=>le_int q
def XI:OpR X (compareOp .GtE) (M7 λi j=>.bl (decide (j<=i))):=S9 λ_ _ _ _ _ _ _ q=>ge_int q
def Ti:OpR X (compareOp .Is) (λx y H Q=>y=.bB/\Q (.bl (decide (x=.bB))) H):=by
 intro ae s σ H x y v u Q I rx ry h;obtain⟨rfl,q⟩:=h;cases ry;refine is_none_gen (IY I q ?_);cases x<;>first
  | (cases rx;rfl)
  | (obtain⟨t,rfl⟩:=rx;rfl)
def Nb:OpR X (compareOp .IsNot) (λx y H Q=>y=.bB/\Q (.bl (!decide (x=.bB))) H):=by
 intro ae s σ H x y v u Q I rx ry h;obtain⟨rfl,q⟩:=h;cases ry;refine isnot_none_gen (IY I q ?_);cases x<;>first
  | (cases rx;rfl)
  | (obtain⟨t,rfl⟩:=rx;rfl)
def Nc(ho:OpR X (compareOp op) r)(ha:PE X a ta)(hb:PE X b tb)(hm:behindInMarks op b=false):PE X (.Compare a [op] [b] pos) (WH r ta tb):=by
 intro ae s σ H Q I h;exact wpAny_Compare1 (M8 ha hb I h λv u s2 x y H2 I2 rx ry q=>ho ae s2 σ H2 x y v u Q I2 rx ry q) hm
def QC(t:TE):TT:=λσ H Q=>t σ H λx H'=>∃k,x=.bl k/\Q k H'
def Nd(ho:OpR X (compareOp op) r)(ha:PE X a ta)(hb:PE X b tb)(hm:behindInMarks op b=false):PT X (.Compare a [op] [b] pos) (QC (WH r ta tb)):=by
 intro ae s σ H Q I h;refine wpAny_isTrue_Compare1 (thn (ha ae s σ H _ I h) λv s1 ⟨x,H1,I1,r1,q1⟩=>thn (hb ae s1 σ H1 _ I1 q1) λu s2 ⟨y,H2,I2,r2,q2⟩ =>
  thn (ho ae s2 σ H2 x y v u _ I2 r1 r2 q2) λc s3 ⟨z,H3,I3,r3,k,e,q3⟩=>?_) hm
 subst e;cases r3;exact lq ⟨H3,I3,q3⟩
def Cq(r r':R2)(ta tb tc:TE):TE:=λσ H Q=>ta σ H λx H1=>tb σ H1 λy H2=>r x y H2 λz H3=>∃k,z=.bl k /\
 (if k=true then tc σ H3 λw' H4=>r' y w' H4 Q else Q (.bl false) H3)
def IZ(ho:OpR X (compareOp op) r)(nh:OpR X (compareOp yC) r')(ha:PE X a ta)(hb:PE X b tb)(hc:PE X c tc)
  (hm:lastMarks [op,yC] [b,c]=false:=by with_unfolding_all rfl):PE X (.Compare a [op,yC] [b,c] pos) (Cq r r' ta tb tc):=by
 intro ae s σ H Q I h;refine Compare_chain (thn (ha ae s σ H _ I h) λv s1 ⟨x,H1,I1,r1,q1⟩=>chain_link (thn (hb ae s1 σ H1 _ I1 q1) λu s2 ⟨y,H2,I2,r2,q2⟩ =>
  thn (ho ae s2 σ H2 x y v u _ I2 r1 r2 q2) λd s3 ⟨z,H3,I3,r3,k,e,q3⟩=>?_)) hm
 subst e;cases r3;refine lq ?_;cases k with
 | false=>exact ite_ff ⟨.bl false,H3,I3,rfl,q3⟩
 | true=>exact ite_tt (chain_last (thn (hc ae s3 σ H3 _ I3 q3) (by rintro w' s4 ⟨z',H4,I4,r4,q4⟩;exact nh ae s4 σ H4 y z' u w' Q I4 r2 r4 q4)))
def I0(ho:OpR X (compareOp op) r)(nh:OpR X (compareOp yC) r')(ha:PE X a ta)(hb:PE X b tb)(hc:PE X c tc)
  (hm:lastMarks [op,yC] [b,c]=false:=by with_unfolding_all rfl):PT X (.Compare a [op,yC] [b,c] pos) (QC (Cq r r' ta tb tc)):=by
 intro ae s σ H Q I h;refine isTrue_chain (thn (ha ae s σ H _ I h) λv s1 ⟨x,H1,I1,r1,q1⟩=>test_link (thn (hb ae s1 σ H1 _ I1 q1) λu s2 ⟨y,H2,I2,r2,q2⟩ =>
  thn (ho ae s2 σ H2 x y v u _ I2 r1 r2 q2) λd s3 ⟨z,H3,I3,r3,k,e,q3⟩=>?_)) hm
 subst e;cases r3;refine lq ?_;cases k with
 | false =>
  obtain⟨k',e',q'⟩:=q3;cases e';exact ite_ff ⟨H3,I3,q'⟩
 | true =>
  refine ite_tt (test_last (thn (hc ae s3 σ H3 _ I3 q3) λw' s4 ⟨z',H4,I4,r4,q4⟩=>thn (nh ae s4 σ H4 y z' u w' _ I4 r2 r4 q4) λd' s5 z9=>?_))
  obtain⟨z2,H5,I5,r5,k2,e2,q5⟩:=z9;subst e2;cases r5;exact lq ⟨H5,I5,q5⟩
def Nf(K:W.Frag)(x:V)(H:Hp)(k:Bool):Prop :=
 match x with
 | .bB=>k=false
 | .bl b=>k=b
 | .int i=>k=(i != 0)
 | .str y=>y.length<=sizeLine/\k=((y.length:Int) != 0)
 | .WC y=>y.size<=sizeLine/\k=((y.size:Int) != 0)
 | .ref p=>(∃xs,ud K H p xs/\k = !xs.isEmpty)\/(∃xs,gU K H p xs/\k = !xs.isEmpty)\/∃kvs,H p=some (.dK kvs)/\k = !kvs.isEmpty
 | _=>False
def Cr{κ:Type}{kvs:List (κ×V)}{vs:List (κ×Value)}(r:KV kvs vs):(!vs.isEmpty) = !kvs.isEmpty:=by
 cases r<;>rfl
def qX(r:Vals xs aH):(!aH.toArray.isEmpty) = !xs.isEmpty:=by
 cases r<;>simp
def lH:(sizeLine:Nat)<2^63:=by rw[sizeLine_eq];decide
def Ja:acg X (λx H Q=>∃k,Nf X.K x H k/\Q k H):=by
 intro ae s σ H x v Q I rx h;obtain⟨k,e,q⟩:=h;have hl:=lH;have hs:=sizeLine_eq;cases x with
 | bB =>
  cases rx;have e':=e;subst e';exact truthy_none ⟨H,I,q⟩
 | bl b =>
  cases rx;have e':=e;subst e';exact lq ⟨H,I,q⟩
 | int i =>
  obtain⟨t,rfl⟩:=rx;have e':=e;subst e';exact PySem.P.truthy_int ⟨H,I,q⟩
 | str y =>
  obtain⟨t,rfl⟩:=rx;obtain⟨hy,e'⟩:y.length<=sizeLine/\k=((y.length:Int) != 0):=e;subst e';exact PySem.P.truthy_str (by lia) ⟨H,I.tok _,q⟩
 | WC y =>
  obtain⟨t,rfl⟩:=rx;obtain⟨hy,e'⟩:y.size<=sizeLine/\k=((y.size:Int) != 0):=e;subst e';exact W.truthy_bytes (by lia) ⟨H,I.tok _,q⟩
 | ref p =>
  cases rx;have e':=e;rcases e' with⟨xs,hx,e'⟩ | ⟨xs,hx,e'⟩ | ⟨kvs,hx,e'⟩
  ·subst e';obtain⟨aH,r,pl,hz⟩:=I.list hx;have eG:=r.length;exact wpAny_truthy_list pl.isList (by grind) ⟨H,I.tok _,by rw[qX r];exact q⟩
  ·subst e';obtain⟨aH,r,pl,hz⟩:=I.tuple hx;have eG:=r.length;exact truthy_tuple pl (by grind) ⟨H,I.tok _,by rw[qX r];exact q⟩
  ·subst e';obtain⟨hz,hS,vs,r,m⟩:kvs.length<=sizeLine/\(p==sysModules)=false/\∃vs,KV kvs vs/\s.heap.DictOf (cf X.prog X.w) p vs:=I.hok p _ hx
   have eG:=nK r;exact wpAny_truthy_dict hS m (by lia) ⟨H,I.tok _,by rw[Cr r];exact q⟩
 | _=>exact(e).elim
def Jb(ha:PE X a ta)(he:∀jr,isTrue a X.env jr=(do let v <-jr;standAt a.pos;holding [v] (truthy v))) :
  PT X a (λσ H Q=>ta σ H λx H'=>∃k,Nf X.K x H' k/\Q k H'):=by
 intro ae s σ H Q I h;exact isTrue_plain (thn (ha ae s σ H _ I h) (by rintro v s1 ⟨x,H1,I1,r1,q1⟩;exact Ja ae s1 σ H1 x v Q I1 r1 q1)) (he _)
def Ct:OpR X (binaryOp .Add) (λx y H Q=>∃i j,x=.str i/\y=.str j/\i.length+j.length<=sizeLine/\Q (.str (i++j)) H):=by
 intro ae s σ H x y v u Q I rx ry h;obtain⟨i,j,rfl,rfl,hz,q⟩:=h;obtain⟨t,rfl⟩:=rx;obtain⟨t',rfl⟩:=ry;exact add_str (λt' tk=>⟨.str (i++j),H,I.tok _,⟨_,rfl⟩,q⟩) hz
def js(r:Vals [x] us):∃u,us=[u]/\RelV x u:=by
 cases r with
 | cons r1 r2=>cases r2;exact⟨_,rfl,r1⟩
def QD(r:Vals [x,y] us):∃u w',us=[u,w']/\RelV x u/\RelV y w':=by
 cases r with
 | cons r1 r2 =>
  cases r2 with
  | cons r3 r4=>cases r4;exact⟨_,_,rfl,r1,r3⟩
def uS:l7 X (.type "int") (λxs H Q=>(∃i,xs=[.int i]/\Q (.int i) H)\/∃k,xs=[.bl k]/\Q (.int (if k then 1 else 0)) H):=by
 intro ae s σ H xs us Q I r h;rcases h with⟨i,rfl,q⟩ | ⟨k,rfl,q⟩
 ·obtain⟨u,rfl,t,rfl⟩:=js r;exact call_int_int ⟨.int i,H,I,⟨_,rfl⟩,q⟩
 ·obtain⟨u,rfl,r1⟩:=js r;cases r1;exact call_int_bool ⟨.int (if k then 1 else 0),H,I.tok _,⟨_,rfl⟩,q⟩
def wK:l7 X (.type "str") (λxs H Q=>∃i,xs=[.int i]/\i.natAbs.log2<1920/\Q (.str (toString i)) H):=by
 intro ae s σ H xs us Q I r h;obtain⟨i,rfl,hz,q⟩:=h;obtain⟨u,rfl,t,rfl⟩:=js r;exact PySem.P.str_of_int hz ⟨.str _,H,I.tok _,⟨_,rfl⟩,q⟩
end
structure Gh (h:Heap) (x dx C:Addr) (mA:Str->Option Value):Prop where
 obj:h.get? x=some (W.instObj C dx)
 ns:h.Ns1 dx mA
 ne:dx≠x
def Gi{h:Heap}{mA:Str->Option Value}(n:h.Ns1 dx mA):∃od,h.get? dx=some od/\∀name,W.lookIn name od=some (mA name):=by
 obtain⟨o,es,ep,ho,hd,hk,_,hm⟩:=n;refine⟨o,ho,λname=>?_⟩
 have e:=hm name;unfold nsFind findBy at e;rw[<-Array.find?_toList]at e;unfold W.lookIn;rw[hd];dsimp only
 split
 ·grind
 ·rename_i q;rw[q]at e;have a:es.toList.any (·.refKey)=false:=by
   rw[List.any_eq_false];intro y hy;obtain⟨z,t,Tj⟩:=hk y (Array.mem_toList_iff.mp hy);simp[DictEntry.refKey,Tj]
  have a':¬es.toList.any (·.refKey)=true:=by grind
  rw[if_neg a'];exact dB some e
def Gh.Ng(I:Gh h x dx C mA):∃od,W.InstAt h x (W.instObj C dx) C (some od)/\∀name,W.lookIn name od=some (mA name) :=
 let ⟨od,ho,hl⟩:=Gi I.ns
 ⟨od,⟨I.obj,rfl,rfl,ho⟩,hl⟩
section
variable {prog:Program} {w:World} {A:Around} {E:Value->Shared->Prop} {s:Shared} {K:W.Frag} {x dx C f:Addr} {mA:Str->Option Value} {name:Str} {v:Value}
def Nh(X:K.In s.heap)(I:Gh s.heap x dx C mA)(hg:W.plainGet K C name=true)(hh:W.hasDictIn K C=true)
  (ha:W.findIn K (.ref C) name=some none) (hv:mA name=some v) (hv':W.handedIn v=true) (h:Q v {s with toks:=s.toks+1}) :
  wpAny (model prog w) A (getAttr (.ref x) name expr) Q E s:=by
 obtain⟨od,J,hl⟩:=I.Ng;exact W.get_value X J (W.plainGet_of hg).1 (W.findObj_own hh ha rfl (by rw[hl,hv])) hv' h
def Ni(X:K.In s.heap)(I:Gh s.heap x dx C mA)
  (hs:W.findIn K (.ref C) "__setattr__"=some (some (.builtin "object.__setattr__"))) (hp:W.plainOver K C=true) (ht:W.takerIn K C name=some none) (hh:W.hasDictIn K C=true)
  (hw:PySem.Within mA ns) (hsz:ns.length<=sizeLine)
  (h:∀h',Gh h' x dx C (λy=>if y=name then some v else mA y)->Heap.SameBut dx s.heap h'->Q () {s with heap:=h',toks:=s.toks+2}) :
  wpAny (model prog w) A (setAttr (.ref x) name v) Q E s:=by
 obtain⟨od,J,hl⟩:=I.Ng;refine W.set_plain X J hs (W.osa_open X J hp ht λb=>?_)
 obtain⟨cd,hc,wF⟩:=W.any_some hh;have hx:=I.obj;refine af (aj (af (af (wpAny_loadPart hx (af (W.Looks.here (W.looks_clsIn X hc) ?_))))));rw[wF];refine aj (af (aj (af ?_)));refine wpAny_nsSet1 I.ns λh' hn2 Mq=>?_
 obtain⟨oD,esD,epD,hoD,hdD,hcD⟩:=hn2.count (PySem.Within.cons name v hw);refine af (wpAny_lookBehind hoD (by rw[hdD];exact pastItsLine_dict (bA hcD (by grind))) ?_)
 exact aj (h _ ⟨(Mq.2 _ (dt I.ne)).trans I.obj,hn2,I.ne⟩ Mq)
def Jc(X:K.In s.heap)(hm:W.makesIn K C=true)
  (hi:W.findIn K (.ref C) "__init__"=some (some (.ref f))) (hf:W.typeIn K (.ref f)=some (.type "function"))
  (h:codeAny (model prog w) (A.under (.builtin "type.__call__" ⟨.ref C::vs,kw⟩)) (.call (.ref f) ⟨.ref (s.heap.objs.size+1)::vs,kw⟩) (W.InitBack (s.heap.objs.size+1) R)
   {s with heap:=(s.heap.push W.emptyDict).push (W.instObj C s.heap.objs.size)}) :
  codeAny (model prog w) A (.call (.ref C) ⟨vs,kw⟩) R s:=by
 obtain⟨hh,g,d,t,os⟩:=s;exact W.make_core (W.makes_of X hm) (W.looks_findIn X hi) (λself=>W.bind_fn X self hf) (.inl rfl) h
end
noncomputable def iD(f:Str)(v:V):List (Str×V)->List (Str×V)
 | []=>[(f,v)]
 | (g,x)::r=>if g=f then(g,v)::r else(g,x)::iD f v r
theorem oT(f g:Str)(v:V):∀fs:List (Str×V),(iD f v fs).lookup g=if g=f then some v else fs.lookup g
 | []=>by
  show List.lookup g [(f,v)]=_;by_cases h:g=f
  ·grind
  ·grind
 | (k,x)::r=>by
  have ih:=oT f g v r;rw[show iD f v ((k,x)::r)=(if k=f then(k,v)::r else(k,x)::iD f v r)from rfl]
  by_cases hk:k=f
  ·grind
  ·grind
theorem nY(f:Str)(v:V):∀fs:List (Str×V),f∈(iD f v fs).map (·.1)/\∀g,g∈fs.map (·.1)->g∈(iD f v fs).map (·.1)
 | []=>⟨by simp[iD],λg h=>by simp at h⟩
 | (k,x)::r=>by
  obtain⟨i1,i2⟩:=nY f v r;rw[show iD f v ((k,x)::r)=(if k=f then(k,v)::r else(k,x)::iD f v r)from rfl]
  by_cases hk:k=f
  ·grind
  ·grind
theorem oU(f:Str)(v:V):∀fs:List (Str×V),(iD f v fs).length<=fs.length+1
 | []=>by simp[iD]
 | (k,x)::r=>by
  have ih:=oU f v r;rw[show iD f v ((k,x)::r)=(if k=f then(k,v)::r else(k,x)::iD f v r)from rfl]
  by_cases hk:k=f
  ·grind
  ·grind
def qQ.Nj(r:qQ (some v) o):∃u,o=some u/\RelV v u:=by
 cases o with
 | none=>exact(r).elim
 | some u=>exact⟨u,rfl,r⟩
def Gj(r:RelV v u):W.handedIn u=true:=by
 cases v with
 | bB=>cases(r);rfl
 | bl b=>cases(r);rfl
 | int i=>obtain⟨t,e⟩:=(r);cases e;rfl
 | str x=>obtain⟨t,e⟩:=(r);cases e;rfl
 | WC b=>obtain⟨t,e⟩:=(r);cases e;rfl
 | flt b=>obtain⟨t,e⟩:=(r);cases e;rfl
 | ref a=>cases(r);rfl
 | ty n=>cases(r);rfl
section
variable {P:Program} {w:World} {H H':Hp} {h h':Heap} {a C dx:Addr} {fs Xh:List (Str×V)}
def Eh(hok:lF P w H h)(e:H a=some (.oQ C dx fs)):∃mA,Gh h a dx C mA/\(∀f,qQ (fs.lookup f) (mA f))/\PySem.Within mA (fs.map (·.1))/\fs.length<=1000/\H dx=some (.own a):=by
 obtain⟨d,z,ne,ob,mA,n,r,q⟩:=(hok a _ e);exact⟨mA,⟨ob,n,ne⟩,r,q,z,d⟩
end
def FX.get{K:W.Frag}{C:Addr}(c:FX K C)(f:Str):W.plainGet K C f=true:=c.pg
def jb.XJ{K:W.Frag}{C:Addr}{f:Str}(n:jb K C f):W.takerIn K C f=some none:=by
 unfold W.takerIn;rw[show W.findIn K (.ref C) f=some none from n]
 rfl
section
variable {X:Cx} {ae:List (Addr×Obj)} {σ:St} {H:Hp} {s:Shared} {a C dx:Addr} {fs:List (Str×V)} {f:Str} {v:V} {A:Around} {E:Value->Shared->Prop}
def Cu(I:Inv X ae σ H s)(e:H a=some (.oQ C dx fs))(c:FX X.K C)(n:jb X.K C f)(l:fs.lookup f=some v)
  (h:∀u s',Inv X ae σ H s'->RelV v u->Q u s'):wpAny (model X.prog X.w) A (getAttr (.ref a) f b) Q E s:=by
 obtain⟨mA,O,r,_,_,_⟩:=Eh I.hok e;obtain⟨u,hu,ru⟩:=qQ.Nj (by rw[<-l];exact r f)
 exact Nh I.qS O (c.get f) c.hd n hu (Gj ru) (h u _ (I.tok _) ru)
def Cv(I:Inv X ae σ H s)(e:H a=some (.oQ C dx fs))(c:FX X.K C)(n:jb X.K C f)(hl:fs.length<1000)(ry:RelV y u)
  (h:∀s',Inv X ae σ (cg H a (.oQ C dx (iD f y fs))) s'->Q () s'):wpAny (model X.prog X.w) A (setAttr (.ref a) f u) Q E s:=by
 obtain⟨mA,O,r,wi,_,ho⟩:=Eh I.hok e;have hz:(fs.map (·.1)).length<=sizeLine:=by rw[ak,sizeLine_eq];lia
 refine Ni I.qS O c.sa c.po n.XJ c.hd wi hz λh' O' sb=>h _ ?_
 have hd:∃o,h'.get? dx=some o:=let ⟨o,_,_,e',_⟩:=O'.ns;⟨o,e'⟩
 refine I.write (by rw[e];exact True.intro) (.inr ho) (λb q hb z=>(sb.2 b hb).trans z) hd ?_
 refine⟨by rw[aJ O.ne];exact ho,?_,O.ne,O'.obj,_,O'.ns,λg=>?_,λg hg=>?_⟩
 ·have:=oU f y fs;lia
 ·rw[oT];by_cases q:g=f
  ·rw[if_pos q,if_pos q];exact ry
  ·rw[if_neg q,if_neg q];exact r g
 ·by_cases q:g=f
  ·rw[q];exact(nY f y fs).1
  ·refine(nY f y fs).2 g (wi g λz=>hg ?_)
   show(if g=f then some u else mA g)=none
   rw[if_neg q];exact z
def Inv.made(I:Inv X ae σ H s):Inv X ae σ (cg (cg H s.heap.objs.size (.own (s.heap.objs.size+1))) (s.heap.objs.size+1) (.oQ C s.heap.objs.size []))
  {s with heap:=(s.heap.push W.emptyDict).push (W.instObj C s.heap.objs.size)}:=by
 have e1:(s.heap.push W.emptyDict).get? s.heap.objs.size=some W.emptyDict:=bX s.heap rfl;have e2:((s.heap.push W.emptyDict).push (W.instObj C s.heap.objs.size)).get? (s.heap.objs.size+1)=some (W.instObj C s.heap.objs.size):=by
  have:=bX (s.heap.push W.emptyDict) (o:=W.instObj C s.heap.objs.size) rfl
  rwa [nJ]at this
 have e3:(s.heap.push W.emptyDict).Ns s.heap.objs.size (λ_=>none):=⟨W.emptyDict,#[],_,e1,rfl,(λe he=>absurd he (by simp)),λ_=>rfl⟩
 have I1:=I.laid (o:=.own (s.heap.objs.size+1)) (t':=s.toks) (λb u q=>aZ _ q) (ay _) ⟨_,e1⟩
 refine I1.laid (t':=s.toks) (λb u q=>aZ _ q) (ja (nJ _ _)) ?_
 have ne:s.heap.objs.size≠s.heap.objs.size+1:=by grind
 refine⟨by rw[aJ ne,aA],dI _,ne,e2,λ_=>none,(Heap.Ns1.of_empty e3).at λo q=>aZ _ q,λ_=>True.intro,λy hy=>absurd rfl hy⟩
def Nk(hb:attributeBase e f env (eval e env)=eval e env)
  (h:wpAny (model prog w) A (eval e env) (λo s₁=>wpAny (model prog w) A (getAttr o f true) Q E s₁) E s):wpAny (model prog w) A (eval (.Attribute e f pos) env) Q E s :=
 Attribute_any_ h (by rw[arm_eval_Attribute,hb])
end
def acj(K:W.Frag)(ta:TE)(f:Str):TE:=λσ H Q=>ta σ H λx H1=>∃a C dx fs v,x=.ref a/\H1 a=some (.oQ C dx fs)/\FX K C/\jb K C f/\fs.lookup f=some v/\Q v H1
def ack(K:W.Frag)(ta tv:TE)(f:Str):TS:=λD σ H=>tv σ H λy H1=>ta σ H1 λx H2=>∃a C dx fs,x=.ref a/\H2 a=some (.oQ C dx fs)/\FX K C/\jb K C f/\fs.length<1000 /\
 D.nx σ (cg H2 a (.oQ C dx (iD f y fs)))
section
variable {X:Cx} {o e value:Expr} {f:Str} {pos ue Tn:Pos} {ta tv:TE}
def To(he:PE X e ta)(hb:attributeBase e f X.env (eval e X.env)=eval e X.env):PE X (.Attribute e f pos) (acj X.K ta f):=by
 intro ae s σ H Q I h;refine Nk hb (thn (he ae s σ H _ I h) λu s1 z9=>?_)
 obtain⟨x,H1,I1,rx,a,C,dx,fs,v,ex,ea,c,n,l,q⟩:=z9;subst ex;obtain rfl:u=Value.ref a:=rx;exact Cu I1 ea c n l λu' s2 I2 ru=>⟨v,H1,I2,ru,q⟩
def Tp(ha:PE X o ta)(hv:PE X value tv)(hs:swapsWith value (some (.Attribute o f ue)) pos.line X.env=pure false):PS X (.Assign [.Attribute o f ue] value pos) (ack X.K ta tv f):=by
 intro ae s σ H D I h;refine plainObj_wpAny_Assign_Attribute (thn (hv ae s σ H _ I h) λu s1 ⟨y,H1,I1,ry,q⟩=>thn (ha ae s1 σ H1 _ I1 q) λov s2 z9=>?_) hs
 obtain⟨x,H2,I2,rx,a,C,dx,fs,ex,ea,c,n,l,q2⟩:=z9;subst ex;obtain rfl:ov=Value.ref a:=rx;exact Cv I2 ea c n l ry λs3 I3=>⟨σ,_,I3,q2⟩
end
structure dG (k:Nat) (A:Around):Prop where
 hd:A.handled=none
 dp:A.depth+3*k+5<recursionLimit
 un:A.units+16*k+1200<cLine
def dG.mono(r:dG k A)(h:j<=k):dG j A:=⟨r.hd,by have:=r.dp;lia,by have:=r.un;lia⟩
def dG.deeper(r:dG (k+1) A)(env:Env):dG k (A.deeper env) :=
 ⟨r.hd,by have:=r.dp;show A.depth+1+3*k+5<_;lia,by have:=r.un;show A.units+3+16*k+1200<_;lia⟩
def Cw{A:Around}:(A.under (.builtin "type.__call__" ⟨.ref C::us,kw⟩)).depth=A.depth+1:=by
 first | rfl | simp[Around.under,Code.weight,Code.isCreation,Code.isGuard,Code.isCaller,Code.frames,Code.isFrame,guardIds]
def Cy{A:Around}:(A.under (.builtin "type.__call__" ⟨.ref C::us,kw⟩)).units=A.units+1:=by
 first | rfl | simp[Around.under,Code.cUnits,Code.frames,Code.isFrame]
def dG.make(r:dG (k+1) A)(C:Addr)(us:List Value)(kw:List (Str×Value)):dG k (A.under (.builtin "type.__call__" ⟨.ref C::us,kw⟩)) :=
 ⟨r.hd,by have:=r.dp;rw[Cw];lia,by have:=r.un;rw[Cy];lia⟩
def dG.depth(r:dG k A):A.depth<recursionLimit:=by have:=r.dp;lia
def acm:TA:=λ_ H Q=>Q [] H
def XM(ta:TE)(tr:TA):TA:=λσ H Q=>ta σ H λx H1=>tr σ H1 λxs H2=>Q (x::xs) H2
section
variable {X:Cx} {e:Expr} {es:List Expr} {te:TE} {t:TA} {pos:Pos}
def nZ:PA X [] acm:=λ_ _ _ _ H Q I h=>Calls.spliced_nil ⟨[],H,I,.nil,h⟩
def hJ(ha:PE X e te)(hr:PA X es t)(hs:starEach (e::es) X.env=(false,eval e X.env)::starEach es X.env:=by rfl):PA X (e::es) (XM te t):=by
 intro pos ae s σ H Q I h;rw[hs];refine Calls.spliced_cons (thn (ha ae s σ H _ I h) λu s1 ⟨x,H1,I1,r1,q1⟩=>?_)
 exact thn (hr pos ae s1 σ H1 _ I1 q1) (by rintro us s2 ⟨xs,H2,I2,r2,q2⟩;exact⟨x::xs,H2,I2,.cons r1 r2,q2⟩)
def acn(t:TA):TE:=λσ H Q=>t σ H λxs H1=>xs.length<=sizeLine/\∀p,H1 p=none->Q (.ref p) (cg H1 p (.ao xs))
def aco(t:TA):TE:=λσ H Q=>t σ H λxs H1=>xs.length<=sizeLine/\∀p,H1 p=none->Q (.ref p) (cg H1 p (.lst xs))
def Tq{x1}(h:PA X es t):PE X (.Tuple es x1 pos) (acn t):=by
 intro ae s σ H Q I hq;refine wpAny_Tuple_spliced (thn (h pos ae s σ H _ I hq) λus s1 ⟨xs,H1,I1,r,z,q⟩=>⟨by rw[<-r.length];exact z,?_⟩)
 have hf:=I1.hok.fresh (ay _);refine⟨.ref s1.heap.objs.size,cg H1 s1.heap.objs.size (.ao xs),I1.laid (λb u e=>aZ _ e) (ay _) ?_,rfl,q _ hf⟩
 exact⟨z,us,r,⟨_,bX _ rfl,rfl,_,rfl⟩⟩
def Jd(h:PA X es t):PE X (.List es pos) (aco t):=by
 intro ae s σ H Q I hq;refine wpAny_List_spliced (thn (h pos ae s σ H _ I hq) λus s1 ⟨xs,H1,I1,r,z,q⟩=>⟨by rw[<-r.length];exact z,?_⟩)
 have hf:=I1.hok.fresh (ay _);refine⟨.ref s1.heap.objs.size,cg H1 s1.heap.objs.size (.lst xs),I1.laid (λb u e=>aZ _ e) (ay _) ?_,rfl,q _ hf⟩
 exact⟨z,us,0,r,bX _ rfl⟩
end
abbrev Sp:=List V->Hp->VK->XK->Prop
abbrev HS:=List Env->Hp->Shared->XK->Value->Shared->Prop
structure Env0 (P:Program) (w:World) (K:W.Frag) (mg:Str->Option Value) (base:Heap) (A:Around) (ax:List Env) (s:Shared) (H:Hp):Prop where
 frames:A.frames=some ax
 mod:Mod K mg base
 bs:∀b o,base.get? b=some o->s.heap.get? b=some o/\H b=none
 bsz:base.objs.size<=s.heap.objs.size
 funs:s.heap.FunFrames base ax
 frf:∀b∈nW ax,H b=none
 hok:lF P w H s.heap
 bare:AllBare s.gens
 tabs:qR K H
def CE(ax:List Env)(P:Program)(w:World)(H:Hp)(s:Shared)(Q:VK)(u:Value)(s':Shared):Prop :=
 ∃v H',s'.os=s.os/\AllBare s'.gens/\Un (nW ax) [] H H' s.heap s'.heap/\lF P w H' s'.heap/\RelV v u/\Q v H'
def CR(CX:HS)(ax:List Env)(P:Program)(w:World)(H:Hp)(s:Shared)(Q:VK)(E:XK)(r:Result)(s':Shared):Prop :=
 match r with
 | .ok (.ret u)=>CE ax P w H s Q u s'
 | .ok _=>False
 | .error e=>CX ax H s E e s'
structure FnOk (P:Program) (w:World) (K:W.Frag) (mg:Str->Option Value) (base:Heap) (CX:HS) (k:Nat) (f:Addr) (fd:FuncData) (ps:List Str) (sp:Sp):Prop where
 len:∀vs H Q E,sp vs H Q E->vs.length=ps.length
 run:∀(A:Around) (ax:List Env) (s:Shared) (H:Hp) (args:Args) (us:List Value) (vs:List V) (Q:VK) (E:XK),dG k A->Env0 P w K mg base A ax s H->BindsTo s fd args (ps.zip us)->Vals vs us->sp vs H Q E ->
  codeAny (model P w) A (.call (.ref f) args) (CR CX ax P w H s Q E) s
def Env0.make{P:Program}{w:World}{K:W.Frag}{mg:Str->Option Value}{base:Heap}{A:Around}{ax:List Env}{s:Shared}{H:Hp}(e:Env0 P w K mg base A ax s H)(C:Addr)(us:List Value)(kw:List (Str×Value)) :
  Env0 P w K mg base (A.under (.builtin "type.__call__" ⟨.ref C::us,kw⟩)) ax s H:=⟨by first | exact e.frames | (simpa[Around.under,Code.envs,Code.isFrame,pushEnvs]using e.frames),e.mod,e.bs,e.bsz,e.funs,e.frf,e.hok,e.bare,e.tabs⟩
section
variable {X:Cx} {ae:List (Addr×Obj)} {σ:St} {H:Hp} {s s':Shared}
def Inv.Nl(I:Inv X ae σ H s):Env0 X.prog X.w X.K X.mg X.base X.A X.stack s H :=
 ⟨I.ok.frames,I.ok.mod,I.bs,bA I.ok.bsz I.sz,I.stack,I.wI,I.hok,I.bare,I.tabs⟩
def Inv.after(I:Inv X ae σ H s)(h:CE X.stack X.prog X.w H s Q u s'):EP X ae σ Q u s':=by
 obtain⟨v,H',os,bare,un,hok,r,q⟩:=h;obtain⟨hh,g,d,t,Ts⟩:=s';obtain rfl:Ts=s.os:=os;exact⟨v,H',I.call un hok bare (λb z=>absurd z (by simp)),r,q⟩
end
def QE(C:Addr)(sp:Sp)(PZ:List V)(E:XK)(t:TA):TE:=λσ H Q=>t σ H λvs H1=>∀x dx,H1 x=none->H1 dx=none->dx≠x ->
 sp (.ref x::(vs++PZ)) (cg (cg H1 dx (.own x)) x (.oQ C dx [])) (λv H2=>v=.bB/\Q (.ref x) H2) E
def gz(K:W.Frag)(fd:FuncData)(ps:List Str)(ds:List Value):Prop :=
 ∀(s:Shared) (us:List Value),K.In s.heap->(us++ds).length=ps.length->BindsTo s fd ⟨us,[]⟩ (ps.zip (us++ds))
def gz.all{K:W.Frag}{fd:FuncData}{ps:List Str}(h:∀us:List Value,us.length=ps.length->bindArgs fd ⟨us,[]⟩=pure (ps.zip us)):gz K fd ps []:=λs us _ hl=>by
 rw[dq]at hl ⊢;exact .of_eq (h us hl)
def Cz(CX:HS)(X:Cx)(E:XK):Prop:=∀(ae:List (Addr×Obj)) (σ:St) (H:Hp) (s:Shared) (e:Value) (s':Shared),Inv X ae σ H s->CX X.stack H s E e s'->X.xe e s'
section
variable {X:Cx} {CX:HS} {k:Nat} {f C:Addr} {fd:FuncData} {ps:List Str} {sp:Sp} {PZ:List V} {ds:List Value} {E:XK} {x m:Str} {p pos qN:Pos} {e o:Expr} {es:List Expr} {ta:TE} {t:TA}
def Je{ae:List (Addr×Obj)}{σ:St}{H:Hp}{s:Shared}{Q:VK}{us:List Value}{vs:List V}(M:Mk X.K C f)(F:FnOk X.prog X.w X.K X.mg X.base CX k f fd ps sp)(hr:dG (k+1) X.A)(hb:gz X.K fd ps ds)(hd:Vals PZ ds)
  (hx:Cz CX X E) (I:Inv X ae σ H s) (r:Vals vs us)
  (h:∀x dx,H x=none->H dx=none->dx≠x->sp (.ref x::(vs++PZ)) (cg (cg H dx (.own x)) x (.oQ C dx [])) (λv H2=>v=.bB/\Q (.ref x) H2) E) :
  wpAny (model X.prog X.w) X.A (call (.ref C) us) (EP X ae σ Q) X.xe s:=by
 have hq:=h (s.heap.objs.size+1) s.heap.objs.size (I.hok.fresh (Nat.le_succ _)) (I.hok.fresh (ay _)) (bI (qF _));have I2:=Inv.made (C:=C) I;have r2:Vals (V.ref (s.heap.objs.size+1)::(vs++PZ)) (Value.ref (s.heap.objs.size+1)::(us++ds)):=.cons rfl (r.append hd);have hl:(Value.ref (s.heap.objs.size+1)::us++ds).length=ps.length:=by
  have e:=r2.length;rw[F.len _ _ _ _ hq]at e;exact e.symm
 refine qL (Jc I.qS M.makes M.init (qM.mp M.fn) (jV (F.run _ X.stack _ _ ⟨Value.ref (s.heap.objs.size+1)::us,[]⟩ (Value.ref (s.heap.objs.size+1)::(us++ds)) _ _ E (hr.make C us [])
  (I2.Nl.make C us []) (hb _ (Value.ref (s.heap.objs.size+1)::us) I2.qS hl) r2 hq) λr s' wL=>?_))
 cases r with
 | error e=>exact hx ae σ _ _ e s' I2 wL
 | ok fl =>
  cases fl with
  | ret u =>
   obtain⟨v,H',I3,rv,ev,q3⟩:=I2.after wL;subst ev;exact⟨rv,⟨V.ref (s.heap.objs.size+1),H',I3,rfl,q3⟩⟩
  | next=>exact False.elim wL
  | brk=>exact False.elim wL
  | cont=>exact False.elim wL
def Nn(M:Mk X.K C f)(F:FnOk X.prog X.w X.K X.mg X.base CX k f fd ps sp)(hr:dG (k+1) X.A)(hg:Gl X x)(hm:X.mg x=some (.ref C))(hb:gz X.K fd ps ds)(hd:Vals PZ ds)(hx:Cz CX X E)
  (ha:PA X (e::es) t) (Np:(x==("__debug__":Str))=false:=by decide) (he:starEach (e::es) X.env=(false,eval e X.env)::starEach es X.env:=by rfl) (l8:(backTo pos (starEach es X.env)).any (·.1)=false:=by rfl) :
  PE X (.Call (.Name x p) (e::es) [] pos) (QE C sp PZ E t):=by
 intro ae s σ H Q I h;refine iY (ld_glob I hg hm ?_ Np);refine W.callWith_K I.ok.mod.kin M.kp (thn (ha pos ae s σ H _ I h) λus s1 ⟨vs,H1,I1,r,q⟩=>⟨I1.qS,?_⟩) he l8
 exact Je M F hr hb hd hx I1 r q
end
theorem uT{kindOf:Str->Option NameKind}:∀{yZ:List (Str×Value)} {m:Str->Option Value},(∀v,(x,v)∉yZ)->bindL kindOf yZ m x=m x
 | [],_,_=>rfl
 | (n,v)::r,m,h=>by
  unfold bindL;rw[uT λw hw=>h w (aF _ hw)]
  split
  ·grind
  ·rfl
theorem uU{kindOf:Str->Option NameKind}:∀{yZ:List (Str×Value)} {m:Str->Option Value},(∀v,(x,v)∉yZ)->bindC kindOf yZ m x=m x
 | [],_,_=>rfl
 | (n,v)::r,m,h=>by
  unfold bindC;rw[uU λw hw=>h w (aF _ hw)]
  split
  ·rfl
  ·grind
theorem uV{kindOf:Str->Option NameKind}:∀{P:List Str} {vs:List Value} {i:Nat} {m:Str->Option Value},P.Nodup->P[i]?=some x->vs[i]?=some v->kindOf x=some .local ->
  bindL kindOf (P.zip vs) m x=some v
 | [],_,_,_,_,h,_,_=>by simp at h
 | _::_,[],_,_,_,_,h,_=>by simp at h
 | p::P,w::vs,0,m,nd,h1,h2,hk=>by
  simp at h1 h2;subst h1;subst h2;show bindL kindOf ((p,w)::P.zip vs) m p=_;unfold bindL;rw[uT λv hv=>(gJ.mp nd).1 (we hv).1,if_pos hk]
  simp
 | p::P,w::vs,i+1,m,nd,h1,h2,hk=>by
  unfold bindL;exact uV (gJ.mp nd).2 (by simpa using h1) (by grind) hk
theorem uW{kindOf:Str->Option NameKind}:∀{P:List Str} {vs:List Value} {i:Nat} {m:Str->Option Value},P.Nodup->P[i]?=some x->vs[i]?=some v->kindOf x≠some .local ->
  bindC kindOf (P.zip vs) m x=some v
 | [],_,_,_,_,h,_,_=>by simp at h
 | _::_,[],_,_,_,_,h,_=>by simp at h
 | p::P,w::vs,0,m,nd,h1,h2,hk=>by
  simp at h1 h2;subst h1;subst h2;show bindC kindOf ((p,w)::P.zip vs) m p=_;unfold bindC;rw[uU λv hv=>(gJ.mp nd).1 (we hv).1,if_neg hk]
  simp
 | p::P,w::vs,i+1,m,nd,h1,h2,hk=>by
  unfold bindC;exact uW (gJ.mp nd).2 (by simpa using h1) (by grind) hk
noncomputable def start(N:List Str)(vs:List V):St:=vs.map some++List.replicate (N.length-vs.length) none
noncomputable def fg(CX:HS)(P:Program)(w:World)(K:W.Frag)(mg:Str->Option Value)(base:Heap)(N:List Str)(qual:Str)(scope:Scope)(f:Addr)(cd:Value)(A:Around)(ax:List Env)(s:Shared)(H:Hp)(E:XK):Cx where
 prog:=P
 w:=w
 K:=K
 mg:=mg
 base:=base
 A:=A.deeper (envOfC qual scope s.heap.objs.size f cd)
 N:=N
 s₀:=s
 aa:=H
 env:=envOfC qual scope s.heap.objs.size f cd
 ax:=ax
 stack:=envOfC qual scope s.heap.objs.size f cd::ax
 ex:=[]
 calm:=true
 fn:=λ_=>true
 pn:=[]
 xe:=λe s'=>wpAny (model P w) (A.deeper (envOfC qual scope s.heap.objs.size f cd)) (leaving (envOfC qual scope s.heap.objs.size f cd) e) (λ_ Jf=>CX ax H s E e Jf) (λe' Jf=>CX ax H s E e' Jf) s'
def y0{sc:Scope}(h:sc.names.lookup x=some .cell):∃c,(cellsFrom n sc.names []).lookup x=some c:=by
 have q:=W.cellsFrom_some sc.names n [] (.inl h);exact Option.isSome_iff_exists.mp q
def uX{CX:HS}{P:Program}{w:World}{K:W.Frag}{mg:Str->Option Value}{base:Heap}{N ps:List Str}{qual:Str}{scope:Scope}{f:Addr}{cd:Value}{A:Around}{ax:List Env}{s s1:Shared}{H:Hp}{E:XK}{us:List Value}{vs:List V}
  (S:dD N ps scope) (hd:A.handled=none) (e0:Env0 P w K mg base A ax s H) (hl:vs.length=ps.length) (r:Vals vs us)
  (x:InCallC s s.heap.objs.size (bindL (envOfC qual scope s.heap.objs.size f cd).kindOf (ps.zip us) λ_=>none) (cellsFrom (s.heap.objs.size+1) scope.names []) (bindC (envOfC qual scope s.heap.objs.size f cd).kindOf (ps.zip us) λ_=>none) s1) :
  Inv (fg CX P w K mg base N qual scope f cd A ax s H E) [] (start N vs) H s1:=by
 have l8:ps.length<=N.length:=by have:=dB List.length S.pre;rw[lr]at this;lia
 obtain⟨h1,tk,rfl,hk⟩:=x.done;have noA:∀b:Addr,b∉(fg CX P w K mg base N qual scope f cd A ax s H E).ex:=λb z=>absurd (show b∈([]:List Addr)from z) (by simp)
 refine⟨⟨e0.mod,S.kind,rfl,rfl,ay _,λy z c h1 h2=>?_,λy hy=>?_,λy c _ h=>?_,λ_=>hd,Around.frames_deeper e0.frames,.inr ⟨rfl,rfl⟩,λb z=>absurd z (noA b),e0.bs,e0.bsz,λb _ _=>noA b,λb z=>absurd z (noA b),e0.funs,e0.frf,e0.tabs⟩,
  rfl,e0.bare,Un.kept hk,⟨_,x.toInCall.ns,λi y v h1 h2 h3=>?_⟩,λy c h=>⟨_,x.cell y c h⟩,e0.hok.fresh (ay _),λy c h=>?_,λp hp=>absurd (show p∈([]:List (Addr×Obj))from hp) (by simp),e0.hok.kept hk,?_⟩
 ·exact name_of_addr x.apart (ej h1) (ej h2)
 ·have hy:=hy;rcases hy with hy | hy
  ·exact y0 hy
  ·exact absurd rfl (S.nofree _ (ej hy))
 ·exact i9 (x.above y c (ej h))
 ·have hi:i<vs.length:=by
   unfold start at h2;by_cases hi:i<vs.length
   ·exact hi
   ·grind
  have ha:vs[i]?=some v:=by
   unfold start at h2;rw[fJ (by grind),bH]at h2
   cases e:vs[i]? with
   | none=>rw[e]at h2;cases h2
   | some a=>rw[e]at h2;cases h2;rfl
  obtain⟨u,hu,rv⟩:=r.get ha;have hp:ps[i]?=some y:=by
   rw[<-S.pre,List.getElem?_take_of_lt (by lia)];exact h1
  have ndP:ps.Nodup:=by rw[<-S.pre];exact S.nd.sublist (List.take_sublist _ _)
  refine⟨u,rv,?_⟩;rcases S.par y (dm hp)with k | k
  ·exact .inl ⟨k,uV ndP hp hu k⟩
  ·obtain⟨c,e⟩:=y0 k;refine .inr ⟨.inl k,c,e,?_⟩;have q:=x.cell y c e;rw[uW ndP hp hu (by show scope.names.lookup y≠_;rw[k];decide)]at q
   exact q
 ·exact e0.hok.fresh (i9 (x.above y c (ej h)))
 ·unfold start;show _=N.length;rw[aR,ak,BM]
  lia
def Jg{CX:HS}{P:Program}{w:World}{K:W.Frag}{mg:Str->Option Value}{base:Heap}{k:Nat}{f:Addr}{name qual:Str}{pq9:Arguments}{body:List Stmt}{scope:Scope}{dV kV doc pm cS ct oc:Value}{an od:Option Addr}
  {yB:Array (Option Value)} {N ps:List Str} {sp:Sp} (lk:K.lookup f=some ⟨oc,od,.func (W.fnOf name qual pq9 body scope dV kV doc pm an cS ct),yB⟩) (Eb:W.codeIn K cS qual=true) (S:dD N ps scope)
  (len:∀vs H Q E,sp vs H Q E->vs.length=ps.length)
  (hbody:∀(A:Around) (ax:List Env) (s:Shared) (H:Hp) (vs:List V) (Q:VK) (E:XK),dG k (A.deeper (envOfC qual scope s.heap.objs.size f cS))->sp vs H Q E ->
   ∃t,PSs (fg CX P w K mg base N qual scope f cS A ax s H E) body t/\t {nx:=λ_ H'=>Q .bB H',rt:=Q} (start N vs) H) :
  FnOk P w K mg base CX (k+1) f (W.fnOf name qual pq9 body scope dV kV doc pm an cS ct) ps sp:=by
 refine⟨len,λA ax s H args us vs Q E hr e0 hb r Nq=>?_⟩
 have hl:=len _ _ _ _ Nq;have KX:=e0.mod.kin.keeps λb o e=>(e0.bs b o e).1
 have lim:=e0.mod.nolimit.keeps λb o e=>(e0.bs b o e).1
 have XO:∀y∈ps.zip us,scope.names.lookup y.1=some .local\/(scope.names.lookup y.1=some .cell/\((cellsFrom (s.heap.objs.size+1) scope.names []).lookup y.1).isSome=true):=by
  rintro⟨n,v⟩ hy
  rcases S.par n (we hy).1 with q | q
  ·grind
  ·exact .inr ⟨q,W.cellsFrom_some _ _ _ (.inl q)⟩
 refine codeAny_call_function hr.depth (KX _ _ lk) rfl S.co S.gen rfl (W.codeRec_of KX Eb) (hb _ _ _ _ ?_);refine Im S.kind XO λenv he s1 x=>?_
 subst he;refine⟨lim.keeps x.toInCall.keep,codeAny_func ?_⟩;obtain⟨t,ht,hq⟩:=hbody A ax s H vs Q E (hr.deeper _) Nq;have I:Inv (fg CX P w K mg base N qual scope f cS A ax s H E) [] (start N vs) H s1:=uX S hr.hd e0 hl r x;refine jX (ht [] s1 (start N vs) H _ I hq) (λfl s' hs=>?_) λe s' hs=>hs
 have jI:∀{bG:St} {H':Hp} {v:V} {u:Value},Inv (fg CX P w K mg base N qual scope f cS A ax s H E) [] bG H' s'->RelV v u->Q v H'->CE ax P w H s Q u s' :=
  λ{bG H' v u} J rv q=>⟨v,H',J.os,J.bare,J.base,J.hok,rv,q⟩
 cases fl with
 | ret u =>
  obtain⟨v,bG,H',J,rv,q⟩:=hs;exact jI J rv q
 | next =>
  obtain⟨bG,H',J,q⟩:=hs;exact jI (v:=V.bB) J rfl q
 | brk =>
  obtain⟨_,_,_,q⟩:=hs;exact False.elim q
 | cont =>
  obtain⟨_,_,_,q⟩:=hs;exact False.elim q
section
variable {X:Cx} {x:Str} {p pos:Pos} {e:Expr} {es:List Expr} {t:TA} {id T:String} {r:List V->Hp->VK->Prop}
def tCB(r:List V->Hp->VK->Prop)(t:TA):TE:=λσ H Q=>t σ H λvs H1=>r vs H1 Q
def qY(hc:l7 X (.builtin id) r)(hg:Gl X x)(hm:X.mg x=none)(hv:bootBuiltins x=some (.builtin id))(ha:PA X (e::es) t)(hn:x≠"__name__":=by decide)(Np:(x==("__debug__":Str))=false:=by decide)
  (he:starEach (e::es) X.env=(false,eval e X.env)::starEach es X.env:=by rfl) (l8:(backTo pos (starEach es X.env)).any (·.1)=false:=by rfl):PE X (.Call (.Name x p) (e::es) [] pos) (tCB r t):=by
 intro ae s σ H Q I h;refine iY (ld_blt I hg hm hv ?_ hn Np);exact Ig (thn (ha pos ae s σ H _ I h) (by rintro us s1 ⟨vs,H1,I1,r1,q1⟩;exact hc ae s1 σ H1 vs us Q I1 r1 q1)) he l8
def n6(hc:l7 X (.type T) r)(hg:Gl X x)(hm:X.mg x=none)(hv:bootBuiltins x=some (.type T))(ha:PA X (e::es) t)(hn:x≠"__name__":=by decide)(Np:(x==("__debug__":Str))=false:=by decide)
  (he:starEach (e::es) X.env=(false,eval e X.env)::starEach es X.env:=by rfl) (l8:(backTo pos (starEach es X.env)).any (·.1)=false:=by rfl):PE X (.Call (.Name x p) (e::es) [] pos) (tCB r t):=by
 intro ae s σ H Q I h;refine iY (ld_blt I hg hm hv ?_ hn Np);exact il (thn (ha pos ae s σ H _ I h) (by rintro us s1 ⟨vs,H1,I1,r1,q1⟩;exact hc ae s1 σ H1 vs us Q I1 r1 q1)) he l8
end
end L2
namespace HT
open PySem PyProof.Rows
section
variable {prog:Program} {w:World} {A:Around} {E:Value->Shared->Prop} {s:Shared}
def Ei(ht:IsTup s.heap t vs.toArray)(hb:IsTup s.heap b ws.toArray)(hv:vs≠[])
  (h1:ws=[]->Q (.ref t) s) (h2:ws≠[]->Q (.ref s.heap.objs.size) {s with heap:=s.heap.push {cls:=.type "tuple",data:=.seq (vs++ws).toArray}})
  (hsz:vs.length+ws.length<=sizeLine):wpAny (model prog w) A (binaryOp .Add (.ref t) (.ref b)) Q E s:=by
 obtain⟨⟨cls,dd,data,sl⟩,ho,hc,n,hd⟩:=id ht;obtain⟨⟨acr,dd2,XQ,sl2⟩,ho2,QF,n2,XR⟩:=id hb;simp only at hc hd QF XR;subst hc hd QF XR;have e:vs.toArray++ws.toArray=(vs++ws).toArray:=by simp
 by_cases hw:ws=[]
 ·exact concat_meets ⟨_,ho,rfl⟩ ⟨_,ho2,rfl⟩ B5 seq_tuple_add BF BC (BA _ _)
   (tuple_addW1 t b vs.toArray ws.toArray n n2 dd dd2 sl sl2 (by grind) (by simp[hw])) ⟨ho,ho2,h1 hw⟩
 ·refine concat_meets ⟨_,ho,rfl⟩ ⟨_,ho2,rfl⟩ B5 seq_tuple_add BF BC (BA _ _)
   (tuple_addW2 t b vs.toArray ws.toArray n n2 dd dd2 sl sl2 (by grind) (by grind) (by grind)) ⟨ho,ho2,?_⟩
  rw[e];exact h2 hw
noncomputable def eH(n d:Nat):Option Int->Nat
 | none=>d
 | some v=>if v<0 then(v+(n:Int)).toNat else min v.toNat n
def y8(n d:Nat):eH n d none=d:=rfl
def wM(n d k:Nat):eH n d (some (k:Int))=min k n:=by
 show(if(k:Int)<0 then((k:Int)+(n:Int)).toNat else min (k:Int).toNat n)=min k n
 rw[if_neg (by lia),er]
def Tt(n d:Nat)(hd:d<=n)(o:Option Int):eH n d o<=n:=by
 cases o with
 | none=>exact hd
 | some v =>
  show(if v<0 then(v+(n:Int)).toNat else min v.toNat n)<=n
  by_cases hv:v<0
  ·grind
  ·grind
def Ej(v:Int)(n d:Nat):(if v<0 then max (v+(n:Int)) 0 else min v (n:Int))=((eH n d (some v):Nat):Int):=by
 show(if v<0 then max (v+(n:Int)) 0 else min v (n:Int))=(((if v<0 then(v+(n:Int)).toNat else min v.toNat n):Nat):Int)
 by_cases hv:v<0
 ·grind
 ·grind
def CB(lo hi:Option Int)(n:Nat):Builtin.Slice.sliceAdjust lo hi 1 (n:Int)=(((eH n 0 lo:Nat):Int),((eH n n hi:Nat):Int)):=by
 have h1:¬(1<0):=by lia
 unfold Builtin.Slice.sliceAdjust;simp only[h1,gu];refine Prod.ext ?_ ?_
 ·cases lo with
  | none=>rfl
  | some v=>exact Ej v n 0
 ·cases hi with
  | none=>rfl
  | some v=>exact Ej v n n
def CD(i j:Nat):Builtin.Slice.slicePlaces (i:Int) (j:Int) 1=j-i:=by
 unfold Builtin.Slice.slicePlaces;have h1:1>0:=by lia
 simp only[h1,jY,Int.ediv_one];split<;>lia
def qZ(p:IsPart v o)(h:Q o s):wpAny (model prog w) A (Builtin.Slice.slicePartIndex v) Q E s:=by
 cases p with
 | none=>exact slicePart_none h
 | int i t=>exact slicePart_int h
def iE{vl vu:Value}{lo hi:Option Int}{n:Nat}{Q:Int×Int×Nat->Shared->Prop}(hs:s.heap.IsSliceOf sl vl vu .none)(pl:IsPart vl lo)(pu:IsPart vu hi)
  (h:Q (((eH n 0 lo:Nat):Int),1,eH n n hi-eH n 0 lo) s):wpAny (model prog w) A (Builtin.Slice.sliceApplied (.ref sl) (pure (n:Int))) Q E s:=by
 obtain⟨os,Mr,WI,XS⟩:=id hs;unfold Builtin.Slice.sliceApplied Builtin.Slice.sliceFields;refine af (af (jW Mr XS rfl (af (jW Mr XS rfl (af (jW Mr XS rfl (aj ?_)))))));refine af (slicePart_none ?_);rw[if_neg (by decide)]
 refine af (qZ pl (af (qZ pu (af (aj ?_)))));show wpAny _ _ (match Builtin.Slice.sliceAdjust lo hi 1 (n:Int)with | (lo,hi)=>pure (lo,(1:Int),Builtin.Slice.slicePlaces lo hi 1)) _ _ s
 rw[CB lo hi n];show wpAny _ _ (pure (((eH n 0 lo:Nat):Int),(1:Int),Builtin.Slice.slicePlaces ((eH n 0 lo:Nat):Int) ((eH n n hi:Nat):Int) 1)) _ _ s;rw[CD];exact aj h
def Jh(xs:Array Value)(i k:Nat):((List.range k).filterMap fun(m:Nat)=>xs[((i:Int)+(m:Int)*1).toNat]?).toArray=((xs.toList.drop i).take k).toArray:=by
 have e:(fun(m:Nat)=>xs[(i+(m:Int)*1).toNat]?)=λm=>xs[i+m]?:=by
  grind
 rw[e];have:=pick_run xs i k;rw[List.filterMap_map]at this;have e2:((λx=>xs[x]?) ∘ λx=>i+x)=λm=>xs[i+m]?:=rfl
 rw[e2]at this;rw[this]
def l9{items:Array Value}{vl vu:Value}{lo hi:Option Int}{Q:Value->Shared->Prop}(ht:IsTup s.heap t items)(hs:s.heap.IsSliceOf sl vl vu .none)(pl:IsPart vl lo)(pu:IsPart vu hi)
  (hw:¬(eH items.size 0 lo=0/\eH items.size items.size hi=items.size))
  (h:Q (.ref s.heap.objs.size) {s with heap:=s.heap.push {cls:=.type "tuple",data:=.seq ((items.toList.drop (eH items.size 0 lo)).take (eH items.size items.size hi-eH items.size 0 lo)).toArray}})
  (hsz:items.size<=sizeLine):wpAny (model prog w) A (getItem (.ref t) (.ref sl)) Q E s:=by
 have El:sizeOk (.seq ((items.toList.drop (eH items.size 0 lo)).take (eH items.size items.size hi-eH items.size 0 lo)).toArray):=by
  show((items.toList.drop (eH items.size 0 lo)).take (eH items.size items.size hi-eH items.size 0 lo)).toArray.size<=sizeLine;rw[eS,lr,List.length_drop,jQ]
  lia
 have hj:eH items.size items.size hi<=items.size:=Tt _ _ (ay _) hi;obtain⟨os,Mr,WI,XS⟩:=id hs;have Gk:s.TypeIs (.ref sl) "slice":=⟨os,Mr,WI⟩;unfold getItem
 try with_reducible refine ez ?_
 first | refine af (aj ?_) | skip
 refine af (wpAny_sequenceKey ht.typeIs (by decide) ?_)
 refine af (iV ht.typeIs nv
  (fN nv ht.typeIs entry_tuple_getitem ?_ (args_tuple_getitem _ _)))
 show wpAny _ _ (Builtin.Tuple.tupleItemsOf (.ref t) >>= _) _ _ s;refine af (tupleItemsOf_ ht ?_);refine af (nM Gk ?_);rw[if_pos (by decide)]
 refine af (iE hs pl pu ?_);have XT:¬((((eH items.size 0 lo:Nat):Int)==0&&(1:Int)==1&&(eH items.size items.size hi-eH items.size 0 lo)==items.size)=true):=by
  grind
 show wpAny _ _ (if(((eH items.size 0 lo:Nat):Int)==0&&(1:Int)==1&&(eH items.size items.size hi-eH items.size 0 lo)==items.size)=true then _ else _) _ _ s
 rw[if_neg XT,Jh]
 first
  | exact af (m:=Builtin.Tuple.tupleExact _) (fM (aj ⟨_,rfl,aj h⟩) El)
  | exact af (m:=Builtin.Tuple.tupleExact _) (fM (af (aj (aj ⟨_,rfl,aj h⟩))) El)
  | exact af (af (m:=Builtin.Tuple.tupleExact _) (fM (aj (aj ⟨_,rfl,aj h⟩)) El))
  | exact af (af (m:=Builtin.Tuple.tupleExact _) (fM (aj ⟨_,rfl,aj h⟩) El))
end
end HT
namespace L2
open PySem PySem.Spec PyProof.Rows
abbrev TO:=St->Hp->(Option Int->Hp->Prop)->Prop
def PO(X:Cx)(e:Option Expr)(t:TO):Prop :=
 ∀(ae:List (Addr×Obj)) (s:Shared) (σ:St) (H:Hp) (Q:Option Int->Hp->Prop),Inv X ae σ H s->t σ H Q ->
  wpAny (model X.prog X.w) X.A (evalPart e X.env) (λu s'=>∃o H',Inv X ae σ H' s'/\IsPart u o/\Q o H') X.xe s
def Nr:TO:=λ_ H Q=>Q none H
def XU(t:TE):TO:=λσ H Q=>t σ H λx H1=>∃i,x=.int i/\Q (some i) H1
def q8:∀{us:List Value},Vals (ns.map V.int) us->IntsAre us ns:=by
 induction ns with
 | nil=>intro us r;rw[nL]at r;cases r;exact .nil
 | cons n ns ih =>
  intro us r;rw[aI]at r;cases r with
  | cons r1 r2 =>
   obtain⟨t,e⟩:=r1;subst e;exact .cons n t (ih r2)
section
variable {X:Cx} {e:Expr} {te:TE} {lo hi:Option Expr} {tl th:TO} {pos p2:Pos}
def Nt:PO X none Nr:=by
 intro ae s σ H Q I h;rw[evalPart_none];exact aj ⟨none,H,I,.none,h⟩
def Nu(h:PE X e te):PO X (some e) (XU te):=by
 intro ae s σ H Q I hw;rw[evalPart_some];refine thn (h ae s σ H _ I hw) λu s1 ⟨x,H1,I1,r1,q1⟩=>?_
 obtain⟨i,rfl,q⟩:=q1;obtain⟨t,rfl⟩:=r1;exact⟨some i,H1,I1,.int i t,q⟩
def SlR(X:Cx)(r:V->Option Int->Option Int->Hp->VK->Prop):Prop :=
 ∀(ae:List (Addr×Obj)) (s:Shared) (σ:St) (H:Hp) (x:V) (v vl vu:Value) (lo hi:Option Int) (sl:Addr) (Q:VK),Inv X ae σ H s->RelV x v->s.heap.IsSliceOf sl vl vu .none->IsPart vl lo->IsPart vu hi->r x lo hi H Q ->
  ∃T id,typeLookup (.type T) "__getitem__"=pure (some (.builtin id))/\s.TypeIs v T/\wpAny (model X.prog X.w) X.A (getItem v (.ref sl)) (EP X ae σ Q) X.xe s
def tSl(r:V->Option Int->Option Int->Hp->VK->Prop)(te:TE)(tl th:TO):TE:=λσ H Q=>te σ H λx H1=>tl σ H1 λl H2=>th σ H2 λu H3=>r x l u H3 Q
def Ji{r:V->Option Int->Option Int->Hp->VK->Prop}(hr:SlR X r)(he:PE X e te)(hl:PO X lo tl)(hu:PO X hi th):PE X (.Subscript e (.Slice lo hi none p2) pos) (tSl r te tl th):=by
 intro ae s σ H Q I h;refine Subscript_ (thn (he ae s σ H _ I h) λv s1 ⟨x,H1,I1,r1,q1⟩=>?_)
 refine wpAny_Slice (thn (hl ae s1 σ H1 _ I1 q1) λvl s2 ⟨l,H2,I2,pl,q2⟩=>thn (hu ae s2 σ H2 _ I2 q2) λvu s3 ⟨u,H3,I3,pu,q3⟩=>?_)
 rw[evalPart_none];refine aj ?_;have I4:Inv X ae σ H3 {s3 with heap:=s3.heap.push {cls:=.type "slice",data:=.fields #[vl,vu,.none]}}:=I3.kept λb ob q=>aZ _ q
 obtain⟨T,id,hT,ht,hg⟩:=hr ae {s3 with heap:=s3.heap.push {cls:=.type "slice",data:=.fields #[vl,vu,.none]}} σ H3 x v vl vu l u s3.heap.objs.size Q I4 r1 (Heap.IsSliceOf.new ..) pl pu q3
 show wpAny (model X.prog X.w) X.A (subscriptTail e (.Slice lo hi none p2) v (.ref s3.heap.objs.size)) (EP X ae σ Q) X.xe {s3 with heap:=s3.heap.push {cls:=.type "slice",data:=.fields #[vl,vu,.none]}}
 exact tail_any ht hT hg (by with_unfolding_all rfl)
def y9(xs:List V)(lo hi:Option Int):List V:=(xs.drop (HT.eH xs.length 0 lo)).take (HT.eH xs.length xs.length hi-HT.eH xs.length 0 lo)
def oV(xs:List V)(lo hi:Option Int):(y9 xs lo hi).length<=xs.length:=by
 unfold y9;rw[lr,List.length_drop]
 lia
def acs(K:W.Frag):V->Option Int->Option Int->Hp->VK->Prop:=λx lo hi H Q=>∃a xs,x=.ref a/\gU K H a xs /\
 ¬(HT.eH xs.length 0 lo=0/\HT.eH xs.length xs.length hi=xs.length)/\∀p,H p=none->Q (.ref p) (cg H p (.ao (y9 xs lo hi)))
def Tu:SlR X (acs X.K):=by
 intro ae s σ H x v vl vu lo hi sl Q I rx hs pl pu h;obtain⟨a,xs,rfl,hx,hw,q⟩:=h;cases rx;obtain⟨aH,r,ht,hz⟩:=I.tuple hx;have eG:aH.toArray.size=xs.length:=by rw[eS];exact r.length.symm
 refine⟨"tuple",_,nv.lookup,ht.typeIs,?_⟩;refine HT.l9 ht hs pl pu (by grind) ?_ (by grind)
 rw[eG];refine⟨.ref s.heap.objs.size,_,I.laid (λb ob q=>aZ _ q) (ay _) ?_,rfl,q _ (I.hok.fresh (ay _))⟩
 exact⟨bA (oV xs lo hi) hz,_,(r.drop (HT.eH xs.length 0 lo)).take (HT.eH xs.length xs.length hi-HT.eH xs.length 0 lo),IsTup.new _ _⟩
def XW(K:W.Frag):R2:=λx y H Q=>∃a b xs ys,x=.ref a/\y=.ref b/\gU K H a xs/\gU K H b ys/\xs≠[]/\xs.length+ys.length<=sizeLine /\
 (ys=[]->Q (.ref a) H)/\(ys≠[]->∀p,H p=none->Q (.ref p) (cg H p (.ao (xs++ys))))
def Vals.me(r:Vals xs us):us=[]↔xs=[]:=by
 cases r with
 | nil=>simp
 | cons _ _=>simp
def Nv:OpR X (binaryOp .Add) (XW X.K):=by
 intro ae s σ H x y v u Q I rx ry h;obtain⟨a,b,xs,ys,rfl,rfl,ha,hb,hx,hz,q1,q2⟩:=h;cases rx;cases ry;obtain⟨aH,r1,p1,_⟩:=I.tuple ha;obtain⟨gM,r2,p2,_⟩:=I.tuple hb;refine HT.Ei p1 p2 (λz=>hx (r1.me.mp z)) (λz=>⟨.ref a,H,I,rfl,q1 (r2.me.mp z)⟩) (λz=>?_) (by rw[<-r1.length,<-r2.length];exact hz)
 refine⟨.ref s.heap.objs.size,_,I.laid (λb ob q=>aZ _ q) (ay _) ?_,rfl,q2 (λw=>z (r2.me.mpr w)) _ (I.hok.fresh (ay _))⟩
 exact⟨by grind,_,r1.append r2,IsTup.new _ _⟩
end
noncomputable def Ms(n:Nat)(i:Int):Option Nat:=if 0<=i then(if i<n then some i.toNat else none)else if -(n:Int)<=i then some (i+n).toNat else none
def jJ{α:Type}(xs:List α)(i:Int):Option α:=(Ms xs.length i).bind λj=>xs[j]?
def Em(h:Ms n i=some j):seqIndex? i n=some j/\j<n /\ -(n:Int)<=i/\i<n:=by
 unfold Ms at h;by_cases h0:0<=i
 ·rw[if_pos h0]at h;by_cases h1:i<n
  ·rw[if_pos h1]at h;have e:=cz h;exact⟨by rw[seqIndex_of h0 h1,e],by lia,by lia,h1⟩
  ·grind
 ·rw[if_neg h0]at h;by_cases h1:-n<=i
  ·rw[if_pos h1]at h;have e:=cz h;exact⟨by rw[seqIndex_neg (by lia) h1,e],by lia,h1,by lia⟩
  ·grind
def wN{α:Type}{xs:List α}{i:Int}{v:α}(h:jJ xs i=some v):∃j,seqIndex? i xs.length=some j/\xs[j]?=some v/\j<xs.length /\ -(xs.length:Int)<=i/\i<xs.length:=by
 unfold jJ at h;cases e:Ms xs.length i with
 | none=>rw[e]at h;cases h
 | some j =>
  rw[e]at h;obtain⟨h1,h2,h3,h4⟩:=Em e;exact⟨j,h1,h,h2,h3,h4⟩
def atI_nat{α:Type}{xs:List α}{j:Nat}{v:α}(h:xs[j]?=some v):jJ xs (j:Int)=some v:=by
 have hj:=(bM.mp h).1;have e:Ms xs.length j=some j:=by
  unfold Ms;rw[if_pos (by lia),if_pos (by lia)];simp
 unfold jJ;rw[e];exact h
def p8(b:Expr):Prop:=∀o i,subscripted b false o i=operate [o,i] (getItem o i)
def WJ(X:Cx)(r:R2):Prop :=
 ∀(value slice:Expr) (ae:List (Addr×Obj)) (s:Shared) (σ:St) (H:Hp) (x y:V) (v u:Value) (Q:VK),Inv X ae σ H s->RelV x v->RelV y u->r x y H Q ->
  subscripted slice false v u=operate [v,u] (getItem v u)->wpAny (model X.prog X.w) X.A (subscriptTail value slice v u) (EP X ae σ Q) X.xe s
def XX(X:Cx)(id:String)(r:V->List V->Hp->VK->Prop):Prop :=
 ∀(ae:List (Addr×Obj)) (s:Shared) (σ:St) (H:Hp) (x:V) (xs:List V) (v:Value) (us:List Value) (Q:VK),Inv X ae σ H s->RelV x v->Vals xs us->r x xs H Q ->
  wpAny (model X.prog X.w) X.A (call (.builtin id) (v::us)) (EP X ae σ Q) X.xe s
section
variable {X:Cx} {a b:Expr} {ta tb:TE} {pos:Pos}
def QG(hr:WJ X r)(ha:PE X a ta)(hb:PE X b tb)(hs:p8 b):PE X (.Subscript a b pos) (WH r ta tb):=by
 intro ae s σ H Q I h;exact Subscript_ (M8 ha hb I h λv u s2 x y H2 I2 rx ry q=>hr a b ae s2 σ H2 x y v u Q I2 rx ry q (hs _ _))
def acu(K:W.Frag):R2:=λx y H Q=>∃p xs i v,x=.ref p/\y=.int i/\ud K H p xs/\jJ xs i=some v/\Q v H
def acv(K:W.Frag):R2:=λx y H Q=>∃p xs i v,x=.ref p/\y=.int i/\gU K H p xs/\jJ xs i=some v/\Q v H
def acw:R2:=λx y H Q=>∃z i c,x=.str z/\y=.int i/\z.length<=sizeLine/\jJ z.cps.toList i=some c/\Q (.str ⟨#[c]⟩) H
def Nw:WJ X (acu X.K):=by
 intro value slice ae s σ H x y v u Q I rx ry h hs;obtain⟨p,xs,i,z,rfl,rfl,hq,he,q⟩:=h;cases rx;obtain⟨t,rfl⟩:=ry;obtain⟨aH,r,pl,hz⟩:=I.list hq;obtain⟨j,h1,h2,h3,h4,h5⟩:=wN he;obtain⟨w,ew,Tv⟩:=r.get h2;have hl:=r.length;have hn:=lH;have jI:EP X ae σ Q w s:=⟨z,H,I,Tv,q⟩;by_cases h0:0<=i
 ·have hj:i.toNat=j:=by
   rw[seqIndex_of h0 h5]at h1;exact cz h1
  exact item_listR pl.isList h0 (by lia) (by grind) jI hs
 ·have hj:(i+(aH.toArray.size:Int)).toNat=j:=by
   rw[seqIndex_neg (by lia) h4]at h1
   rw[eS,<-hl];exact cz h1
  exact subscriptTail_builtinR pl.isList.typeIs slot_list_getitem.lookup
   (wpAny_getItem_list_neg pl.isList (by lia) (by grind) (by lia) (by grind) ⟨rfl,jI⟩) hs
def Tw:WJ X (acv X.K):=by
 intro value slice ae s σ H x y v u Q I rx ry h hs;obtain⟨p,xs,i,z,rfl,rfl,hq,he,q⟩:=h;cases rx;obtain⟨t,rfl⟩:=ry;obtain⟨aH,r,pl,hz⟩:=I.tuple hq;obtain⟨j,h1,h2,h3,h4,h5⟩:=wN he;obtain⟨w,ew,Tv⟩:=r.get h2;have hl:=r.length;have hn:=lH;have jI:EP X ae σ Q w s:=⟨z,H,I,Tv,q⟩;exact subscriptTail_builtinR pl.typeIs slot_tuple_getitem.lookup
  (getItem_tuple pl (by lia) (by lia) (by rw[eS,<-hl];exact h1) (by grind) ⟨rfl,jI⟩) hs
def Tz:WJ X acw:=by
 intro value slice ae s σ H x y v u Q I rx ry h hs;obtain⟨z,i,c,rfl,rfl,hz,he,q⟩:=h;obtain⟨t,rfl⟩:=rx;obtain⟨t',rfl⟩:=ry;obtain⟨j,h1,h2,h3,h4,h5⟩:=wN he;have hl:z.cps.toList.length=z.length:=by simp[Str.length]
 rw[hl]at h1 h4 h5;have hn:=lH;exact tail_any (typeIs_str s z t) slot_str_getitem.lookup (getItem_str (by
  grind) (by grind) ⟨.str ⟨#[c]⟩,H,I.tok _,⟨_,rfl⟩,q⟩) hs
def CF(aH:List Value)(n j:Nat)(u:Value):Obj.mapSeq (·.setIfInBounds j u) {cls:=.type "list",data:=.seq aH.toArray n}={cls:=.type "list",data:=.seq (aH.set j u).toArray n}:=by
 simp[Obj.mapSeq]
def Inv.lst{ae:List (Addr×Obj)}{σ:St}{H:Hp}{s:Shared}{p:Addr}{xs:List V}(I:Inv X ae σ H s)(h:H p=some (.lst xs)) :
  ∃(aH:List Value) (n:Nat),Vals xs aH/\s.heap.get? p=some {cls:=.type "list",data:=.seq aH.toArray n}/\xs.length<=sizeLine:=by
 obtain⟨z,aH,n,r,e⟩:=I.hok p _ h;exact⟨aH,n,r,e,z⟩
def Inv.TC{ae:List (Addr×Obj)}{σ:St}{H:Hp}{s:Shared}{p:Addr}{xs ys:List V}{aH pK:List Value}{n n':Nat}{f:Obj->Obj}(I:Inv X ae σ H s)(h:H p=some (.lst xs))
  (ho:s.heap.get? p=some {cls:=.type "list",data:=.seq aH.toArray n}) (hf:f {cls:=.type "list",data:=.seq aH.toArray n}={cls:=.type "list",data:=.seq pK.toArray n'}) (r:Vals ys pK) (hz:ys.length<=sizeLine) (t:Nat) :
  Inv X ae σ (cg H p (.lst ys)) {s with heap:=s.heap.update p f,toks:=t}:=by
 have e:(s.heap.update p f).get? p=some {cls:=.type "list",data:=.seq pK.toArray n'}:=by
  rw[jO f ho (by rw[hf]<;>rfl),hf]
 refine I.write (by rw[h];trivial) (.inl rfl) (λb u hb q=>(vW _ _ (dt hb)).trans q) ⟨_,e⟩ ?_
 exact⟨hz,pK,n',r,e⟩
def XY:V->V->V->Hp->(Hp->Prop)->Prop:=λo i v H Q=>∃p xs k j,o=.ref p/\i=.int k/\H p=some (.lst xs)/\Ms xs.length k=some j/\Q (cg H p (.lst (xs.set j v)))
def Jj:IQ X XY:=by
 intro ae s σ H o i v ov iv u Q I ro ri rv h;obtain⟨p,xs,k,j,rfl,rfl,hp,hj,q⟩:=h;cases ro;obtain⟨t,rfl⟩:=ri;obtain⟨aH,n,r,ho,hz⟩:=I.lst hp;obtain⟨h1,h2,h3,h4⟩:=Em hj;have hl:=r.length;have hn:=lH;have I':Inv X ae σ (cg H p (.lst (xs.set j v))) {s with heap:=s.heap.update p (Obj.mapSeq (·.setIfInBounds j u))} :=
  I.TC hp ho (CF aH n j u) (r.set rv j) (by grind) s.toks
 by_cases h0:0<=k
 ·have hk:k.toNat=j:=by
   rw[seqIndex_of h0 h4]at h1;exact cz h1
  exact W.ki_setAt ho h0 (by lia) (by grind) (by grind)
 ·have hk:(k+(aH.toArray.size:Int)).toNat=j:=by
   rw[seqIndex_neg (by lia) h3]at h1
   rw[eS,<-hl];exact cz h1
  exact W.ki_setBack ho (by lia) (by grind) (by lia) (by grind)
def wO(lo hi:Option Int)(n:Nat):(sliceBounds lo hi none n).1=((HT.eH n 0 lo:Nat):Int)/\(sliceBounds lo hi none n).2.1=((HT.eH n n hi:Nat):Int)/\(sliceBounds lo hi none n).2.2=1:=by
 refine⟨?_,?_,rfl⟩
 ·cases lo with
  | none=>simp[sliceBounds,HT.eH]
  | some i =>
   simp only[sliceBounds,HT.eH,B3,show 1>0 by decide,jY]
   by_cases h:i<0
   ·grind
   ·grind
 ·cases hi with
  | none=>simp[sliceBounds,HT.eH]
  | some i =>
   simp only[sliceBounds,HT.eH,B3,show 1>0 by decide,jY]
   by_cases h:i<0
   ·grind
   ·grind
def uf(aH:List Value)(lo hi:Option Int):slicePick aH.toArray lo hi none=((aH.drop (HT.eH aH.length 0 lo)).take (HT.eH aH.length aH.length hi-HT.eH aH.length 0 lo)).toArray:=by
 obtain⟨h1,h2,h3⟩:=wO lo hi aH.toArray.size;unfold slicePick;rw[h1,h2,h3];simp only[sliceRange_one,pick_run,eS]<;>rfl
def acx(K:W.Frag):V->Option Int->Option Int->Hp->VK->Prop:=λx lo hi H Q=>∃a xs,x=.ref a/\ud K H a xs/\∀p,H p=none->Q (.ref p) (cg H p (.lst (y9 xs lo hi)))
def Nx:SlR X (acx X.K):=by
 intro ae s σ H x v vl vu lo hi sl Q I rx hs pl pu h;obtain⟨a,xs,rfl,hx,q⟩:=h;cases rx;obtain⟨aH,r,ht,hz⟩:=I.list hx;have eG:=r.length;refine⟨"list",_,slot_list_getitem.lookup,ht.isList.typeIs,?_⟩;refine wpAny_getItem_list_slice ht.isList hs pl pu .none (by simp) ?_ (by grind)
 rw[uf,<-eG];refine⟨.ref s.heap.objs.size,_,I.laid (λb ob q=>aZ _ q) (ay _) ?_,rfl,q _ (I.hok.fresh (ay _))⟩
 exact⟨bA (oV xs lo hi) hz,_,0,(r.drop (HT.eH xs.length 0 lo)).take (HT.eH xs.length xs.length hi-HT.eH xs.length 0 lo),bX _ rfl⟩
def mf:l7 X (.builtin "len") (λxs H Q=>∃p ys,xs=[.ref p]/\(ud X.K H p ys\/gU X.K H p ys)/\Q (.int ys.length) H):=by
 intro ae s σ H xs us Q I r h;obtain⟨p,ys,rfl,hq,q⟩:=h;obtain⟨u,rfl,rx⟩:=js r;cases rx;have hn:=lH;rcases hq with hq | hq
 ·obtain⟨aH,r',pl,hz⟩:=I.list hq;have eG:=r'.length;exact Calls.call_len_list pl.isList (by grind) ⟨.int ys.length,H,I.tok _,⟨s.toks+1,by grind⟩,q⟩
 ·obtain⟨aH,r',pl,hz⟩:=I.tuple hq;have eG:=r'.length;exact len_tuple pl (by grind) ⟨.int ys.length,H,I.tok _,⟨s.toks+1,by grind⟩,q⟩
def wQ:l7 X (.builtin "len") (λxs H Q=>∃z,xs=[.str z]/\z.length<=sizeLine/\Q (.int z.length) H):=by
 intro ae s σ H xs us Q I r h;obtain⟨z,rfl,hz,q⟩:=h;obtain⟨u,rfl,t,rfl⟩:=js r;have hn:=lH;exact len_str (by lia) ⟨.int z.length,H,I.tok _,⟨_,rfl⟩,q⟩
def kT:l7 X (.type "tuple") (λxs H Q=>∃p ys,xs=[.ref p]/\((ud X.K H p ys/\∀l,H l=none->Q (.ref l) (cg H l (.ao ys)))\/(gU X.K H p ys/\Q (.ref p) H))):=by
 intro ae s σ H xs us Q I r h;obtain⟨p,ys,rfl,h⟩:=h;obtain⟨u,rfl,rx⟩:=js r;cases rx;rcases h with⟨hq,q⟩ | ⟨hq,q⟩
 ·obtain⟨aH,r',pl,hz⟩:=I.list hq;have eG:=r'.length;refine call_tuple_list pl.isList (λh' kp=>?_) (by grind)
  have I1:=I.kept (t':=s.toks) kp;have I2:Inv X ae σ (cg H h'.objs.size (.ao ys)) {s with heap:=h'.push {cls:=.type "tuple",data:=.seq aH.toArray}} :=
   I1.laid (λb o e=>aZ _ e) (ay _) (⟨hz,aH,r',IsTup.new _ _⟩)
  exact⟨.ref h'.objs.size,_,I2,rfl,q _ (I1.hok.fresh (ay _))⟩
 ·obtain⟨aH,r',pl,hz⟩:=I.tuple hq;exact call_tuple_same pl ⟨.ref p,H,I,rfl,q⟩
def tyV(K:W.Frag)(T:String)(x:V)(H:Hp):Prop:=match x with
 | .str _=>T="str"
 | .int _=>T="int"
 | .ref p=>(T="list"/\∃xs,ud K H p xs)\/(T="tuple"/\∃o,K.lookup p=some o/\o.cls=.type "tuple"/\o.dict=none) \/
   (T="dict"/\((∃kvs,H p=some (.dK kvs))\/∃kvs,H p=some (.dT kvs)))\/(T="set"/\∃S n,H p=some (.set S n))
 | _=>False
def Jk{ae:List (Addr×Obj)}{σ:St}{H:Hp}{s:Shared}{T:String}{x:V}{v:Value}(I:Inv X ae σ H s)(r:RelV x v)(ty:tyV X.K T x H) :
  s.TypeIs v T/\∀a,v=.ref a->∃ob,s.heap.get? a=some ob/\ob.dict=none:=by
 cases x with
 | str z =>
  obtain⟨t,rfl⟩:=r;cases(ty);exact⟨typeIs_str s z t,λ_ e=>nomatch e⟩
 | int i =>
  obtain⟨t,rfl⟩:=r;cases(ty);exact⟨typeIs_int s i t,λ_ e=>nomatch e⟩
 | ref p =>
  cases r;rcases ty with⟨rfl,xs,hq⟩ | ⟨rfl,o,hk,hc,hd⟩ | ⟨rfl,hk⟩ | ⟨rfl,S,n,hk⟩
  ·obtain⟨aH,_,pl,_⟩:=I.list hq;refine⟨pl.isList.typeIs,λa e=>?_⟩
   cases e;obtain⟨o,n,e,c,hd,_⟩:=pl;exact⟨o,e,hd⟩
  ·refine⟨⟨o,I.qS p o hk,hc⟩,λa e=>?_⟩
   cases e;exact⟨o,I.qS _ o hk,hd⟩
  ·have z:∃o,s.heap.get? p=some o/\o.ExactDict:=by
    rcases hk with⟨kvs,hk⟩ | ⟨kvs,hk⟩
    ·obtain⟨_,_,_,_,o,_,_,e,ex,_⟩:=I.hok p _ hk;exact⟨o,e,ex⟩
    ·obtain⟨_,_,o,_,_,e,ex,_⟩:=(I.hok p _ hk);exact⟨o,e,ex⟩
   obtain⟨o,e,ex⟩:=z;refine⟨⟨o,e,ex.1⟩,λa e2=>?_⟩
   cases e2;exact⟨o,e,ex.2.1⟩
  ·obtain⟨o,_,_,_,e,ex,_⟩:=I.hok p _ hk;refine⟨⟨o,e,ex.1⟩,λa e2=>?_⟩
   cases e2;exact⟨o,e,ex.2.1⟩
 | _=>exact False.elim ty
def XZ(K:W.Frag)(T:String)(r:V->List V->Hp->VK->Prop)(to:TE):TE:=λσ H Q=>to σ H λx H1=>tyV K T x H1/\r x [] H1 Q
def tBM(K:W.Frag)(T:String)(r:V->List V->Hp->VK->Prop)(to:TE)(t:TA):TE:=λσ H Q=>to σ H λx H1=>tyV K T x H1/\t σ H1 λxs H2=>r x xs H2 Q
variable {o e:Expr} {es:List Expr} {to:TE} {t:TA} {name:Str} {qN kH:Pos} {T id:String} {r:V->List V->Hp->VK->Prop}
def Jl(pa:PlainAttrs T)(slot:Slot T name id)(hty:typeOf (.builtin id)=pure (.type "method_descriptor"))(hm:XX X id r)(ho:PE X o to)
  (j3:attributeBase o name X.env (eval o X.env)=eval o X.env:=by rfl) (iG:(qN.endLine==kH.line)=true:=by rfl):PE X (.Call (.Attribute o name qN) [] [] kH) (XZ X.K T r to):=by
 intro ae s σ H Q I h;refine wpAny_Call_method0_late j3 iG (thn (ho ae s σ H _ I h) λv s1 z9=>?_)
 obtain⟨x,H1,I1,r1,ty,q1⟩:=z9;obtain⟨h1,h2⟩:=Jk I1 r1 ty;exact⟨T,id,pa,slot,hty,h1,h2,Calls.callWith_builtin rfl (PySem.evalArgs_none (hm ae s1 σ H1 x [] v [] Q I1 r1 .nil q1))⟩
def za(pa:PlainAttrs T)(slot:Slot T name id)(hty:typeOf (.builtin id)=pure (.type "method_descriptor"))(hm:XX X id r)(ho:PE X o to)(ha:PA X (e::es) t)
  (j3:attributeBase o name X.env (eval o X.env)=eval o X.env:=by rfl)
  (CG:((backTo kH (starEach (e::es) X.env)).all (λx=>!x.1)&&(backToKw kH (keywordEach [] X.env)).all (λx=>x.1.isSome)
   && decide ((e::es).length+([]:List Keyword).length+(if([]:List Keyword).isEmpty then 0 else 1)<30))=true:=by rfl)
  (iG:(qN.endLine==kH.line)=true:=by rfl) (hs:starEach (e::es) X.env=(false,eval e X.env)::starEach es X.env:=by rfl) (acz:(backTo kH (starEach es X.env)).any (·.1)=false:=by rfl) :
  PE X (.Call (.Attribute o name qN) (e::es) [] kH) (tBM X.K T r to t):=by
 intro ae s σ H Q I h;refine wpAny_Call_method_late j3 CG iG rfl (thn (ho ae s σ H _ I h) λv s1 z9=>?_)
 obtain⟨x,H1,I1,r1,ty,q1⟩:=z9;obtain⟨h1,h2⟩:=Jk I1 r1 ty;refine⟨T,id,pa,slot,hty,h1,h2,?_⟩;have hA:=ha kH ae s1 σ H1 _ I1 q1;rw[hs]at hA ⊢;refine Calls.callWith_builtin (by grind) (Calls.evalArgs_plain ?_)
 exact thn hA (by rintro us s2 ⟨vs,H2,I2,r2,q2⟩;exact hm ae s2 σ H2 x vs v us Q I2 r1 r2 q2)
end
def MtM(X:Cx)(id:String)(r:V->List V->Hp->VK->Prop):Prop :=
 ∀(ae:List (Addr×Obj)) (s:Shared) (σ:St) (H:Hp) (x:V) (xs:List V) (v:Value) (us:List Value) (Q:VK),Inv X ae σ H s->RelV x v->Vals xs us->r x xs H Q ->
  wpAny (model X.prog X.w) X.A (call (.builtin id) (v::us)) (EP X ae σ Q) X.xe s
theorem Vals.one:∀{x:V} {us:List Value},Vals [x] us->∃u,us=[u]/\RelV x u
 | _,_,.cons r .nil=>⟨_,rfl,r⟩
def Vals.two{x y:V}{us:List Value}(h:Vals [x,y] us):∃u v,us=[u,v]/\RelV x u/\RelV y v:=by
 cases h with
 | cons r h=>cases h with
  | cons q h=>cases h;exact⟨_,_,rfl,r,q⟩
theorem Vals.zero:∀{us:List Value},Vals [] us->us=[]
 | _,.nil=>rfl
theorem Vals.eraseIdx:∀{xs:List V} {us:List Value} (i:Nat),Vals xs us->Vals (xs.eraseIdx i) (us.eraseIdx i)
 | _,_,_,.nil=>.nil
 | _,_,0,.cons _ t=>t
 | _,_,i+1,.cons r t=>.cons r (Vals.eraseIdx i t)
def Vals.reverse(h:Vals xs us):Vals xs.reverse us.reverse:=by
 induction h with
 | nil=>exact .nil
 | cons r t ih=>rw[nG,nG];exact Vals.append ih (.cons r .nil)
section
variable {X:Cx} {ae:List (Addr×Obj)} {σ:St} {H:Hp} {s:Shared} {l b:Addr} {xs ys zs:List V}
def Inv.Ny{aH pK:List Value}{n:Nat}{f:Array Value->Array Value}{t':Nat}(I:Inv X ae σ H s)(hH:H l=some (.lst xs))
  (e:s.heap.get? l=some {cls:=.type "list",data:=.seq aH.toArray n}) (hf:f aH.toArray=pK.toArray) (hv:Vals ys pK) (hz:ys.length<=sizeLine) :
  Inv X ae σ (cg H l (.lst ys)) {s with heap:=s.heap.update l (Obj.mapSeq f),toks:=t'}:=by
 have q:=PySem.IsL.update e f;rw[hf]at q;refine I.write (by rw[hH];exact trivial) (.inl rfl) (λb' u hb hu=>(vW s.heap (Obj.mapSeq f) (dt hb)).trans hu) ⟨_,q⟩ ?_
 exact⟨hz,pK,_,hv,q⟩
def Inv.acA(I:Inv X ae σ H s)(hv:Vals ys aH)(hz:ys.length<=sizeLine) :
  Inv X ae σ (cg H s.heap.objs.size (.lst ys)) {s with heap:=s.heap.push {cls:=.type "list",data:=.seq aH.toArray},toks:=t'} :=
 I.laid (λ_ _ q=>aZ _ q) (ay _) ⟨hz,aH,0,hv,bX _ rfl⟩
def Inv.fresh(I:Inv X ae σ H s):H s.heap.objs.size=none:=I.hok.fresh (ay _)
def Inv.gW(I:Inv X ae σ H s)(hH:H l=some (.lst xs)):xs.length<=sizeLine/\∃(aH:List Value) (n:Nat),Vals xs aH/\xs.length=aH.length/\s.heap.get? l=some {cls:=.type "list",data:=.seq aH.toArray n}:=by
 obtain⟨z,aH,n,r,e⟩:=I.hok l _ hH;exact⟨z,aH,n,r,r.length,e⟩
def Jm(h:n<=sizeLine):Builtin.List.listTooLong n=false:=by
 unfold Builtin.List.listTooLong;exact lx (by lia)
end
section
variable {X:Cx}
def En:V->List V->Hp->VK->Prop:=λx vs H Q=>∃l xs y,x=.ref l/\vs=[y]/\H l=some (.lst xs)/\xs.length<sizeLine/\Q .bB (cg H l (.lst (xs++[y])))
def Gn:MtM X "list.append" En:=by
 intro ae s σ H x vs v us Q I rx rv h;obtain⟨l,xs,y,rfl,rfl,hH,hz,q⟩:=h;cases rx;obtain⟨u,rfl,ru⟩:=rv.one;obtain⟨z,aH,n,r,hl,e⟩:=I.gW hH;refine lD F.slot_list_append ⟨_,e,rfl⟩ F.entry_list_append (F.args_list_append_2 _ _) (PySem.list_append l aH.toArray n u (by grind)) ⟨e,?_⟩
 refine⟨.bB,_,I.Ny hH e (by simp) (r.append (.cons ru .nil)) ?_,rfl,q⟩
 rw[aR,List.length_singleton]
 lia
def zb:V->List V->Hp->VK->Prop:=λx vs H Q=>∃l xs,x=.ref l/\vs=[]/\H l=some (.lst xs)/\Q .bB (cg H l (.lst xs.reverse))
def CH:MtM X "list.reverse" zb:=by
 intro ae s σ H x vs v us Q I rx rv h;obtain⟨l,xs,rfl,rfl,hH,q⟩:=h;cases rx;have hus:=rv.zero;subst hus;obtain⟨z,aH,n,r,hl,e⟩:=I.gW hH;refine lD F.slot_list_reverse ⟨_,e,rfl⟩ F.entry_list_reverse (F.args_list_reverse_1 _) (AutoSeq1.list_reverse_list_0 l aH.toArray n (by grind)) ⟨e,?_⟩
 refine⟨.bB,_,I.Ny hH e (by simp) r.reverse ?_,rfl,q⟩
 rw[BQ]
 lia
end
end L2
namespace Att
open PySem PySem.W PySem.Calls PyProof.Rows
def pM:∀(ns:List Int) (vs:List Value),WellAll P h vs (ns.map WData.int)->IntsAre vs ns:=by
 intro ns;induction ns with
 | nil =>
  intro vs w;rw[nL]at w;cases w;exact .nil
 | cons n ns ih =>
  intro vs w;rw[aI]at w;cases w with
  | cons a b =>
   cases a;exact .cons _ _ (ih _ b)
def Gp{l:OpenLaw}(hn:l.most=some n) 
  (Nz:l.row.toRowW.claim.pre args=true) (hwl:WellAll P h X0 args) :
  ∃a vs ns,X0=[Value.ref a]/\args=[WData.list (ns.map WData.int)]/\h.get? a=some {cls:=.type "list",data:=.seq vs.toArray}/\IntsAre vs ns/\ns.length<=n:=by
 have hsh:=(pre_splitW Nz).1;have hc:l.pre.holds [] {args:=args}=true:=(pre_splitW Nz).2
 obtain⟨d,r,rfl,h1,h2⟩:=hasAllW_cons hsh;obtain rfl:=hasAllW_nil h2;obtain⟨xs,rfl,h3⟩:=hasW_list h1;obtain⟨ns,rfl⟩:=items_int h3;have eG:ns.length<=n:=by
  unfold OpenLaw.pre at hc;have h4:(WTm.not (.lt (.lit (.int n)) (.len (.arg 0)))).holds [] {args:=[.list (ns.map .int)]}=true:=by
   have h4:=(holds_andW hc).1;rw[hn]at h4;exact h4
  have h5:=condW_of h4 (w_not (w_lt w_lit (w_len_list (w_arg rfl))));rw[ak]at h5;refine B2 λq=>?_
  have q':n<(ns.length:Nat):=by lia
  first
   | (rw[gp q']at h5;exact absurd h5 (by decide))
   | (simp at h5;lia)
 cases hwl with
 | cons w1 w2 =>
  cases w2;cases w1 with
  | list ho Gq=>exact⟨_,_,ns,rfl,rfl,ho,pM ns _ Gq,eG⟩
def Gs(l:OpenLaw)(args:List WData):l.row.toRowW.claim.post args (.bool true) args=true :=
 postW_of
  (show WShape.has [] (.bool true) .bool=true by first | rfl | decide | simp[WShape.has,WShape.arms,WShape.armsAll])
  (w_eq_bool (w_res rfl) w_lit) rfl
def zc{l:OpenLaw}{n:Nat}{loose:List Str}{XP:(Str->Option Value)->Heap->Prop}{YP:World->Heap->Prop}{d:DefRec}
  (hn:l.most=some n) (hdf:d.params.defaults=[])
  (call:∀(w:World) (s₀ s₁:Shared) (mg mb:Str->Option Value) (fa:Addr) (o:Obj) (pm cd doc:Value) (a:Addr) (vs:List Value) (ns:List Int),
   Ground q loose [] XP w s₀ mg mb s₁.heap->YP w s₁.heap ->
   s₁.heap.get? fa=some o->o.data=.func (docDef d.name d.params d.body d.scope pm cd doc)->s₁.heap.CodeRec cd d.name->mg d.name=some (.ref fa) ->
   s₁.heap.get? a=some {cls:=.type "list",data:=.seq vs.toArray}->IntsAre vs ns->ns.length<=n->s₁.gens=#[] ->
   codeAny (model l.prog w) callerA (.call (.ref fa) ⟨[.ref a],[]⟩) (λr s'=>r=.ok (.ret (.bool true))/\OldK s₁.heap s'.heap/\s'.os=s₁.os/\AllBare s'.gens) s₁) :
  WalkO q loose XP YP l.row.toRowW d [] (λf vs=>PySem.call f vs):=by
 intro w s₀ s₁ mg mb G Y fa o pm cd doc dV kV ho hd Eb hD NA hg args X0 as Nz agm hrd hwl hlo;obtain rfl:dV=.none:=Dflts.none hD hdf;obtain rfl:kV=.none:=Dflts.noKw hD;obtain⟨a,vs,ns,rfl,rfl,Jn,Jo,eG⟩:=Gp hn Nz hwl;refine enter_call (jV (call w s₀ s₁ mg mb fa o pm cd doc a vs ns G Y ho (fd_plain hd) Eb NA Jn Jo eG hg) λr s' hq=>?_)
 obtain⟨rfl,h2,h3,h4⟩:=hq;exact⟨.inl ⟨.bool true,.bool true,[],rfl,λ_=>rfl,.bool true,Gs l _,λ_=>⟨List.Pairwise.nil,λ_ hm=>(nomatch hm)⟩⟩,h2,h3,h4⟩
end Att
namespace L2
open PySem PySem.Spec PyProof.Rows
theorem uY:∀{vs:List Value} {ns:List Int},IntsAre vs ns->Vals (ns.map V.int) vs
 | _,_,.nil=>.nil
 | _,_,.cons n t h=>.cons ⟨t,rfl⟩ (uY h)
def Gu{P:Program}{w:World}{K:W.Frag}{mg mb:Str->Option Value}{CX:HS}{k:Nat}{fa a:Addr}{fd:FuncData}{x:Str}{sp:Sp}{s₁:Shared}{vs:List Value}{ns:List Int}{tabs:List (Addr×Str)}
  (KX:K.In s₁.heap) (Jp:s₁.heap.Ns mainGlobals mg) (hb:s₁.heap.Ns builtinsNs mb) (hbb:∀x:Str,x≠"__name__"->mb x=bootBuiltins x) (NB:s₁.heap.NoLimit) (hg:s₁.gens=#[])
  (hT:∀b q,tabs.lookup b=some q->s₁.heap.get? b=some {cls:=.none,data:=.fields #[]}/\isCodeTable s₁.heap b/\K.lookup b=none) (hTI:∀H:Hp,(∀b q,tabs.lookup b=some q->H b=some (.Cd q))->qR K H)
  (ha:s₁.heap.get? a=some {cls:=.type "list",data:=.seq vs.toArray}) (hi:IntsAre vs ns) (hl:ns.length<=sizeLine) (hr:dG k callerA)
  (F:∀base:Heap,K.In base->base.Ns mainGlobals mg->FnOk P w K mg base CX k fa fd [x] sp) (X1:∀(s:Shared) (u:Value),BindsTo s fd ⟨[u],[]⟩ [(x,u)])
  (Nq:∀H:Hp,kF K H a (ns.map V.int)->sp [.ref a] H (λv _=>v=.bl true) λ_ _ _=>False) (hCX:∀H e s',CX [] H s₁ (λ_ _ _=>False) e s'->False) :
  codeAny (model P w) callerA (.call (.ref fa) ⟨[.ref a],[]⟩) (λr s'=>r=.ok (.ret (.bool true))/\OldK s₁.heap s'.heap/\s'.os=s₁.os/\AllBare s'.gens) s₁:=by
 have rv:=uY hi;have gv:=hi.length
 let oa:Obj:={cls:=.type "list",data:=.seq vs.toArray}
 let H:Hp:=λb=>if b=a/\K.lookup a=none then some (.oR oa (.lst (ns.map V.int)))else(tabs.lookup b).map HO.Cd
 have acE:∀b,H b=if b=a/\K.lookup a=none then some (.oR oa (.lst (ns.map V.int)))else(tabs.lookup b).map HO.Cd:=λ_=>rfl
 have hHt:∀b q,tabs.lookup b=some q->H b=some (.Cd q):=λb q e=>by
  grind
 have hH:∀b u,H b=some u->(b=a/\K.lookup a=none/\u=.oR oa (.lst (ns.map V.int)))\/∃q,tabs.lookup b=some q/\u=.Cd q:=λb u e=>by
  rw[acE]at e;by_cases h:b=a/\K.lookup a=none
  ·grind
  ·rw[if_neg h]at e;cases z:tabs.lookup b with
   | none=>rw[z]at e;cases e
   | some q=>rw[z]at e;cases e;exact .inr ⟨q,rfl,rfl⟩
 have hS:kF K H a (ns.map V.int):=by
  cases hk:K.lookup a with
  | some o =>
   have e:=KX a o hk;rw[ha]at e;cases e;exact .inr ⟨vs,_,hk,by grind,rv⟩
  | none=>exact .inl (.inr ⟨oa,by grind⟩)
 have hok:lF P w H s₁.heap:=λb u e=>by
  rcases hH b u e with⟨rfl,_,rfl⟩ | ⟨q,hq,rfl⟩
  ·exact⟨ha,by grind,vs,_,rv,ha⟩
  ·exact⟨#[],(hT b q hq).1,trivial,λpos cv z=>by cases z⟩
 have noD:∀{b:Addr} {o:Obj} {es:Array DictEntry} {ep:Nat},s₁.heap.get? b=some o->o.data=.dict es ep->H b=none:=λ{b o es ep} e d=>by
  cases q:H b with
  | none=>rfl
  | some u =>
   rcases hH b u q with⟨rfl,_,_⟩ | ⟨t,ht,_⟩
   ·grind
   ·grind
 have nsK:∀{b:Addr} {m:Str->Option Value},s₁.heap.Ns b m->(yR s₁.heap H).Ns b m:=λ{b m} ⟨o,es,ep,e,d,r⟩=>⟨o,es,ep,hidT_get e (noD e d),d,r⟩
 have hKb:K.In (yR s₁.heap H):=λb o e=>hidT_get (KX b o e) (by
  cases q:H b with
  | none=>rfl
  | some u =>
   rcases hH b u q with⟨rfl,z,_⟩ | ⟨t,ht,_⟩
   ·grind
   ·rw[(hT b t ht).2.2]at e;cases e)
 have hM:Mod K mg (yR s₁.heap H):=⟨hKb,nsK Jp,⟨mb,nsK hb,hbb⟩,let ⟨mc,h1,h2⟩:=NB;⟨mc,nsK h1,h2⟩⟩
 have e0:Env0 P w K mg (yR s₁.heap H) callerA [] s₁ H:=⟨rfl,hM,λb o e=>of_hidT e,ja (Ga _ _),trivial,λb hb=>absurd (show b∈([]:List Addr)from hb) (by simp),hok,.of_eq hg,hTI H hHt⟩
 refine jV ((F _ hKb (nsK Jp)).run callerA [] s₁ H ⟨[.ref a],[]⟩ [.ref a] [.ref a] _ _ hr e0 (X1 s₁ (.ref a)) (.cons rfl .nil) (Nq H hS)) λr s' h=>?_
 cases r with
 | error e=>exact(hCX H e s' h).elim
 | ok fl =>
  cases fl with
  | next=>exact False.elim h
  | brk=>exact False.elim h
  | cont=>exact False.elim h
  | ret u =>
   obtain⟨v,H',os,bare,un,X2,r',q⟩:=h;have q':=q;subst q';obtain rfl:u=Value.bool true:=r';have noF:∀b:Addr,b∉nW []:=λb z=>absurd (show b∈([]:List Addr)from z) (by simp)
   refine⟨rfl,⟨λb o e=>?_,λb o e=>un.there b o e (by simp)⟩,os,bare⟩
   cases q:H b with
   | none=>exact .inl (un.keep b o e q (noF b) (by simp))
   | some u =>
    rcases hH b u q with⟨rfl,_,rfl⟩ | ⟨t,ht,rfl⟩
    ·obtain⟨e2,_⟩:=X2 b _ (un.frzs b _ _ q);rw[ha]at e;cases e;exact .inl e2
    ·obtain⟨h1,h2,_⟩:=hT b t ht;obtain⟨ps,e2,_⟩:=(X2 b _ (un.tbls b _ q));rw[h1]at e;cases e;exact .inr (.inl ⟨h2,rfl,#[],ps,rfl,by grind⟩)
abbrev E0:XK:=λ_ _ _=>False
def cG(H H':Hp):Prop:=∀b o,H b=some o->H' b=some o
def cG.refl(H:Hp):cG H H:=λ_ _ h=>h
def cG.trans(a:cG H H1)(b:cG H1 H2):cG H H2:=λc o h=>b c o (a c o h)
def cG.free(e:cG H H')(h:H' l=Option.none):H l=Option.none:=by
 cases q:H l with
 | none=>rfl
 | some o =>
  rw[e l o q]at h;cases h
def cG.seq{K:W.Frag}{H H':Hp}{a:Addr}{xs:List V}(e:cG H H')(h:ud K H a xs):ud K H' a xs:=by
 rcases h with(h | ⟨o,h⟩) | h
 ·exact .inl (.inl (e _ _ h))
 ·exact .inl (.inr ⟨o,e _ _ h⟩)
 ·exact .inr h
section
variable {κ:Type} [DecidableEq κ]
noncomputable def jw(kvs:List (κ×V))(k:κ):Option V:=(kvs.find? λkv=>decide (kv.1=k)).map (·.2)
noncomputable def putK(kvs:List (κ×V))(k:κ)(v:V):List (κ×V) :=
 if(kvs.any λkv=>decide (kv.1=k))=true then kvs.map (λkv=>if kv.1=k then(kv.1,v)else kv)else kvs++[(k,v)]
def mh{p:κ×V}{r:List (κ×V)}{k:κ}(e:p.1=k):jw (p::r) k=some p.2:=by simp[jw,qI,e]
def mi{p:κ×V}{r:List (κ×V)}{k:κ}(e:¬p.1=k):jw (p::r) k=jw r k:=by simp[jw,qI,e]
theorem q9(k:κ):∀kvs:List (κ×V),(kvs.any λkv=>decide (kv.1=k))=(jw kvs k).isSome
 | []=>rfl
 | p::r=>by
  rw[i8];by_cases e:p.1=k
  ·simp only[mh e,gp e,Bool.true_or,Option.isSome_some]
  ·rw[mi e,lx e,Bool.false_or];exact q9 k r
def Jq{kvs:List (κ×V)}{k:κ}(v:V)(h:jw kvs k=none):putK kvs k v=kvs++[(k,v)]:=by
 unfold putK;rw[q9,h];exact if_neg (by decide)
def qQ.uZ{o:Option V}{u:Option Value}(r:qQ o u):o.isSome=u.isSome:=by
 cases o with
 | none=>cases u with
  | none=>rfl
  | some _=>exact(show False from r).elim
 | some _=>cases u with
  | none=>exact(show False from r).elim
  | some _=>rfl
def qQ.getD{o:Option V}{u:Option Value}{d:V}{d':Value}(r:qQ o u)(rd:RelV d d'):RelV (o.getD d) (u.getD d'):=by
 cases o with
 | none=>cases u with
  | none=>exact rd
  | some _=>exact(show False from r).elim
 | some _=>cases u with
  | none=>exact(show False from r).elim
  | some _=>exact r
def KV.val{kvs:List (κ×V)}{vs:List (κ×Value)}(r:KV kvs vs)(k:κ):qQ (jw kvs k) (valueAt vs k):=by
 unfold KV at r;induction r with
 | nil=>exact True.intro
 | @cons p q ps qs h t ih =>
  obtain⟨h1,h2⟩:=h;by_cases e:p.1=k
  ·have e':q.1=k:=by grind
   have b:valueAt (q::qs) k=some q.2:=by simp[valueAt,qI,e']
   rw[mh e,b];exact h2
  ·have e':¬q.1=k:=by grind
   have b:valueAt (q::qs) k=valueAt qs k:=by simp[valueAt,qI,e']
   rw[mi e,b];exact ih
def KV.any{kvs:List (κ×V)}{vs:List (κ×Value)}(r:KV kvs vs)(k:κ):(kvs.any λkv=>decide (kv.1=k))=vs.any λkv=>decide (kv.1=k):=by
 unfold KV at r;induction r with
 | nil=>rfl
 | cons h t ih=>rw[i8,i8,ih,h.1]
def KV.acF{kvs:List (κ×V)}{vs:List (κ×Value)}(r:KV kvs vs)(k:κ){y:V}{u:Value}(ry:RelV y u) :
  KV (kvs.map λkv=>if kv.1=k then(kv.1,y)else kv) (vs.map λkv=>if kv.1=k then(kv.1,u)else kv):=by
 unfold KV at r ⊢;induction r with
 | nil=>exact .nil
 | @cons p q ps qs h t ih =>
  rw[aI,aI];refine .cons ?_ ih;obtain⟨h1,h2⟩:=h;by_cases e:p.1=k
  ·grind
  ·grind
def KV.put{kvs:List (κ×V)}{vs:List (κ×Value)}(r:KV kvs vs)(k:κ){y:V}{u:Value}(ry:RelV y u):KV (putK kvs k y) (stored vs k u):=by
 unfold putK stored;rw[r.any k];by_cases e:(vs.any λkv=>decide (kv.1=k))=true
 ·rw[if_pos e,if_pos e];exact r.acF k ry
 ·rw[if_neg e,if_neg e];exact Paired.snoc r ⟨rfl,ry⟩
theorem KV.length{kvs:List (κ×V)}{vs:List (κ×Value)}(r:KV kvs vs):kvs.length=vs.length:=nK r
end
def rf{P:Program}{w:World}{k:bz}{u:Value}(r:RelV (kV k) u):(cf P w).is k u=true:=by
 cases k with
 | inl i=>obtain⟨t,e⟩:=(show ∃t,u=Value.int i t from r);subst e;exact yP P w i t
 | inr x=>obtain⟨t,e⟩:=(show ∃t,u=Value.str x t from r);subst e;exact yQ P w x t
theorem u0{P:Program}{w:World}:∀{ks:List bz} {us:List Value},Vals (ks.map kV) us->ItemsAre (cf P w) ks us
 | [],_,r=>by rw[nL]at r;cases r;exact .nil
 | k::ks,_,r=>by
  rw[aI]at r;cases r with
  | cons h t=>exact .cons (rf h) (u0 t)
section
variable {P:Program} {w:World} {H:Hp} {h:Heap} {a:Addr}
def QH{u:HO}(ok:lF P w H h)(e:Rd H a u):fG P w H h a u:=e.ok ok
def Eo{kvs:List (bz×V)}(ok:lF P w H h)(e:Rd H a (.dK kvs)):kvs.length<=sizeLine/\(a==sysModules)=false/\∃vs,KV kvs vs/\h.DictOf (cf P w) a vs :=
 show fG P w H h a (.dK kvs)from QH ok e
def QI{kvs:List (bz×V)}(ok:lF P w H h)(e:H a=some (.dK kvs)):kvs.length<=sizeLine/\(a==sysModules)=false/\∃vs,KV kvs vs/\h.DictOf (cf P w) a vs:=Eo ok (.inl e)
end
section
variable {X:Cx} {ae:List (Addr×Obj)} {σ:St} {H:Hp} {s:Shared} {a b:Addr} {k:List bz} {v:V} {r:Value} {A:Around} {E:Value->Shared->Prop} {xs:List (List bz×Addr×Value)}
def key_is(I:Inv X ae σ H s)(e:gU X.K H a (k.map kV)):(tupleKind (cf X.prog X.w)).is s.heap k a:=by
 obtain⟨aH,r,⟨o,h1,h2,n,h3⟩,_⟩:=I.tuple e;exact⟨o,aH.toArray,n,h1,h2,h3,by simpa using u0 r⟩
def u3(I:Inv X ae σ H s)(e:Rd H a (.dT xs))(hk:eX X.K H xs):xs.length<=sizeLine/\(a==sysModules)=false/\s.heap.DictOfH (tupleKind (cf X.prog X.w)) a xs:=by
 obtain⟨z,y,o,es,ep,h1,h2,h3,h4,h5⟩:=(show fG X.prog X.w H s.heap a (.dT xs)from QH I.hok e)
 exact⟨z,y,o,es,ep,h1,h2,h3,h4,λx hx=>key_is I (hk x hx),h5⟩
def X3{Q:Value->Shared->Prop}(hu:A.units+1<cLine)(I:Inv X ae σ H s)(e:Rd H a (.dT xs))(hk:eX X.K H xs)(eb:gU X.K H b (k.map kV))(h:∀s',Inv X ae σ H s'->Q (.bool (atKey xs k).isSome) s') :
  wpAny (model X.prog X.w) A (compareOp .In (.ref b) (.ref a)) Q E s:=by
 obtain⟨_,hd,dd⟩:=u3 I e hk;exact wpAny_in_heap (qD hu) (key_is I eb) hd dd (h _ (I.tok _))
def X4{Q:Value->Shared->Prop}(hu:A.units+1<cLine)(I:Inv X ae σ H s)(e:Rd H a (.dT xs))(hk:eX X.K H xs)(eb:gU X.K H b (k.map kV)) (h:∀s',Inv X ae σ H s'->Q (.bool (!(atKey xs k).isSome)) s') :
  wpAny (model X.prog X.w) A (compareOp .NotIn (.ref b) (.ref a)) Q E s:=by
 obtain⟨_,hd,dd⟩:=u3 I e hk;exact wpAny_notIn_heap (qD hu) (key_is I eb) hd dd (h _ (I.tok _))
def X5{Q:Value->Shared->Prop}{p:Addr×Value}(hu:A.units+1<cLine)(I:Inv X ae σ H s)(e:Rd H a (.dT xs))(hk:eX X.K H xs)(eb:gU X.K H b (k.map kV))(hp:atKey xs k=some p)(h:∀s',Inv X ae σ H s'->Q p.2 s') :
  wpAny (model X.prog X.w) A (getItem (.ref a) (.ref b)) Q E s:=by
 obtain⟨_,hd,dd⟩:=u3 I e hk;exact wpAny_getItem_heap (qD hu) (key_is I eb) dd hp (h _ (I.tok _))
def CI{κ:Type} [DecidableEq κ] (xs:List (κ×Addr×Value)) (k:κ) (a:Addr) (v:Value):(storedH xs k a v).length<=xs.length+1:=by
 unfold storedH;split
 ·grind
 ·grind
def TF{Q:Unit->Shared->Prop}(hu:A.units+1<cLine)(I:Inv X ae σ H s)(e:H a=some (.dT xs))(hk:eX X.K H xs)(eb:gU X.K H b (k.map kV))(hl:xs.length<sizeLine)
  (h:∀s',Inv X ae σ (cg H a (.dT (storedH xs k b r))) s'->Q () s'):wpAny (model X.prog X.w) A (setItem (.ref a) (.ref b) r) Q E s:=by
 obtain⟨_,hd,dd⟩:=u3 I (.inl e) hk;refine wpAny_setItem_heap (hsz:=i9 hl) (qD hu) (key_is I eb) dd λh' TJ hs=>h _ ?_
 obtain⟨q,es,ep,hq,h2,h3,h4,_,h5⟩:=TJ;exact I.write (x:=a) (e:=a) (by rw[e];exact True.intro) (.inl rfl) (λc q' hc z=>(hs.2 c hc).trans z) ⟨q,hq⟩ ⟨(by have:=CI xs k b r;lia),hd,q,es,ep,hq,h2,h3,h4,h5⟩
def rg(I:Inv X ae σ H s):sysModules<s.heap.objs.size:=nN (by decide) (show mainGlobals<s.heap.objs.size from(I.mod.glob.keeps I.bk).lt)
def QJ(o:HO):TE:=λ_ H Q=>∀p,H p=none->Q (.ref p) (cg H p o)
def NC{pos:Pos}:PE X (.Dict [] [] pos) (QJ (.dT [])):=λae s σ H Q I h =>
 wpAny_Dict_empty ⟨.ref s.heap.objs.size,_,I.laid (a:=s.heap.objs.size) (o:=.dT []) (t':=s.toks) (λ_ _ q=>aZ _ q) (ay _)
  ⟨dI _,fK.mpr (dt (bI (rg I))),_,#[],0,bX _ rfl,⟨rfl,rfl,rfl⟩,rfl,rfl,lz⟩,rfl,h _ (I.hok.fresh (ay _))⟩
def Gv{κ:Type} [DecidableEq κ] (xs:List (κ×Addr×Value)) (k:κ):(atKey xs k).isSome=(xs.map (·.1)).any λj=>decide (j=k):=by
 unfold atKey;rw[BV,List.any_map,List.isSome_find?];rfl
end
noncomputable def QK(CX:HS)(P:Program)(w:World)(K:W.Frag)(mg:Str->Option Value)(base:Heap)(N:List Str)(qual:Str)(scope:Scope)(f:Addr)(cd:Value)(cl:List (Str×Addr))(A:Around)(ax:List Env)(s:Shared)(H:Hp)(E:XK):Cx where
 prog:=P
 w:=w
 K:=K
 mg:=mg
 base:=base
 A:=A.deeper (W.envX qual scope s.heap.objs.size f cd cl)
 N:=N
 s₀:=s
 aa:=H
 env:=W.envX qual scope s.heap.objs.size f cd cl
 ax:=ax
 stack:=W.envX qual scope s.heap.objs.size f cd cl::ax
 ex:=[]
 calm:=true
 fn:=λ_=>false
 pn:=[]
 xe:=λe s'=>wpAny (model P w) (A.deeper (W.envX qual scope s.heap.objs.size f cd cl)) (leaving (W.envX qual scope s.heap.objs.size f cd cl) e) (λ_ Jf=>CX ax H s E e Jf) (λe' Jf=>CX ax H s E e' Jf) s'
structure lI (h:Heap) (H:Hp) (scope:Scope) (cl:List (Str×Addr)) (N:List Str) (τ:St):Prop where
 inj:∀x y c,cl.lookup x=some c->cl.lookup y=some c->x=y
 has:∀x,scope.names.lookup x=some .free->∃c,cl.lookup x=some c
 cell:∀x c,cl.lookup x=some c->∃v,h.IsCell c v
 free:∀x c,cl.lookup x=some c->H c=none
 val:∀(i:Nat) (x:Str) (v:V),N[i]?=some x->τ[i]?=some (some v)->∃c u,scope.names.lookup x=some .free/\cl.lookup x=some c/\h.IsCell c (some u)/\RelV v u
 len:τ.length=N.length
def lI.un(C:lI h H scope cl N τ)(u:Un fs [] H H' h h'):lI h' H' scope cl N τ where
 inj:=C.inj
 has:=C.has
 cell:=λx c e=>by
  obtain⟨v,o,ho,hd⟩:=C.cell x c e;obtain⟨sl,q⟩:=u.any ho (C.free x c e) (by simp)
  exact⟨v,_,q,hd⟩
 free:=λx c e=>by
  obtain⟨v,o,ho,hd⟩:=C.cell x c e;exact u.free c o ho (C.free x c e) (by simp)
 val:=λi x v e1 e2=>by
  obtain⟨c,w,k,e,⟨o,ho,hd⟩,r⟩:=C.val i x v e1 e2;obtain⟨sl,q⟩:=u.any ho (C.free x c e) (by simp)
  exact⟨c,w,k,e,⟨_,q,hd⟩,r⟩
 len:=C.len
def ND{K:W.Frag}
  (hk:scope.kind=.function) (hx:scope.names.lookup x=some .local) (nc:∀y∈scope.names,y.2≠.cell) (hd:A.handled=none) (e0:Env0 P w K mg base A ax s H) (r:RelV v u) (C:lI s.heap H scope cl N τ)
  (Jp:h1.Ns s.heap.objs.size λy=>[(x,u)].reverse.lookup y) (hkp:∀b o,s.heap.get? b=some o->h1.get? b=some o) :
  Inv (QK CX P w K mg base (x::N) qual scope f cd cl A ax s H E) [] (some v::τ) H {s with heap:=h1,toks:=tk}:=by
 have noA:∀b:Addr,b∉(QK CX P w K mg base (x::N) qual scope f cd cl A ax s H E).ex:=λb z=>absurd (show b∈([]:List Addr)from z) (by simp)
 refine⟨⟨e0.mod,hk,rfl,rfl,ay _,C.inj,λy hy=>?_,λy c h _=>(by cases h),λ_=>hd,Around.frames_deeper e0.frames,.inr ⟨rfl,rfl⟩,λb z=>absurd z (noA b),e0.bs,e0.bsz,λb _ _=>noA b,λb z=>absurd z (noA b),e0.funs,e0.frf,e0.tabs⟩,
  rfl,e0.bare,Un.kept hkp,⟨_,Jp,λi y z h1 h2 h3=>?_⟩,λy c h=>?_,e0.hok.fresh (ay _),λy c h=>C.free y c h,λp hp=>absurd (show p∈([]:List (Addr×Obj))from hp) (by simp),e0.hok.kept hkp,?_⟩
 ·have hy:scope.names.lookup y=some .cell\/scope.names.lookup y=some .free:=hy;rcases hy with hy | hy
  ·exact absurd rfl (nc _ (ej hy))
  ·exact C.has y hy
 ·cases i with
  | zero =>
   have e1:x=y:=cz (h1);have e2:v=z:=by grind
   subst e1 e2;exact⟨u,r,.inl ⟨hx,by simp⟩⟩
  | succ i =>
   obtain⟨c,w',k,e,z',r'⟩:=C.val i y z (by simpa using (show(x::N)[i+1]?=some y from h1)) (by grind)
   exact⟨w',r',.inr ⟨.inr k,c,e,z'.keeps hkp⟩⟩
 ·obtain⟨v,z⟩:=C.cell y c h;exact⟨v,z.keeps hkp⟩
 ·show(some v::τ).length=(x::N).length;rw[aK,aK,C.len]
def NF{K:W.Frag}
  (ho:s.heap.get? f=some o) (hf:o.data=.func (W.kla_fn name qual pq9 body scope cl pm cS HU)) (Eb:s.heap.CodeRec cS qual) (hr:dG (k+1) A) (e0:Env0 P w K mg base A ax s H)
  (hb:bindArgs (W.kla_fn name qual pq9 body scope cl pm cS HU) ⟨[u],[]⟩=pure [(x,u)]) (r:RelV v u) (hk:scope.kind=.function) (TK:scope.isCoroutine=false) (TL:scope.isGenerator=false) (hx:scope.names.lookup x=some .local) (nc:∀y∈scope.names,y.2≠.cell)
  (C:lI s.heap H scope cl N τ) (hbody:∃t,PE (QK CX P w K mg base (x::N) qual scope f cS cl A ax s H E) body t/\t (some v::τ) H Q) :
  codeAny (model P w) A (.call (.ref f) ⟨[u],[]⟩) (CR CX ax P w H s Q E) s:=by
 have lim:=e0.mod.nolimit.keeps λb o e=>(e0.bs b o e).1
 refine W.kla_callFunE hr.depth ho hf TK TL rfl Eb ?_;rw[hb];refine aj (wpAny_newFunctionEnv nc (λy hy=>?_) (λGw Jp hsb=>⟨lim.fresh _ hsb,?_⟩) hk)
 ·grind
 ·obtain⟨t,ht,hq⟩:=hbody;have X6:∀b o,s.heap.get? b=some o->Gw.get? b=some o:=λb o e=>hsb.extBut b o (bI (aW e)) (aZ _ e)
  have I:=ND (CX:=CX) (qual:=qual) (f:=f) (cd:=cS) (E:=E) (tk:=s.toks+1) hk hx nc hr.hd e0 r C Jp X6;refine W.kla_codeExpr (jX (ht [] _ _ H Q I hq) (λu' s' hs=>?_) λe s' hs=>hs)
  obtain⟨v',H',J,rv,q⟩:=hs;exact⟨v',H',J.os,J.bare,J.base,J.hok,rv,q⟩
def ug{pos p:Pos}(l:List Value)(h:TriplesOk l)(e:codeAmong p (l++[rawInt pos.line,rawInt pos.col,c])=some cv):codeAmong p l=some cv\/cv=c:=by
 fun_induction TriplesOk l with
 | case1 =>
  simp only[eW,codeAmong,rawInt]at e;split at e
  ·cases e;exact .inr rfl
  ·cases e
 | case2 a t b u x rest ih =>
  simp only[qH,codeAmong]at e ⊢;split at e
  ·rename_i hc;rw[if_pos hc];exact .inl e
  ·rename_i hc;rw[if_neg hc];exact ih h e
 | case3 l h1 h2=>exact h.elim
def wR:HO:=.ext λ_=>True
def CJ(e:h.get? a=some o):fG P w H h a (.oR o wR):=⟨e,trivial,⟨o,e⟩,λ_ _ _ _=>trivial⟩
def zd(mg:Str->Option Value)(base:Heap):Prop:=∃bm o,mg "__builtins__"=some (.ref bm)/\bm≠builtinsNs/\bm≠mainGlobals/\base.get? bm=some o/\o.cls=.type "module"/\o.dict=some builtinsNs/\o.data=.plain
def Jr(H:Hp)(f:Addr)(qual:Str)(params:Arguments)(body:Expr)(scope:Scope)(cl:List (Str×Addr)):Prop :=
 ∃o u pm cS HU c oc uc vs t,H f=some (.oR o u)/\o.data=.func (W.kla_fn "<lambda>" qual params body scope cl pm cS HU)/\cS=.ref c/\H c=some (.oR oc uc)/\oc.data=.fields vs/\vs[1]?=some (.str qual t)
def acG(qual:Str)(params:Arguments)(body:Expr)(scope:Scope)(cl:List (Str×Addr)):TE:=λ_ H Q=>∀f H',H f=none->cG H H'->(∀b o,H' b=some o->H b=some o\/H b=none)->Jr H' f qual params body scope cl->Q (.ref f) H'
section
variable {X:Cx} {x:Str} {params:Arguments} {body:Expr} {scope:Scope} {lp:Pos} {cl:List (Str×Addr)} {c T:Addr}
def TM(hx:x∈du)(ht:W.tabIn X.K x=some (c,T))(hC:W.codeHdIn X.K c T=true)(QL:X.env.code=.ref c)(X7:X.env.qual++"<lambda>"=yS x)(hB:zd X.mg X.base)
  (acH:defaultsOf pq9 X.env=([],[])) (hcl:closureFor scope X.env=pure cl):PE X (.Lambda pq9 body scope lp) (acG (yS x) pq9 body scope cl):=by
 intro ae s σ H Q I h;have hT:=I.tabs x hx c T ht;obtain⟨ps,hP,tri,QM⟩:=(I.hok T _ hT);have C:=W.codeHd_of_K I.qS hC;have hg:=I.mod.glob.keeps I.bk;obtain⟨bm,ob,b1,b2,b3,b4,b5⟩:=hB;have ne:∀{b:Addr} {o:Obj},X.base.get? b=some o->b≠T:=λ{b o} e z=>by
  have:=(I.bs b o e).2;rw[z,hT]at this;cases this
 refine W.kla_eval acH ?_;rw[X7];cases hc:codeAmong lp ps.toList with
 | some cv =>
  obtain⟨cc,oc,uc,vs,t,rfl,k1,k2,k3⟩:=QM lp cv hc;refine W.kla_makeFunctionHit hcl I.ok.glob hg QL C hP tri hc ⟨bm,ob,b1,b2,b3,ne b4,(I.bs _ _ b4).1,b5⟩ λHU h' tk hk hsz=>?_
  have hn:=I.hok.fresh hsz;refine⟨.ref h'.objs.size,cg H h'.objs.size (.oR _ wR),I.laid (λb u e=>aZ _ (hk b u e)) hsz (CJ (bX _ rfl)),rfl,h _ _ hn (λb u e=>by rw[aJ (bP e hn)];exact e) (λb o e=>?_) ?_⟩
  ·by_cases hb:b=h'.objs.size
   ·grind
   ·rw[aJ hb]at e;exact .inl e
  ·exact⟨_,_,_,_,_,cc,oc,uc,vs,t,aA,rfl,rfl,by rw[aJ (bP k1 hn)];exact k1,k2,k3⟩
 | none =>
  refine W.kla_makeFunction hcl I.ok.glob hg QL C hP tri hc (by
   obtain⟨o,es,ep,e,_⟩:=I.mod.glob;exact ne e) ⟨bm,ob,b1,b2,b3,ne b4,(I.bs _ _ b4).1,b5⟩ λc' HU h' tk CK Mt fx acI htb=>?_
  obtain⟨ags,oc,vs,t,e2,hoc,hd,hv⟩:=acI;cases e2;have hnc:=I.hok.fresh Mt;have TN:=I.hok.fresh (bA Mt (i9 fx));have nfc:=qK fx;have cT:c'≠T:=λz=>by rw[z,hT]at hnc;cases hnc
  have fT:h'.objs.size≠T:=λz=>by rw[z,hT]at TN;cases TN
  let o1:HO:=.oR oc wR
  let H1:Hp:=cg H c' o1
  have hn1:H1 h'.objs.size=none:=by show cg H c' o1 _=_;rw[aJ nfc];exact TN
  let fo:Obj:=W.kla_obj "<lambda>" (yS x) pq9 body scope cl ((X.mg "__name__").getD .none) c' HU
  let H2:Hp:=cg H1 h'.objs.size (.oR fo wR)
  have QN:cG H H1:=λb u e=>by show cg H c' o1 b=_;rw[aJ (bP e hnc)];exact e
  have s12:cG H1 H2:=λb u e=>by show cg H1 _ _ b=_;rw[aJ (bP e hn1)];exact e
  have keep:∀b o,b≠T->s.heap.get? b=some o->(h'.push fo).get? b=some o:=λb o hb e=>aZ _ (CK b o hb e)
  have nT:∀b,H b=none->b≠T:=λb n z=>by rw[z,hT]at n;cases n
  have lt:∀b o,s.heap.get? b=some o->b<s.heap.objs.size:=λb o e=>aW e
  have hf2:∀b o,s.heap.get? b=some o->H b=none->H2 b=none:=λb o e n=>by
   show cg (cg H c' o1) _ _ b=none;have l1:=lt b o e;rw[aJ (bI (bY l1 (bA Mt (i9 fx)))),aJ (bI (bY l1 Mt))];exact n
  have un:Un X.fs [] H H2 s.heap (h'.push fo):=⟨λb o e n _ _=>keep b o (nT b n) e,λb o e n _ _=>⟨o.slots,keep b o (nT b n) e⟩,λb o e n _=>hf2 b o e n,λb o e _=>by
    by_cases hb:b=T
    ·subst hb;exact⟨_,aZ _ htb⟩
    ·exact⟨o,keep b o hb e⟩,λb xs e=>s12 _ _ (QN _ _ e),λb o u e=>s12 _ _ (QN _ _ e),λb q e=>s12 _ _ (QN _ _ e)⟩
  have hok:lF X.prog X.w H2 (h'.push fo):=λb u e=>by
   by_cases X8:b=h'.objs.size
   ·subst X8;have e:cg H1 h'.objs.size (.oR fo wR) h'.objs.size=some u:=e;rw[aA]at e;cases e;exact CJ (bX _ rfl)
   ·have e:cg H1 h'.objs.size (.oR fo wR) b=some u:=e;rw[aJ X8]at e;by_cases X9:b=c'
    ·subst X9;have e:cg H b o1 b=some u:=e;rw[aA]at e;cases e;exact CJ (aZ _ hoc)
    ·have e:cg H c' o1 b=some u:=e;rw[aJ X9]at e;by_cases hbT:b=T
     ·subst hbT;rw[hT]at e;cases e;refine⟨_,aZ _ htb,?_,λpos cv z=>?_⟩
      ·simpa using TriplesOk_snoc lp.line lp.col (.ref c') ps.toList tri
      ·rcases ug ps.toList tri (by simpa using z)with z | z
       ·obtain⟨cc,oc',uc,wU,t',q1,q2,q3⟩:=QM pos cv z;exact⟨cc,oc',uc,wU,t',q1,s12 _ _ (QN _ _ q2),q3⟩
       ·exact⟨c',oc,wR,vs,t,z,s12 _ _ (by show cg H c' o1 c'=_;exact aA),hd,hv⟩
     ·refine(I.hok b u e).wG (λd v wF q=>keep d v ?_ q) (λd q=>s12 _ _ (QN _ _ q)) (λd xs q=>s12 _ _ (QN _ _ q)) λd ob' v q=>s12 _ _ (QN _ _ q)
      rcases wF with rfl | wF
      ·exact hbT
      ·rintro rfl
       rw[hT]at wF;cases wF
  refine⟨.ref h'.objs.size,H2,I.un un hok,rfl,h _ _ TN (QN.trans s12) (λb o e=>?_) ?_⟩
  ·by_cases X8:b=h'.objs.size
   ·rw[X8];exact .inr TN
   ·have e:cg H1 h'.objs.size (.oR fo wR) b=some o:=e;rw[aJ X8]at e;by_cases X9:b=c'
    ·rw[X9];exact .inr hnc
    ·have e:cg H c' o1 b=some o:=e;rw[aJ X9]at e;exact .inl e
  ·exact⟨_,_,_,_,_,c',oc,wR,vs,t,(aA),rfl,rfl,s12 _ _ (aA),hd,hv⟩
end
def Yb{K:W.Frag}{st:Stmt}(Fn:Cf K x qual st f fd)(S:dD N ps (aw st))
  (hr:dG (k+1) A) (e0:Env0 P w K mg base A ax s H) (hb:BindsTo s fd args (ps.zip us)) (r:Vals vs us) (hl:vs.length=ps.length)
  (hbody:∀cS:Value,∃t,PSs (fg CX P w K mg base N qual (aw st) f cS A ax s H E) (dh st) t/\t {nx:=λ_ H'=>Q .bB H',rt:=Q} (start N vs) H) :
  codeAny (model P w) A (.call (.ref f) args) (CR CX ax P w H s Q E) s:=by
 obtain⟨oc,od,kV,doc,pm,an,cS,ct,yB,rfl,lk,Eb⟩:=Fn.ex;have old:∀b o,base.get? b=some o->s.heap.get? b=some o:=λb o e=>(e0.bs b o e).1
 have KX:=e0.mod.kin.keeps old;have Yc:∀y∈ps.zip us,(aw st).names.lookup y.1=some .local\/((aw st).names.lookup y.1=some .cell/\((cellsFrom (s.heap.objs.size+1) (aw st).names []).lookup y.1).isSome=true):=λy hy=>by
  rcases S.par y.1 (we hy).1 with q | q
  ·exact .inl q
  ·exact .inr ⟨q,W.cellsFrom_some _ _ _ (.inl q)⟩
 refine codeAny_call_function hr.depth (KX _ _ lk) rfl S.co S.gen rfl (W.codeRec_of KX Eb) (hb _ _ _ _ (Im S.kind Yc λenv he s1 ic=>?_))
 subst he;refine⟨(e0.mod.nolimit.keeps old).keeps ic.toInCall.keep,codeAny_func ?_⟩;obtain⟨t,ht,hq⟩:=hbody cS;have I:Inv (fg CX P w K mg base N qual (aw st) f cS A ax s H E) [] (start N vs) H s1:=uX S hr.hd e0 hl r ic;refine jX (ht [] s1 (start N vs) H _ I hq) (λfl s' hs=>?_) λe s' hs=>hs
 have jI:∀{bG:St} {H':Hp} {v:V} {u:Value},Inv (fg CX P w K mg base N qual (aw st) f cS A ax s H E) [] bG H' s'->RelV v u->Q v H'->CE ax P w H s Q u s':=λ{_ H' v _} J rv q=>⟨v,H',J.os,J.bare,J.base,J.hok,rv,q⟩
 cases fl with
 | ret u=>obtain⟨v,bG,H',J,rv,q⟩:=hs;exact jI J rv q
 | next=>obtain⟨bG,H',J,q⟩:=hs;exact jI (v:=V.bB) J rfl q
 | brk=>obtain⟨_,_,_,q⟩:=hs;exact False.elim q
 | cont=>obtain⟨_,_,_,q⟩:=hs;exact False.elim q
end L2
namespace L2.U
open PySem PySem.Spec PyProof.Rows
def nw{α:Sort u}(a:α):∃x,x=a:=⟨_,rfl⟩
noncomputable abbrev PV.lst (ps:List PV):PV:=.nd .lst ps
structure Gr (F F':Fz):Prop where
 s:cG F.F F'.F
 m:∀(n:Nat) (a:Addr),F.μ[n]?=some a->F'.μ[n]?=some a
def Gr.refl(F:Fz):Gr F F:=⟨cG.refl _,λ_ _ h=>h⟩
def Gr.trans(a:Gr F F1)(b:Gr F1 F2):Gr F F2:=⟨a.s.trans b.s,λn c h=>b.m n c (a.m n c h)⟩
def bu{K:W.Frag}(e:cG H H')(h:gU K H a xs):gU K H' a xs:=by
 rcases h with(h | ⟨o,h⟩) | h
 ·exact .inl (.inl (e _ _ h))
 ·exact .inl (.inr ⟨o,e _ _ h⟩)
 ·exact .inr h
def NG(e:cG H H')(h:Rd H a u):Rd H' a u:=h.imp (e _ _) (by rintro⟨o,q⟩;exact⟨o,e _ _ q⟩)
def mj{K:W.Frag}(e:cG H H')(h:kF K H a xs):kF K H' a xs:=h.imp (NG e) id
def _root_.L2.kF.of{K:W.Frag}(h:H a=some (.lst xs)):kF K H a xs:=.inl (.inl h)
section
variable {K:W.Frag} {F F':Fz}
def kG.to(h:kG K G H a x k vs)(g:cG G G')(e:∀o,H a=some o->H' a=some o)(hy:y=true->x=true):kG K G' H' a y k vs:=by
 have keys:∀{xs:List (List bz×Addr×Value)},eX K G xs->eX K G' xs:=λhk z hz=>bu g (hk z hz)
 match k,h with
 | .ao,⟨h1,h2⟩ =>
  refine⟨?_,?_⟩
  ·grind
  ·rcases h2 with(h2 | ⟨o,h2⟩) | h2
   ·exact .inl (.inl (e _ h2))
   ·exact .inl (.inr ⟨o,e _ h2⟩)
   ·exact .inr h2
 | .lst,h =>
  cases y with
  | true=>rw[hy rfl]at h;exact e _ h
  | false =>
   cases x with
   | true=>exact kF.of (e _ h)
   | false =>
    rcases(h)with(h | ⟨o,h⟩) | h
    ·exact .inl (.inl (e _ h))
    ·exact .inl (.inr ⟨o,e _ h⟩)
    ·exact .inr h
 | .oQ C ns,⟨Ca,dx,fs,h1,h2,h3,h4,h5⟩=>exact⟨Ca,dx,fs,h1,h2,h3,e _ h4,h5⟩
 | .dU false ks,⟨kvs,h1,h2⟩=>exact⟨kvs,e _ h1,h2⟩
 | .dU true ks,⟨xs,h1,h2,h3⟩=>exact⟨xs,e _ h1,keys h2,h3⟩
mutual
theorem bO.mono(e:Gr F F'):∀{p:PV} {v:V},bO K F p v->bO K F' p v
 | .bB,_,h=>by simpa only[bO]using h
 | .bl _,_,h=>by simpa only[bO]using h
 | .int _,_,h=>by simpa only[bO]using h
 | .str _,_,h=>by simpa only[bO]using h
 | .fn _,_,h=>by simpa only[bO]using h
 | .ref n,_,h=>by
  simp only[bO]at h ⊢;obtain⟨a,h1,h2⟩:=h;exact⟨a,e.m _ _ h1,h2⟩
 | .nd k ps,_,h=>by
  simp only[bO]at h ⊢;obtain⟨a,vs,h1,h2,h3⟩:=h;exact⟨a,vs,h1,h2.to e.s (λo q=>e.s _ _ q) id,az.mono e h3⟩
theorem az.mono(e:Gr F F'):∀{ps:List PV} {vs:List V},az K F ps vs->az K F' ps vs
 | [],_,h=>by simpa only[az]using h
 | _::_,_,h=>by
  simp only[az]at h ⊢;obtain⟨v,r,h1,h2,h3⟩:=h;exact⟨v,r,h1,h2.mono e,az.mono e h3⟩
end
def az.cj(h:az K F (p::ps) vs):∃v r,vs=v::r/\bO K F p v/\az K F ps r:=by
 simpa only[az]using h
def az.cO(h:az K F [] vs):vs=[]:=by simpa only[az]using h
theorem rh:∀{ps:List PV} {vs:List V},az K F ps vs↔Paired (bO K F) ps vs
 | [],vs=>⟨λh=>by rw[h.cO];exact .nil,λh=>by cases h;exact .nil⟩
 | p::ps,vs=>⟨λh=>by obtain⟨v,r,rfl,h1,h2⟩:=h.cj;exact .cons h1 (rh.mp h2),λh=>by cases h with | cons h1 h2=>exact .cons h1 (rh.mpr h2)⟩
def az.length(h:az K F ps vs):ps.length=vs.length:=nK (rh.mp h)
theorem az.append:∀{ps qs:List PV} {vs ws:List V},az K F ps vs->az K F qs ws->az K F (ps++qs) (vs++ws)
 | [],_,_,_,h,t=>by rw[h.cO];exact t
 | _::_,_,_,_,h,t=>by
  obtain⟨v,r,rfl,h1,h2⟩:=h.cj;exact .cons h1 (h2.append t)
theorem az.get:∀{ps:List PV} {vs:List V} {i:Nat} {p:PV},az K F ps vs->ps[i]?=some p->∃v,vs[i]?=some v/\bO K F p v
 | [],_,_,_,_,e=>by cases e
 | _::_,_,0,_,h,e=>by
  obtain⟨v,r,rfl,h1,_⟩:=h.cj;cases e;exact⟨v,rfl,h1⟩
 | _::_,_,_+1,_,h,e=>by
  obtain⟨v,r,rfl,_,h2⟩:=h.cj;exact h2.get e
theorem az.take:∀{ps:List PV} {vs:List V} (n:Nat),az K F ps vs->az K F (ps.take n) (vs.take n)
 | _,_,0,_=>by simp only[List.take_zero];exact .nil
 | [],_,_+1,h=>by rw[h.cO];simp only[List.take_nil];exact .nil
 | _::_,_,n+1,h=>by
  obtain⟨v,r,rfl,h1,h2⟩:=h.cj;exact .cons h1 (h2.take n)
theorem az.drop:∀{ps:List PV} {vs:List V} (n:Nat),az K F ps vs->az K F (ps.drop n) (vs.drop n)
 | _,_,0,h=>h
 | [],_,_+1,h=>by rw[h.cO];simp only[List.drop_nil];exact .nil
 | _::_,_,n+1,h=>by
  obtain⟨v,r,rfl,_,h2⟩:=h.cj;exact h2.drop n
theorem az.set(r:bO K F p v):∀{ps:List PV} {vs:List V} (i:Nat),az K F ps vs->az K F (ps.set i p) (vs.set i v)
 | [],_,_,h=>by rw[h.cO];exact .nil
 | _::_,_,0,h=>by
  obtain⟨v,r',rfl,_,h2⟩:=h.cj;exact .cons r h2
 | _::_,_,i+1,h=>by
  obtain⟨v,r',rfl,h1,h2⟩:=h.cj;exact .cons h1 (h2.set r i)
theorem az.reverse:∀{ps:List PV} {vs:List V},az K F ps vs->az K F ps.reverse vs.reverse
 | [],_,h=>by rw[h.cO];exact .nil
 | _::_,_,h=>by
  obtain⟨v,r,rfl,h1,h2⟩:=h.cj;rw[nG,nG];exact h2.reverse.append (.cons h1 .nil)
def dj:bO K F (.ref n) v↔∃a,F.μ[n]?=some a/\v=.ref a:=by simp only[bO]
def rj:bO K F (.fn x) v↔∃a,v=.ref a/\W.nsIn K mainGlobals x=some (some (.ref a)):=by simp only[bO]
def fY:bO K F (.lst ps) v↔∃a vs,v=.ref a/\kF K F.F a vs/\az K F ps vs:=jc
end
structure aq where
 k:Kd
 ps:List PV
structure cx where
 ρ:List (Option PV)
 h:List aq
noncomputable def live(c:aq):Bool:=match c.k with | .ao=>false | _=>true
structure kx (K:W.Frag) (aa:Hp) (ab F:Fz) (h:List aq) (H:Hp):Prop where
 sub:cG F.F H
 keep:cG aa H
 base:Gr ab F
 fresh:∀a o,F.F a=some o->ab.F a=some o\/aa a=none
 new:∀(n:Nat) (a:Addr),F.μ[n]?=some a->aa a=none/\∃o,H a=some o
 hl:h.length=F.μ.length
 nd:F.μ.Nodup
 cell:∀(n:Nat) (c:aq) (a:Addr),h[n]?=some c->F.μ[n]?=some a->live c=true->F.F a=none/\∃vs,kG K F.F H a true c.k vs/\az K F c.ps vs
structure Lc (K:W.Frag) (F:Fz) (ρ:List (Option PV)) (σ:St):Prop where
 av:∀(i:Nat) (p:PV),ρ[i]?=some (some p)->∃v,σ[i]?=some (some v)/\bO K F p v
 len:ρ.length=σ.length
structure Rep (K:W.Frag) (aa:Hp) (ab F:Fz) (st:cx) (σ:St) (H:Hp):Prop where
 c:kx K aa ab F st.h H
 l:Lc K F st.ρ σ
def eJ(h:H p=none):cG H (cg H p o):=λb u q=>by rw[aJ (bP q h)];exact q
section
variable {K:W.Frag} {aa H H':Hp} {ab F F':Fz} {h:List aq} {st:cx} {σ:St}
def Lc.mono(L:Lc K F ρ σ)(e:Gr F F'):Lc K F' ρ σ:=⟨λi p z=>let ⟨v,h1,h2⟩:=L.av i p z;⟨v,h1,h2.mono e⟩,L.len⟩
def kx.after(R:kx K aa ab F h H)(e:cG H H')(f:cG F.F F'.F)(m:F'.μ=F.μ)(s:cG F'.F H')(n:∀a o,F'.F a=some o->F.F a=some o\/H a=none):kx K aa ab F' h H' where
 sub:=s
 keep:=R.keep.trans e
 base:=R.base.trans ⟨f,λ_ _ q=>by rw[m];exact q⟩
 fresh:=λa o q=>by
  rcases n a o q with z | z
  ·exact R.fresh a o z
  ·exact .inr (R.keep.free z)
 new:=λn a q=>by rw[m]at q;obtain⟨h1,o,h2⟩:=R.new n a q;exact⟨h1,o,e _ _ h2⟩
 hl:=by rw[m];exact R.hl
 nd:=by rw[m];exact R.nd
 cell:=λi c a hc ha hk=>by
  rw[m]at ha;obtain⟨h1,vs,h2,h3⟩:=R.cell i c a hc ha hk;refine⟨?_,vs,h2.to f (λo q=>e _ _ q) id,h3.mono ⟨f,λ_ _ q=>by rw[m];exact q⟩⟩
  obtain⟨_,o,ho⟩:=R.new i a ha;cases q:F'.F a with
  | none=>rfl
  | some u =>
   rcases n a u q with z | z
   ·rw[h1]at z;cases z
   ·rw[ho]at z;cases z
def Rep.after(R:Rep K aa ab F st σ H)(e:cG H H')(f:cG F.F F'.F)(m:F'.μ=F.μ)(s:cG F'.F H')(n:∀a o,F'.F a=some o->F.F a=some o\/H a=none):Rep K aa ab F' st σ H' :=
 ⟨R.c.after e f m s n,R.l.mono ⟨f,λ_ _ q=>by grind⟩⟩
def Rep.sub(R:Rep K aa ab F st σ H):cG F.F H:=R.c.sub
def Rep.laid(R:Rep K aa ab F st σ H)(o:HO)(hp:H p=none):Rep K aa ab ⟨cg F.F p o,F.μ⟩ st σ (cg H p o)/\Gr F ⟨cg F.F p o,F.μ⟩:=by
 have fp:=R.sub.free hp;refine⟨R.after (eJ hp) (eJ fp) rfl (λb u q=>?_) (λb u q=>?_),eJ fp,λ_ _ q=>q⟩
 ·by_cases hb:b=p
  ·subst hb;rw[show(Fz.mk (cg F.F b o) F.μ).F b=cg F.F b o b from rfl,aA]at q;rw[aA];exact q
  ·rw[show(Fz.mk (cg F.F p o) F.μ).F b=cg F.F p o b from rfl,aJ hb]at q;rw[aJ hb];exact R.sub _ _ q
 ·by_cases hb:b=p
  ·grind
  ·rw[show(Fz.mk (cg F.F p o) F.μ).F b=cg F.F p o b from rfl,aJ hb]at q;exact .inl q
def kx.alloc(R:kx K aa ab F h H)(hp:H p=none)(hn:kG K F.F (cg H p o) p true c.k vs)(hb:az K F c.ps vs) :
  kx K aa ab ⟨F.F,F.μ++[p]⟩ (h++[c]) (cg H p o)/\Gr F ⟨F.F,F.μ++[p]⟩/\(F.μ++[p])[h.length]?=some p:=by
 have g:Gr F ⟨F.F,F.μ++[p]⟩:=⟨cG.refl _,λn a q=>by
  grind⟩
 have Yd:∀n a,(F.μ++[p])[n]?=some a->F.μ[n]?=some a\/n=F.μ.length/\a=p:=λn a q=>by
  grind
 have no:∀n a,F.μ[n]?=some a->a≠p:=λn a q z=>by
  subst z;obtain⟨_,o,ho⟩:=R.new n a q;rw[hp]at ho;cases ho
 refine⟨⟨λb u q=>by rw[aJ (bP (R.sub _ _ q) hp)];exact R.sub _ _ q,R.keep.trans (eJ hp),R.base.trans g,R.fresh,λn a q=>?_,by simp[R.hl],?_,λn d a hd ha hk=>?_⟩,g,by rw[R.hl];simp⟩
 ·rcases Yd n a q with z | ⟨_,rfl⟩
  ·obtain⟨h1,u,h2⟩:=R.new n a z;exact⟨h1,u,eJ hp _ _ h2⟩
  ·exact⟨R.keep.free hp,o,aA⟩
 ·rw[nE];refine⟨R.nd,by simp,λa ha b hb z=>?_⟩
  obtain⟨n,hn⟩:=qz.mp ha;rw[aB]at hb;exact no n a hn (z.trans hb)
 ·rcases Yd n a ha with z | ⟨rfl,rfl⟩
  ·rw[fJ (by rw[R.hl];exact(bM.mp z).1)]at hd
   obtain⟨h1,ws,h2,h3⟩:=R.cell n d a hd z hk;exact⟨h1,ws,h2.to (cG.refl _) (λu q=>eJ hp _ _ q) id,h3.mono g⟩
  ·rw[<-R.hl,iU (ay _),wA]at hd;cases hd;exact⟨R.sub.free hp,vs,hn,hb.mono g⟩
def kx.write(R:kx K aa ab F h H)(hc:h[n]?=some c)(hl:live c=true)(ha:F.μ[n]?=some a)(hn:kG K F.F (cg H a o) a true d.k vs)(hb:az K F d.ps vs) :
  kx K aa ab F (h.set n d) (cg H a o):=by
 obtain⟨hF,_⟩:=R.cell n c a hc ha hl;refine⟨λb u q=>by rw[aJ (λz=>by grind)];exact R.sub _ _ q,λb u q=>?_,R.base,R.fresh,λm b q=>?_,by rw[ly];exact R.hl,R.nd,λm e b he jt hk=>?_⟩
 ·rw[aJ (λz=>by subst z;rw[(R.new n b ha).1]at q;cases q)];exact R.keep _ _ q
 ·obtain⟨h1,u,h2⟩:=R.new m b q;refine⟨h1,?_⟩;by_cases hb:b=a
  ·subst hb;exact⟨o,aA⟩
  ·exact⟨u,by rw[aJ hb];exact h2⟩
 ·by_cases hm:n=m
  ·grind
  ·rw[iW hm]at he;obtain⟨h1,ws,h2,h3⟩:=R.cell m e b he jt hk;have ne:b≠a:=λz=>by
    subst z;obtain⟨l1,e1⟩:=bM.mp jt;obtain⟨l2,e2⟩:=bM.mp ha;exact hm ((B0 R.nd).mp (e2.trans e1.symm))
   exact⟨h1,ws,h2.to (cG.refl _) (λu q=>by rw[aJ ne];exact q) id,h3⟩
end
def _root_.L2.PE.imp(h:PE X e t)(hi:∀σ H Q,t' σ H Q->t σ H Q):PE X e t':=λae s σ H Q I hw=>h ae s σ H Q I (hi _ _ _ hw)
def _root_.L2.PT.imp(h:PT X e t)(hi:∀σ H Q,t' σ H Q->t σ H Q):PT X e t':=λae s σ H Q I hw=>h ae s σ H Q I (hi _ _ _ hw)
def _root_.L2.PW.imp(h:PW X e t)(hi:∀σ H Q,t' σ H Q->t σ H Q):PW X e t':=λw ae s σ H Q I hw=>h w ae s σ H Q I (hi _ _ _ hw)
def _root_.L2.PA.imp(h:PA X e t)(hi:∀σ H Q,t' σ H Q->t σ H Q):PA X e t':=λpos ae s σ H Q I hw=>h pos ae s σ H Q I (hi _ _ _ hw)
def _root_.L2.PS.imp{st:Stmt}(h:PS X st t)(hi:∀D σ H,t' D σ H->t D σ H):PS X st t':=λae s σ H D I hw=>h ae s σ H D I (hi _ _ _ hw)
def _root_.L2.PSs.imp{st:List Stmt}(h:PSs X st t)(hi:∀D σ H,t' D σ H->t D σ H):PSs X st t':=λae s σ H D I hw=>h ae s σ H D I (hi _ _ _ hw)
def _root_.L2.PG.imp(h:PG X e t)(hi:∀v σ H Q,t' v σ H Q->t v σ H Q):PG X e t':=λae s σ H v u Q I r hw=>h ae s σ H v u Q I r (hi _ _ _ _ hw)
def _root_.L2.PGs.imp(h:PGs X e t)(hi:∀v σ H Q,t' v σ H Q->t v σ H Q):PGs X e t':=λae s σ H v u Q I r hw=>h ae s σ H v u Q I r (hi _ _ _ _ hw)
def _root_.L2.PI.imp(h:PI X tg e t)(hi:∀σ H Q,t' σ H Q->t σ H Q):PI X tg e t':=λae s σ H R I hw=>h ae s σ H R I (hi _ _ _ hw)
inductive Rs (α:Type) where
 | ok (a:α) | ex (m:Bool) (C:Str)
abbrev Gx(α:Type):=cx->Option (Rs α×cx)
noncomputable def Ye{α β:Type}(k:α->Gx β):Rs α×cx->Option (Rs β×cx)
 | (.ok a,st)=>k a st
 | (.ex m C,st)=>some (.ex m C,st)
def bnd{α β:Type}(f:Gx α)(k:α->Gx β):Gx β:=λst=>(f st).bind (Ye k)
noncomputable def aX{α:Type}(a:α):Gx α:=λst=>some (.ok a,st)
noncomputable def hp{α:Type}(g:List aq->Option α):Gx α:=λst=>(g st.h).map λa=>(.ok a,st)
noncomputable def jK{α:Type}(o:Option α):Gx α:=λst=>o.map λa=>(.ok a,st)
def Dm(H H':Hp):Prop:=∀b o,H b=some o->∃o',H' b=some o'
def iH(P:Program)(w:World):HS:=λax H s E e s'=>∃a cls a0 B H',e=.ref a/\s'.os=s.os/\AllBare s'.gens/\Un (nW ax) [] H H' s.heap s'.heap/\lF P w H' s'.heap/\Dm H H'/\E cls none H' /\
 Heap.FlyingW B ax a cls a0 s'.heap/\(∀b o,H' b=some o->∃ob,B.get? b=some ob)/\∀b ob,s.heap.get? b=some ob->H b=none->b∉nW ax->B.get? b=some ob
def zf:Cz (iH P w) X E0:=(by rintro _ _ _ _ _ _ _ ⟨_,_,_,_,_,_,_,_,_,_,_,h,_⟩;exact h.elim)
def Js(X:Cx)(aa:Hp)(ab F:Fz)(C:Str)(st:cx):Bool->Prop
 | true=>∀F' bG H' ae s h1 a cls vs,Rep X.K aa ab F' st bG H'->Gr F F'->Inv X ae bG H' s->ClsAt X.K C cls->Heap.MadeExcOf s.heap h1 a cls vs->X.xe (.ref a) {s with heap:=h1}
 | false=>∀bG ae H1 s1 e s',Inv X ae bG H1 s1->iH X.prog X.w X.stack H1 s1 (λcls _ H2=>ClsAt X.K C cls/\∃F',Rep X.K aa ab F' st bG H2/\Gr F F') e s'->X.xe e s'
section
variable {X:Cx} {aa H:Hp} {ab F F1:Fz} {st bc:cx} {σ:St} {α β γ δ:Type}
def Js.mono(h:Js X aa ab F C st m)(s:Gr F F1):Js X aa ab F1 C st m:=by
 cases m with
 | true=>exact λF' bG H' ae s1 h1 a cls vs R z=>h F' bG H' ae s1 h1 a cls vs R (s.trans z)
 | false =>
  rintro bG ae H1 s1 e s' I ⟨a,cls,a0,B,H',h1,h2,h3,h4,h5,h6,⟨c,F',R,z⟩,h8⟩
  exact h bG ae H1 s1 e s' I ⟨a,cls,a0,B,H',h1,h2,h3,h4,h5,h6,⟨c,F',R,s.trans z⟩,h8⟩
def Jt(X:Cx)(aa:Hp)(ab F:Fz)(P:α->cx->Prop):Rs α×cx->Prop
 | (.ok a,st)=>P a st
 | (.ex m C,st)=>Js X aa ab F C st m
def At(X:Cx)(aa:Hp)(ab F:Fz)(st:cx)(f:Gx α)(P:α->cx->Prop):Prop:=∃r,f st=some r/\Jt X aa ab F P r
def Jt.imp(h:Jt X aa ab F P r)(g:Gr F F1)(i:∀a cC,P a cC->P' a cC):Jt X aa ab F1 P' r:=by
 match r,h with
 | (.ok a,st),h=>exact i a st h
 | (.ex m C,st),h=>exact Js.mono h g
def At.imp(h:At X aa ab F st f P)(g:Gr F F1)(i:∀a cC,P a cC->P' a cC):At X aa ab F1 st f P' :=
 let ⟨r,h1,h2⟩:=h;⟨r,h1,h2.imp g i⟩
def aY(h:o.bind f=some b):∃a,o=some a/\f a=some b:=by
 cases o with
 | none=>cases h
 | some a=>exact⟨a,rfl,h⟩
def bj(h:o.map f=some b):∃a,o=some a/\f a=b:=by
 simp_all
def At.bnd(h:At X aa ab F st (bnd f k) P):At X aa ab F st f (λa bc=>At X aa ab F bc (k a) P):=by
 obtain⟨r,h1,h2⟩:=h;obtain⟨q,e1,e2⟩:=aY h1;refine⟨q,e1,?_⟩
 match q,e2 with
 | (.ok a,s1),e2=>exact⟨r,e2,h2⟩
 | (.ex m C,s1),e2=>cases e2;exact h2
def At.aX(h:At X aa ab F st (aX a) P):P a st:=by
 obtain⟨r,h1,h2⟩:=h;cases h1;exact h2
def At.hp(h:At X aa ab F st (hp g) P):∃a,g st.h=some a/\P a st:=by
 obtain⟨r,h1,h2⟩:=h;obtain⟨a,e1,e2⟩:=bj h1;subst e2;exact⟨a,e1,h2⟩
def At.jK(h:At X aa ab F st (jK g) P):∃a,g=some a/\P a st:=by
 obtain⟨r,h1,h2⟩:=h;obtain⟨a,e1,e2⟩:=bj h1;subst e2;exact⟨a,e1,h2⟩
def Tx(X:Cx)(aa:Hp)(ab:Fz)(rl:Fz->α->β->Prop)(F:Fz)(st:cx)(f:Gx α)(σ:St)(Q:β->Hp->Prop):Prop :=
 At X aa ab F st f λa cC=>∀b H' F',Rep X.K aa ab F' cC σ H'->Gr F F'->rl F' a b->Q b H'
def tX(X:Cx)(aa:Hp)(ab:Fz)(rl:Fz->α->β->Prop)(f:Gx α):St->Hp->(β->Hp->Prop)->Prop:=λσ H Q=>∃F st,Rep X.K aa ab F st σ H/\Tx X aa ab rl F st f σ Q
def Tx.mono(h:Tx X aa ab rl F st f σ Q)(g:Gr F F1)(i:∀b H',Q b H'->Q' b H'):Tx X aa ab rl F1 st f σ Q' :=
 At.imp h g λa cC q b H' F' R s r=>i _ _ (q b H' F' R (g.trans s) r)
def Tx.bnd(h:Tx X aa ab rl' F st (bnd f k) σ Q)
  (i:∀a b F1 bc H1,Rep X.K aa ab F1 bc σ H1->Gr F F1->rl F1 a b->Tx X aa ab rl' F1 bc (k a) σ Q->Q' b H1):Tx X aa ab rl F st f σ Q' :=
 At.imp (At.bnd h) (Gr.refl F) λa bc q b H1 F1 R1 g1 r1=>i a b F1 bc H1 R1 g1 r1 (Tx.mono (q) g1 λ_ _ z=>z)
def Tx.aX(h:Tx X aa ab rl F st (aX a) σ Q):∀b H' F',Rep X.K aa ab F' st σ H'->Gr F F'->rl F' a b->Q b H':=At.aX h
def Tx.hp(h:Tx X aa ab rl F st (hp g) σ Q):∃a,g st.h=some a/\∀b H' F',Rep X.K aa ab F' st σ H'->Gr F F'->rl F' a b->Q b H':=At.hp h
def Tx.jK(h:Tx X aa ab rl F st (jK g) σ Q):∃a,g=some a/\∀b H' F',Rep X.K aa ab F' st σ H'->Gr F F'->rl F' a b->Q b H':=At.jK h
end
abbrev rB:Fz->Bool->Bool->Prop:=λ_ a b=>a=b
abbrev tE(X:Cx)(aa:Hp)(ab:Fz)(f:Gx PV):TE:=tX X aa ab (bO X.K) f
abbrev tT(X:Cx)(aa:Hp)(ab:Fz)(f:Gx Bool):TT:=tX X aa ab rB f
abbrev tA(X:Cx)(aa:Hp)(ab:Fz)(f:Gx (List PV)):TA:=tX X aa ab (az X.K) f
section
variable {X:Cx} {aa:Hp} {ab:Fz} {a b c e:Expr} {es rest:List Expr} {fa fb fc:Gx PV} {ga gb:Gx Bool} {ts:Gx (List PV)} {pos:Pos}
noncomputable def rd(i:Nat):Gx PV:=λst=>(st.ρ[i]?).join.map λp=>(.ok p,st)
def QO(i:Nat)(h:PE X (.Name x pos) (MP i)):PE X (.Name x pos) (tE X aa ab (rd i)):=h.imp <| by
 rintro σ H Q ⟨F,st,R,r,h1,h2⟩
 obtain⟨p,e1,e2⟩:=bj h1;subst e2;cases z:st.ρ[i]? with
 | none=>rw[z]at e1;cases e1
 | some o =>
  rw[z]at e1;cases o with
  | none=>cases e1
  | some p' =>
   cases e1;obtain⟨v,h3,h4⟩:=R.l.av i p z;exact⟨v,h3,h2 v H F R (Gr.refl F) h4⟩
def zg(h:PE X e (tC v))(hb:∀F,bO X.K F p v):PE X e (tE X aa ab (aX p)):=h.imp (by rintro σ H Q ⟨F,st,R,q⟩;exact q.aX v H F R (Gr.refl F) (hb F))
def Yg{j pos}:PE X (.Constant (.int i) j pos) (tE X aa ab (aX (.int i))):=zg SM λ_=>aG.mpr rfl
def acJ{j pos}:PE X (.Constant (.bool i) j pos) (tE X aa ab (aX (.bl i))):=zg Xr λ_=>bZ.mpr rfl
def Yh{j pos}:PE X (.Constant .none j pos) (tE X aa ab (aX .bB)):=zg SN λ_=>di.mpr rfl
def Yi{j pos}:PE X (.Constant (.str i) j pos) (tE X aa ab (aX (.str i))):=zg SO λ_=>cL.mpr rfl
abbrev G2:=List aq->PV->PV->Option PV
def rT(K:W.Frag)(g:G2):R2:=λx y H Q=>∃aa ab F st τ pa pb p,g st.h pa pb=some p/\Rep K aa ab F st τ H/\bO K F pa x/\bO K F pb y/\∀v H' F',Rep K aa ab F' st τ H'->Gr F F'->bO K F' p v->Q v H'
abbrev u4(X:Cx)(f:Value->Value->Sem Value)(g:G2):Prop:=OpR X f (rT X.K g)
def op2(g:G2)(fa fb:Gx PV):Gx PV:=bnd fa λx=>bnd fb λy=>hp λh=>g h x y
def qa(h:tE X aa ab (op2 g fa fb) σ H Q):WH (rT X.K g) (tE X aa ab fa) (tE X aa ab fb) σ H Q:=by
 obtain⟨F,st,R,h⟩:=h;refine⟨F,st,R,h.bnd λp v F1 bc H1 R1 g1 b1 h1=>⟨F1,bc,R1,h1.bnd λq w F2 d0 H2 R2 g2 b2 h2=>?_⟩⟩
 obtain⟨o,e,z⟩:=h2.hp;exact⟨aa,ab,F2,d0,σ,p,q,o,e,R2,b1.mono g2,b2,z⟩
def acK(ho:u4 X (binaryOp op) g)(ha:PE X a (tE X aa ab fa))(hb:PE X b (tE X aa ab fb)):PE X (.BinOp a op b pos) (tE X aa ab (op2 g fa fb)):=(XE ho ha hb).imp λ_ _ _ h=>qa h
def Yj(ho:u4 X (compareOp op) g)(ha:PE X a (tE X aa ab fa))(hb:PE X b (tE X aa ab fb))(hm:behindInMarks op b=false):PE X (.Compare a [op] [b] pos) (tE X aa ab (op2 g fa fb)):=(Nc ho ha hb hm).imp λ_ _ _ h=>qa h
def Ep:PV->Option Bool | .bl b=>some b | _=>none
def rm{b:Bool}(h:Ep p=some b):p=.bl b:=by
 cases p<;>first | (cases h;rfl) | cases h
def toB(f:Gx PV):Gx Bool:=bnd f λp=>jK (Ep p)
def toB_imp(h:tT X aa ab (toB fa) σ H Q):tE X aa ab fa σ H λv H1=>∃k,v=.bl k/\Q k H1:=by
 obtain⟨F,st,R,h⟩:=h;refine⟨F,st,R,h.bnd λp v F1 bc H1 R1 g1 b1 h1=>?_⟩
 obtain⟨k,e,z⟩:=h1.jK;rw[rm e]at b1;exact⟨k,bZ.mp b1,z k H1 F1 R1 (Gr.refl _) rfl⟩
def Yk(ho:u4 X (compareOp op) g)(ha:PE X a (tE X aa ab fa))(hb:PE X b (tE X aa ab fb))(hm:behindInMarks op b=false):PT X (.Compare a [op] [b] pos) (tT X aa ab (toB (op2 g fa fb))) :=
 (Nd ho ha hb hm).imp λ_ _ _ h=>qa (toB_imp h)
def chain(g g':G2)(fa fb fc:Gx PV):Gx PV:=bnd fa λx=>bnd fb λy=>bnd (hp λh=>(g h x y).bind Ep) λk=>if k=true then bnd fc λz=>hp λh=>g' h y z else aX (.bl false)
def u5(h:tE X aa ab (chain g g' fa fb fc) σ H Q):Cq (rT X.K g) (rT X.K g') (tE X aa ab fa) (tE X aa ab fb) (tE X aa ab fc) σ H Q:=by
 obtain⟨F,st,R,h⟩:=h;refine⟨F,st,R,h.bnd λp v F1 bc H1 R1 g1 b1 h1=>⟨F1,bc,R1,h1.bnd λq w F2 d0 H2 R2 g2 b2 h2=>?_⟩⟩
 obtain⟨k,e,z⟩:=At.hp (At.bnd h2);obtain⟨o,e1,e2⟩:=aY e;rw[rm e2]at e1;refine⟨aa,ab,F2,d0,σ,p,q,_,e1,R2,b1.mono g2,b2,λu H3 F3 R3 g3 b3=>⟨k,bZ.mp b3,?_⟩⟩
 cases k with
 | true =>
  have z:Tx X aa ab (bO X.K) F2 d0 (bnd fc λz=>hp λh=>g' h q z) σ Q:=z
  refine⟨F3,d0,R3,(z.mono g3 λ_ _ y=>y).bnd λt o F4 HV H4 R4 g4 b4 h4=>?_⟩
  obtain⟨o,e,z⟩:=h4.hp;exact⟨aa,ab,F4,HV,σ,q,t,o,e,R4,b2.mono (g3.trans g4),b4,z⟩
 | false=>exact Tx.aX z _ H3 F3 R3 g3 (bZ.mpr rfl)
def NH(ho:u4 X (compareOp op) g)(nh:u4 X (compareOp yC) g')(ha:PE X a (tE X aa ab fa))(hb:PE X b (tE X aa ab fb))(hc:PE X c (tE X aa ab fc))
  (hm:lastMarks [op,yC] [b,c]=false):PE X (.Compare a [op,yC] [b,c] pos) (tE X aa ab (chain g g' fa fb fc)):=(IZ ho nh ha hb hc hm).imp λ_ _ _ h=>u5 h
end
def cm(h:List aq):PV->Option (Kd×List PV)
 | .nd k ps=>some (k,ps)
 | .ref n=>(h[n]?).bind λc=>if live c=true then some (c.k,c.ps)else none
 | _=>none
def b6{α:Type}{c:Prop} [Decidable c] {x:Option α} {y:α} (h:(if c then x else none)=some y):c/\x=some y:=by
 grind
def aN{α:Type}{c:Prop} [Decidable c] {x y:α} (h:(if c then some x else none)=some y):c/\x=y:=by
 grind
section
variable {K:W.Frag} {aa H:Hp} {ab F:Fz} {st:cx} {σ:St}
def Rep.at(R:Rep K aa ab F st σ H){p:PV}{k:Kd}{ps:List PV}{v:V}(e:cm st.h p=some (k,ps))(b:bO K F p v):∃a vs,v=.ref a/\kG K F.F H a false k vs/\az K F ps vs:=by
 cases p with
 | nd k' oX =>
  cases e;obtain⟨a,vs,h1,h2,h3⟩:=jc.mp b;exact⟨a,vs,h1,h2.to (cG.refl _) (λo q=>R.sub _ _ q) id,h3⟩
 | ref n =>
  obtain⟨c,e1,e2⟩:=aY e;obtain⟨hl,e3⟩:=aN e2;cases e3;obtain⟨a,h1,h2⟩:=dj.mp b;obtain⟨_,vs,h3,h4⟩:=R.c.cell n c a e1 h1 hl;exact⟨a,vs,h2,h3.to (cG.refl _) (λo q=>q) (λz=>by cases z),h4⟩
 | _=>cases e
def CL(h:List aq)(p:PV):Option (List PV):=match cm h p with
 | some (.ao,ps)=>some ps
 | some (.lst,ps)=>some ps
 | _=>none
def Rep.seq(R:Rep K aa ab F st σ H){p:PV}{ps:List PV}{v:V}(e:CL st.h p=some ps)(b:bO K F p v):∃a vs,v=.ref a/\(gU K H a vs\/kF K H a vs)/\az K F ps vs:=by
 unfold CL at e;split at e
 ·rename_i z;cases e;obtain⟨a,vs,h1,h2,h3⟩:=R.at z b;exact⟨a,vs,h1,.inl h2.2,h3⟩
 ·rename_i z;cases e;obtain⟨a,vs,h1,h2,h3⟩:=R.at z b;exact⟨a,vs,h1,.inr h2,h3⟩
 ·cases e
def zh(h:List aq):PV->Option Bool
 | .bB=>some false
 | .bl b=>some b
 | .int i=>some (i != 0)
 | p=>match cm h p with
  | some (.ao,ps)=>some !ps.isEmpty
  | some (.lst,ps)=>some !ps.isEmpty
  | some (.dU false _,ps)=>some !ps.isEmpty
  | _=>none
def rn{ps:List PV}{vs:List V}(h:az K F ps vs):ps.isEmpty=vs.isEmpty:=by
 cases ps with
 | nil=>rw[h.cO];rfl
 | cons p ps=>obtain⟨v,r,rfl,_,_⟩:=h.cj;rfl
def Rep.tru(R:Rep K aa ab F st σ H){p:PV}{k:Bool}{v:V}(e:zh st.h p=some k)(b:bO K F p v):Nf K v H k:=by
 have more:(match cm st.h p with
  | some (.ao,ps)=>some !ps.isEmpty
  | some (.lst,ps)=>some !ps.isEmpty
  | some (.dU false _,ps)=>some !ps.isEmpty
  | _=>none)=some k->Nf K v H k:=λe=>by
  split at e
  ·rename_i z;cases e;obtain⟨a,vs,rfl,h2,h3⟩:=R.at z b;exact .inr (.inl ⟨vs,h2.2,by rw[rn h3]⟩)
  ·rename_i z;cases e;obtain⟨a,vs,rfl,h2,h3⟩:=R.at z b;exact .inl ⟨vs,kF.sq h2,by rw[rn h3]⟩
  ·rename_i z;cases e;obtain⟨a,vs,rfl,⟨kvs,h2,_,h4⟩,h3⟩:=R.at z b;refine .inr (.inr ⟨kvs,h2,?_⟩);rw[rn h3,<-h4,List.isEmpty_map]
  ·cases e
 cases p with
 | bB=>rw[di.mp b];exact(cz e).symm
 | bl c=>rw[bZ.mp b];exact(cz e).symm
 | int i=>rw[aG.mp b];exact(cz e).symm
 | str x=>exact more e
 | ref n=>exact more e
 | fn x=>exact more e
 | nd k ps=>exact more e
end
section
variable {X:Cx} {aa:Hp} {ab:Fz} {a b c e:Expr} {es rest:List Expr} {fa fb fc:Gx PV} {ga gb:Gx Bool} {ts:Gx (List PV)} {pos:Pos}
def gf(f:Gx PV):Gx Bool:=bnd f λp=>hp λh=>zh h p
def Yl(h:PE X e (tE X aa ab fa))(he:∀jr,isTrue e X.env jr=(do let v <-jr;standAt e.pos;holding [v] (truthy v))):PT X e (tT X aa ab (gf fa)) :=
 (Jb h he).imp λσ H Q ⟨F,st,R,h⟩=>⟨F,st,R,h.bnd λp v F1 bc H1 R1 g1 b1 h1=>by
  obtain⟨k,e,z⟩:=h1.hp;exact⟨k,R1.tru e b1,z k H1 F1 R1 (Gr.refl _) rfl⟩⟩
def NI{op yC:CmpOp}{g g':G2}(ho:u4 X (compareOp op) g)(nh:u4 X (compareOp yC) g')(ha:PE X a (tE X aa ab fa))(hb:PE X b (tE X aa ab fb))(hc:PE X c (tE X aa ab fc))
  (hm:lastMarks [op,yC] [b,c]=false):PT X (.Compare a [op,yC] [b,c] pos) (tT X aa ab (toB (chain g g' fa fb fc))):=(I0 ho nh ha hb hc hm).imp λ_ _ _ h=>u5 (toB_imp h)
def dP{α:Type}(gc:Gx Bool)(f g:Gx α):Gx α:=bnd gc λx=>if x=true then f else g
def wV{α β:Type}{rl:Fz->α->β->Prop}{f g:Gx α}{σ:St}{H:Hp}{Q:β->Hp->Prop}(h:tX X aa ab rl (dP ga f g) σ H Q):tT X aa ab ga σ H λc H1=>if c=true then tX X aa ab rl f σ H1 Q else tX X aa ab rl g σ H1 Q:=by
 obtain⟨F,st,R,h⟩:=h;refine⟨F,st,R,h.bnd λx y F1 bc H1 R1 g1 b1 h1=>?_⟩
 cases b1;cases x with
 | true=>exact⟨F1,bc,R1,h1⟩
 | false=>exact⟨F1,bc,R1,h1⟩
def wW{α β:Type}{rl:Fz->α->β->Prop}{a:α}{b:β}{σ:St}{H:Hp}{Q:β->Hp->Prop}(h:tX X aa ab rl (aX a) σ H Q)(hb:∀F,rl F a b):Q b H:=by
 obtain⟨F,st,R,h⟩:=h;exact h.aX b H F R (Gr.refl _) (hb F)
def zi{P P' Q Q':Prop}{c:Bool}(h:if c=true then P else Q)(h1:P->P')(h2:Q->Q'):if c=true then P' else Q':=by
 grind
def Er{α β:Type}{rl:Fz->α->β->Prop}{f:Gx α}{σ:St}{H:Hp}{Q Q':β->Hp->Prop}(h:tX X aa ab rl f σ H Q)(i:∀b H',Q b H'->Q' b H'):tX X aa ab rl f σ H Q':=let ⟨F,st,R,h⟩:=h;⟨F,st,R,h.mono (Gr.refl _) i⟩
def Ym(ha:PT X a (tT X aa ab ga))(hb:PW X (.BoolOp .And (b::rest) pos) (tT X aa ab gb)):PW X (.BoolOp .And (a::b::rest) pos) (tT X aa ab (dP ga gb (aX false))) :=
 (SR ha hb).imp λσ H Q h=>Er (wV h) λ_ _ z=>zi z id λz=>wW z λ_=>rfl
def acL(ha:PT X a (tT X aa ab ga))(hb:PW X (.BoolOp .Or (b::rest) pos) (tT X aa ab gb)):PW X (.BoolOp .Or (a::b::rest) pos) (tT X aa ab (dP ga (aX true) gb)) :=
 (Xs ha hb).imp λσ H Q h=>Er (wV h) λ_ _ z=>zi z (λz=>wW z λ_=>rfl) id
def zj(f:Gx Bool):Gx Bool:=bnd f λx=>aX !x
def Yn(ha:PT X a (tT X aa ab ga)):PT X (.UnaryOp .Not a pos) (tT X aa ab (zj ga)):=(SS ha).imp λσ H Q ⟨F,st,R,h⟩=>⟨F,st,R,h.bnd λx y F1 bc H1 R1 g1 b1 h1=>by
 cases b1;exact h1.aX _ H1 F1 R1 (Gr.refl _) rfl⟩
def TQ(fa fb:Gx PV):Gx PV:=bnd fa λx=>bnd (hp λh=>zh h x) λk=>if k=true then fb else aX x
def orG(fa fb:Gx PV):Gx PV:=bnd fa λx=>bnd (hp λh=>zh h x) λk=>if k=true then aX x else fb
def Ju{f g:PV->Gx PV}{ae:List (Addr×Obj)}{s:Shared}{σ:St}{H:Hp}{Q:VK}(ha:PE X a (tE X aa ab fa))(I:Inv X ae σ H s)
  (h:tE X aa ab (bnd fa λx=>bnd (hp λh=>zh h x) λk=>if k=true then f x else g x) σ H Q) :
  wpAny (model X.prog X.w) X.A (eval a X.env) (λv s1=>wpAny (model X.prog X.w) X.A (truthy v) (λk s2=>∃p xv F1 bc H1,Inv X ae σ H1 s2/\RelV xv v/\Rep X.K aa ab F1 bc σ H1/\bO X.K F1 p xv/\Tx X aa ab (bO X.K) F1 bc (if k=true then f p else g p) σ Q) X.xe s1) X.xe s:=by
 obtain⟨F,st,R,h⟩:=h;refine thn (ha ae s σ H (λv H1=>∃F1 bc p,Rep X.K aa ab F1 bc σ H1/\bO X.K F1 p v/\Tx X aa ab (bO X.K) F1 bc (bnd (hp λh=>zh h p) λk=>if k=true then f p else g p) σ Q) I
  ⟨F,st,R,h.bnd λp v F1 bc H1 R1 g1 b1 h1=>⟨F1,bc,p,R1,b1,h1⟩⟩) λv s1 ⟨xv,H1,I1,r1,F1,bc,p,R1,b1,h1⟩=>?_
 obtain⟨k,e,z⟩:=At.hp (At.bnd h1);exact thn (Ja ae s1 σ H1 xv v (λk' H'=>k'=k/\H'=H1) I1 r1 ⟨k,R1.tru e b1,rfl,rfl⟩) <| by
  rintro c s2 ⟨H2,I2,ec,eh⟩
  subst ec eh;exact⟨p,xv,F1,bc,H2,I2,r1,R1,b1,z⟩
def acM(ha:PE X a (tE X aa ab fa))(hb:PE X (.BoolOp .Or (b::rest) pos) (tE X aa ab fb)):PE X (.BoolOp .Or (a::b::rest) pos) (tE X aa ab (orG fa fb)):=λae s σ H Q I h =>
 BoolOp_or (thn (Ju ha I h) λv s1 z=>thn z <| by
  rintro k s2 ⟨p,xv,F1,bc,H1,I1,r1,R1,b1,z⟩
  cases k with
  | true=>exact⟨xv,H1,I1,r1,Tx.aX (z) _ H1 F1 R1 (Gr.refl _) b1⟩
  | false=>exact hb ae s2 σ H1 Q I1 ⟨F1,bc,R1,z⟩)
def Yo(ha:PE X a (tE X aa ab fa))(hb:PE X (.BoolOp .And (b::rest) pos) (tE X aa ab fb)):PE X (.BoolOp .And (a::b::rest) pos) (tE X aa ab (TQ fa fb)):=λae s σ H Q I h =>
 BoolOp_and (thn (Ju ha I h) λv s1 z=>thn z <| by
  rintro k s2 ⟨p,xv,F1,bc,H1,I1,r1,R1,b1,z⟩
  cases k with
  | false=>exact⟨xv,H1,I1,r1,Tx.aX (z) _ H1 F1 R1 (Gr.refl _) b1⟩
  | true=>exact hb ae s2 σ H1 Q I1 ⟨F1,bc,R1,z⟩)
def TR(fa:Gx PV):Gx PV:=bnd (toB fa) λx=>aX (.bl !x)
def Yp(ha:PE X a (tE X aa ab fa)):PE X (.UnaryOp .Not a pos) (tE X aa ab (TR fa)):=(SU ha).imp λσ H Q ⟨F,st,R,h⟩ =>
 toB_imp ⟨F,st,R,h.bnd λx y F1 bc H1 R1 g1 b1 h1=>by
  cases b1;exact h1.aX _ H1 F1 R1 (Gr.refl _) (bZ.mpr rfl)⟩
def acN(hc:PT X c (tT X aa ab ga))(ha:PE X a (tE X aa ab fa))(hb:PE X b (tE X aa ab fb)):PE X (.IfExp c a b pos) (tE X aa ab (dP ga fa fb)):=(IK hc ha hb).imp λ_ _ _ h=>wV h
def au(f:Gx PV)(g:Gx (List PV)):Gx (List PV):=bnd f λx=>bnd g λxs=>aX (x::xs)
def Yq:PA X [] (tA X aa ab (aX [])):=nZ.imp λσ H Q h=>wW h λ_=>.nil
def TU(ha:PE X e (tE X aa ab fa))(hr:PA X es (tA X aa ab ts))(hs:starEach (e::es) X.env=(false,eval e X.env)::starEach es X.env:=by rfl):PA X (e::es) (tA X aa ab (au fa ts)) :=
 (hJ ha hr hs).imp (by rintro σ H Q ⟨F,st,R,h⟩;exact⟨F,st,R,h.bnd λp v F1 bc H1 R1 g1 b1 h1=>⟨F1,bc,R1,h1.bnd λps vs F2 d0 H2 R2 g2 b2 h2=>h2.aX _ H2 F2 R2 (Gr.refl _) (.cons (b1.mono g2) b2)⟩⟩)
noncomputable def fq:Nat:=4000000
def fy{n:Nat}(h:n<=fq):n<=sizeLine:=bA h (by decide)
def small(ps:List PV)(p:PV):Option PV:=if ps.length<=fq then some p else none
def lJ(k:Kd)(ts:Gx (List PV)):Gx PV:=bnd ts λps=>jK (small ps (.nd k ps))
def Yr{x1}(h:PA X es (tA X aa ab ts)):PE X (.Tuple es x1 pos) (tE X aa ab (lJ .ao ts)):=(Tq h).imp λσ H Q ⟨F,st,R,h⟩=>⟨F,st,R,h.bnd λps vs F1 bc H1 R1 g1 b1 h1=>by
 obtain⟨p,e,z⟩:=h1.jK;obtain⟨hl,rfl⟩:=aN e;refine⟨fy (by rw[<-b1.length];exact hl),λa hn=>?_⟩
 obtain⟨R2,s2⟩:=R1.laid (.ao vs) hn;exact z _ _ _ R2 s2 (cw.mpr ⟨a,vs,rfl,gU.of aA,b1.mono s2⟩)⟩
def Ys(h:PA X es (tA X aa ab ts)):PE X (.List es pos) (tE X aa ab (lJ .lst ts)):=(Jd h).imp λσ H Q ⟨F,st,R,h⟩=>⟨F,st,R,h.bnd λps vs F1 bc H1 R1 g1 b1 h1=>by
 obtain⟨p,e,z⟩:=h1.jK;obtain⟨hl,rfl⟩:=aN e;refine⟨fy (by rw[<-b1.length];exact hl),λa hn=>?_⟩
 obtain⟨R2,s2⟩:=R1.laid (.lst vs) hn;exact z _ _ _ R2 s2 (fY.mpr ⟨a,vs,rfl,kF.of aA,b1.mono s2⟩)⟩
noncomputable def kJ(c:aq):Gx PV:=λst=>some (.ok (.ref st.h.length),⟨st.ρ,st.h++[c]⟩)
def Tx.kJ{c:aq}{F:Fz}{st:cx}{σ:St}{H:Hp}{Q:VK}{p:Addr}{o:HO}{vs:List V}(h:Tx X aa ab (bO X.K) F st (kJ c) σ Q)(R:Rep X.K aa ab F st σ H)(hp:H p=none)
  (hn:kG X.K F.F (cg H p o) p true c.k vs) (hb:az X.K F c.ps vs):Q (.ref p) (cg H p o):=by
 obtain⟨r,h1,h2⟩:=h;cases h1;obtain⟨C,g,hm⟩:=R.c.alloc hp hn hb;exact h2 _ _ _ ⟨C,R.l.mono g⟩ g (dj.mpr ⟨p,hm,rfl⟩)
def zm(ts:Gx (List PV)):Gx PV:=bnd ts λps=>bnd (jK (small ps .bB)) λ_=>kJ ⟨.lst,ps⟩
def TV(h:PA X es (tA X aa ab ts)):PE X (.List es pos) (tE X aa ab (zm ts)):=(Jd h).imp λσ H Q ⟨F,st,R,h⟩=>⟨F,st,R,h.bnd λps vs F1 bc H1 R1 g1 b1 h1=>by
 obtain⟨p,e,z⟩:=At.jK (At.bnd h1);obtain⟨hl,rfl⟩:=aN e;exact⟨fy (by rw[<-b1.length];exact hl),λa hn=>Tx.kJ z R1 hn aA b1⟩⟩
end
inductive dE where
 | nx | bk | ct | rt (p:PV)
def zq(X:Cx)(aa:Hp)(ab F:Fz)(D:ub):dE->cx->Prop
 | .nx,st=>∀F' bG H',Rep X.K aa ab F' st bG H'->Gr F F'->D.nx bG H'
 | .bk,st=>∀F' bG H',Rep X.K aa ab F' st bG H'->Gr F F'->D.bk bG H'
 | .ct,st=>∀F' bG H',Rep X.K aa ab F' st bG H'->Gr F F'->D.ct bG H'
 | .rt p,st=>∀v F' H',kx X.K aa ab F' st.h H'->Gr F F'->bO X.K F' p v->D.rt v H'
def Sa(X:Cx)(aa:Hp)(ab F:Fz)(D:ub)(st:cx)(f:Gx dE):Prop:=At X aa ab F st f (zq X aa ab F D)
def tS(X:Cx)(aa:Hp)(ab:Fz)(f:Gx dE):TS:=λD σ H=>∃F st,Rep X.K aa ab F st σ H/\Sa X aa ab F D st f
section
variable {X:Cx} {aa:Hp} {ab F F1:Fz} {D:ub} {st:cx} {α β:Type}
theorem zq.mono(g:Gr F F1):∀(o:dE) (st:cx),zq X aa ab F D o st->zq X aa ab F1 D o st
 | .nx,_,h=>λF' bG H' R z=>h F' bG H' R (g.trans z)
 | .bk,_,h=>λF' bG H' R z=>h F' bG H' R (g.trans z)
 | .ct,_,h=>λF' bG H' R z=>h F' bG H' R (g.trans z)
 | .rt _,_,h=>λv F' H' R z=>h v F' H' R (g.trans z)
def Sa.mono(h:Sa X aa ab F D st f)(g:Gr F F1):Sa X aa ab F1 D st f:=At.imp h g (zq.mono g)
def Sa.bnd(h:Sa X aa ab F D st (bnd f k))
  (i:∀a b F1 bc H1,Rep X.K aa ab F1 bc σ H1->Gr F F1->rl F1 a b->Sa X aa ab F1 D bc (k a)->Q b H1):Tx X aa ab rl F st f σ Q :=
 At.imp (At.bnd h) (Gr.refl F) λa bc q b H1 F1 R1 g1 r1=>i a b F1 bc H1 R1 g1 r1 (Sa.mono q g1)
end
section
variable {X:Cx} {aa:Hp} {ab:Fz} {a b c e tg iter:Expr} {es:List Expr} {fe:Gx PV} {gc:Gx Bool} {pos:Pos} {s:Stmt} {ss body:List Stmt} {f g fb:Gx dE}
def onK(g:Gx dE):dE->Gx dE
 | .nx=>g
 | .bk=>aX .bk
 | .ct=>aX .ct
 | .rt p=>aX (.rt p)
def dX(f g:Gx dE):Gx dE:=bnd f (onK g)
def TX:PSs X [] (tS X aa ab (aX .nx)):=MS.imp (by rintro D σ H ⟨F,st,R,h⟩;exact At.aX h F σ H R (Gr.refl F))
def NJ(h1:PS X s (tS X aa ab f))(h2:PSs X ss (tS X aa ab g)):PSs X (s::ss) (tS X aa ab (dX f g)):=(IL h1 h2).imp λD σ H ⟨F,st,R,h⟩ =>
 ⟨F,st,R,At.imp (At.bnd h) (Gr.refl F) λo bc q=>match o,q with
  | .nx,q=>λF1 je H1 R1 g1=>⟨F1,bc,R1,Sa.mono q g1⟩
  | .bk,q=>λF' bG H'=>At.aX q F' bG H'
  | .ct,q=>λF' bG H'=>At.aX q F' bG H'
  | .rt p,q=>λv F' H'=>At.aX q v F' H'⟩
def TY(h1:PS X s (tS X aa ab f)):PSs X [s] (tS X aa ab f):=MT h1
def TZ:PS X (.Pass pos) (tS X aa ab (aX .nx)):=MU.imp (by rintro D σ H ⟨F,st,R,h⟩;exact At.aX h F σ H R (Gr.refl F))
def NK:PS X (.Break pos) (tS X aa ab (aX .bk)):=IM.imp (by rintro D σ H ⟨F,st,R,h⟩;exact At.aX h F σ H R (Gr.refl F))
def T1:PS X (.Continue pos) (tS X aa ab (aX .ct)):=yV.imp (by rintro D σ H ⟨F,st,R,h⟩;exact At.aX h F σ H R (Gr.refl F))
def retS(fe:Gx PV):Gx dE:=bnd fe λp=>aX (.rt p)
def Yt(he:PE X e (tE X aa ab fe)):PS X (.Return (some e) pos) (tS X aa ab (retS fe)):=(SX he).imp (by rintro D σ H ⟨F,st,R,h⟩;exact⟨F,st,R,h.bnd λp v F1 bc H1 R1 g1 b1 h1=>At.aX h1 v F1 H1 R1.c (Gr.refl _) b1⟩)
def T2:PS X (.Return none pos) (tS X aa ab (aX (.rt .bB))):=MW.imp (by rintro D σ H ⟨F,st,R,h⟩;exact At.aX h _ F H R.c (Gr.refl _) (di.mpr rfl))
def acO(hc:PT X c (tT X aa ab gc))(ha:PSs X p (tS X aa ab f))(hb:PSs X r (tS X aa ab g)):PS X (.If c p r pos) (tS X aa ab (dP gc f g)) :=
 (Xy hc ha hb).imp λD σ H ⟨F,st,R,h⟩=>⟨F,st,R,h.bnd λx y F1 bc H1 R1 g1 b1 h1=>by
  cases b1;cases x with
  | true=>exact⟨F1,bc,R1,h1⟩
  | false=>exact⟨F1,bc,R1,h1⟩⟩
def gO(fe:Gx PV):Gx dE:=bnd fe λ_=>aX .nx
def T3(he:PE X e (tE X aa ab fe))(hs:swapsWith e none pos.line X.env=pure false:=by rfl):PS X (.Expr e pos) (tS X aa ab (gO fe)):=(MV he hs).imp λD σ H ⟨F,st,R,h⟩ =>
 ⟨F,st,R,h.bnd λp v F1 bc H1 R1 g1 b1 h1=>At.aX h1 F1 σ H1 R1 (Gr.refl _)⟩
abbrev Tg:=PV->cx->Option cx
abbrev WK:=List PV->cx->Option cx
def tG(K:W.Frag)(aa:Hp)(ab:Fz)(g:Tg):TG:=λv σ H Q=>∃F st p cC,Rep K aa ab F st σ H/\bO K F p v/\g p st=some cC/\∀bG H' F',Rep K aa ab F' cC bG H'->Gr F F'->Q bG H'
def Yu(K:W.Frag)(aa:Hp)(ab:Fz)(g:WK):SY:=λvs σ H Q=>∃F st ps cC,Rep K aa ab F st σ H/\az K F ps vs/\g ps st=some cC/\∀bG H' F',Rep K aa ab F' cC bG H'->Gr F F'->Q bG H'
noncomputable def aU(i:Nat):Tg:=λp st=>if i<st.ρ.length then some ⟨st.ρ.set i (some p),st.h⟩else none
def Lc.set{K:W.Frag}(L:Lc K F ρ σ)(hi:i<ρ.length)(hb:bO K F p v):Lc K F (ρ.set i (some p)) (σ.set i (some v)) where
 av:=λj q e=>by
  by_cases h:i=j
  ·subst h;rw[lb hi]at e;cases e;exact⟨v,lb (by rw[<-L.len];exact hi),hb⟩
  ·rw[iW h]at e;rw[iW h];exact L.av j q e
 len:=by rw[ly,ly];exact L.len
def T4(i:Nat)(h:PG X (.Name x pos) (gName i)):PG X (.Name x pos) (tG X.K aa ab (aU i)):=h.imp <| by
 rintro v σ H Q ⟨F,st,p,cC,R,hb,hf,q⟩
 obtain⟨hi,rfl⟩:=aN hf;exact q _ _ _ ⟨R.c,R.l.set hi hb⟩ (Gr.refl F)
def mn:WK:=λps st=>match ps with | []=>some st | _=>none
def c6(g:Tg)(r:WK):WK:=λps st=>match ps with | p::ps=>(g p st).bind λcC=>r ps cC | []=>none
def T5:PGs X [] (Yu X.K aa ab mn):=MY.imp <| by
 rintro vs σ H Q ⟨F,st,ps,cC,R,hb,hf,q⟩
 cases ps with
 | nil=>cases hf;exact⟨hb.cO,q _ _ _ R (Gr.refl F)⟩
 | cons _ _=>cases hf
def NL(h1:PG X e (tG X.K aa ab t))(h2:PGs X es (Yu X.K aa ab u))(hs:(assignEach (e::es) X.env).map (·.2)=assign e X.env::(assignEach es X.env).map (·.2):=by rfl) :
  PGs X (e::es) (Yu X.K aa ab (c6 t u)):=(IS h1 h2 hs).imp <| by
 rintro vs σ H Q ⟨F,st,ps,cC,R,hb,hf,q⟩
 cases ps with
 | nil=>cases hf
 | cons p ps =>
  obtain⟨v,r,rfl,b1,b2⟩:=hb.cj;obtain⟨bc,e1,e2⟩:=aY hf;exact⟨v,r,rfl,F,st,p,bc,R,b1,e1,λje H1 F1 R1 s1=>⟨F1,bc,ps,cC,R1,b2.mono s1,e2,λyY H2 F2 R2 s2=>q yY H2 F2 R2 (s1.trans s2)⟩⟩
noncomputable def gC(n:Nat)(t:WK):Tg:=λp st=>match p with | .nd .ao ps=>if ps.length=n then t ps st else none | _=>none
def Yv(hc:X.calm=true)(h:PGs X es (Yu X.K aa ab t))(hn:(assignEach es X.env).length=n:=by rfl)(qU:(assignEach es X.env).findIdx? (·.1)=none:=by rfl) :
  PG X (.Tuple es k pos) (tG X.K aa ab (gC n t)):=(S2 hc h hn qU).imp <| by
 rintro v σ H Q ⟨F,st,p,cC,R,hb,hf,q⟩
 unfold gC at hf;split at hf
 ·rename_i ps;obtain⟨hl,hf⟩:=b6 hf;obtain⟨a,vs,rfl,hs,Bm⟩:=cw.mp hb;exact⟨a,vs,rfl,bu R.sub hs,by rw[<-Bm.length];exact hl,F,st,ps,cC,R,Bm,hf,q⟩
 ·cases hf
noncomputable def stp(g:cx->Option cx):Gx dE:=λst=>(g st).map λcC=>(.ok .nx,cC)
def Sa.stp{st:cx}{g:cx->Option cx}(h:Sa X aa ab F D st (stp g)):∃cC,g st=some cC/\∀F' bG H',Rep X.K aa ab F' cC bG H'->Gr F F'->D.nx bG H':=by
 obtain⟨r,h1,h2⟩:=h;obtain⟨cC,e1,e2⟩:=bj h1;subst e2;exact⟨cC,e1,h2⟩
def c8(fe:Gx PV)(g:Tg):Gx dE:=bnd fe λp=>stp (g p)
def NO{g:Tg}(h:tS X aa ab (c8 fe g) D σ H):MZ (tE X aa ab fe) (tG X.K aa ab g) D σ H:=by
 obtain⟨F,st,R,h⟩:=h;refine⟨F,st,R,h.bnd λp v F1 bc H1 R1 g1 b1 h1=>?_⟩
 obtain⟨cC,e,z⟩:=h1.stp;exact⟨F1,bc,p,cC,R1,b1,e,λyY H2 F2 R2 s2=>z F2 yY H2 R2 s2⟩
def Yw{g:Tg}(he:PE X e (tE X aa ab fe))(hg:PG X tg (tG X.K aa ab g))(hs:swapsWithSole [tg] e pos.line X.env=pure false:=by rfl)(hw:swappedStores [tg] e X.env=pure none:=by rfl)
  (h1:(assignEach [tg] X.env).map (·.2)=[assign tg X.env]:=by rfl):PS X (.Assign [tg] e pos) (tS X aa ab (c8 fe g)):=(IT he hg hs hw h1).imp λ_ _ _ h=>NO h
def Walk(K:W.Frag)(F:Fz)(ps:List PV)(J:It):Prop:=∀(aa:Hp) (ab F':Fz) (st:cx) (σ:St) (H:Hp),Rep K aa ab F' st σ H->Gr F F'->∀i:Nat,
 (∀p,ps[i]?=some p->J.go i H/\∀x H',J.yld i H x H'->∃Jv,Rep K aa ab Jv st σ H'/\Gr F' Jv/\bO K Jv p x)/\(ps[i]?=none->J.stop i H)
abbrev tI(X:Cx)(aa:Hp)(ab:Fz)(f:Gx (List PV)):TI:=tX X aa ab (Walk X.K) f
def u6(r:Gx dE):dE->Gx dE
 | .nx=>r
 | .ct=>r
 | .bk=>aX .nx
 | .rt p=>aX (.rt p)
def cY(g:Tg)(body:Gx dE):List PV->Gx dE
 | []=>aX .nx
 | p::ps=>bnd (stp (g p)) λ_=>bnd body (u6 (cY g body ps))
def Sa.lG{st:cx}(N:St->Hp->Prop)(hN:∀F1 bc je H1,Rep X.K aa ab F1 bc je H1->Gr F F1->Sa X aa ab F1 D bc r->N je H1)(h:Sa X aa ab F D st (U.bnd fb (u6 r))):Sa X aa ab F {D with nx:=N,ct:=N,bk:=D.nx} st fb :=
 At.imp (At.bnd h) (Gr.refl F) λo bc q=>match o,q with
  | .nx,q=>λF1 je H1 R1 g1=>hN F1 bc je H1 R1 g1 (Sa.mono q g1)
  | .ct,q=>λF1 je H1 R1 g1=>hN F1 bc je H1 R1 g1 (Sa.mono q g1)
  | .bk,q=>λF' bG H'=>At.aX q F' bG H'
  | .rt p,q=>λv F' H'=>At.aX q v F' H'
def jg(gc:Gx Bool)(body:Gx dE):Nat->Gx dE
 | 0=>λ_=>none
 | n+1=>bnd gc λc=>if c=true then bnd body (u6 (jg gc body n))else aX .nx
def NP(n:Nat)(hp:PassesOwn (model X.prog X.w) X.A X.env X.xe)(hc:PT X c (tT X aa ab gc))(hb:PSs X body (tS X aa ab fb)):PS X (.While c body [] pos) (tS X aa ab (jg gc fb n)) :=
 (IU hp hc hb).imp <| by
 rintro D σ H ⟨F,st,R,h⟩
 refine⟨λm bG H'=>∃F' cC,Rep X.K aa ab F' cC bG H'/\Sa X aa ab F' D cC (jg gc fb m),⟨n,F,st,R,h⟩,λm bG H' ⟨F',cC,R',h'⟩=>?_⟩
 cases m with
 | zero=>obtain⟨r,e,_⟩:=h';cases e
 | succ m =>
  refine⟨F',cC,R',Sa.bnd h' λx y F1 bc H1 R1 g1 b1 h1=>?_⟩
  cases b1;cases x with
  | false=>exact At.aX h1 F1 bG H1 R1 (Gr.refl _)
  | true=>exact⟨λyY H2=>∃F2 d0,Rep X.K aa ab F2 d0 yY H2/\Sa X aa ab F2 D d0 (jg gc fb m),λyY H2 n2=>⟨m,qF m,n2⟩,F1,bc,R1,Sa.lG _ (λF4 HV NQ H4 R4 g4 z=>⟨F4,HV,R4,z⟩) h1⟩
end
def _root_.L2.Inv.Es(I:Inv X ae σ H s)(h:kF X.K H a xs):∃(aH:List Value) (n:Nat),Vals xs aH/\s.heap.get? a=some {cls:=.type "list",data:=.seq aH.toArray n}/\xs.length<=sizeLine:=by
 rcases h with h | ⟨aH,n,e,z,r⟩
 ·obtain⟨z,aH,n,r,e⟩:=h.ok I.hok;exact⟨aH,n,r,e,z⟩
 ·exact⟨aH,n,r,I.qS a _ e,by rw[r.length];exact z⟩
def sizeOk(n:Nat)(p:PV):Option PV:=if n<=fq then some p else none
def j4(h:sizeOk n p=some q):n<=sizeLine/\p=q:=by
 obtain⟨h1,h2⟩:=aN h;exact⟨fy h1,h2⟩
def CM(h:List aq)(p:PV):Option (List PV):=match cm h p with | some (.lst,ps)=>some ps | _=>none
def iI(e:CM h p=some ps):cm h p=some (.lst,ps):=by
 unfold CM at e;split at e
 ·grind
 ·cases e
def eE:G2:=λh p q=>match p,q with
 | .int i,.int j=>some (.int (i+j))
 | .str x,.str y=>sizeOk (x.length+y.length) (.str (x++y))
 | .nd .ao xs,.nd .ao ys=>sizeOk (xs.length+ys.length) (.ao (xs++ys))
 | p,q=>(CM h p).bind λxs=>(CM h q).bind λys=>sizeOk (xs.length+ys.length) (.lst (xs++ys))
noncomputable def rp(c:Int->Int->Bool)(f:Int->Int->PV):G2:=λ_ p q=>match p,q with
 | .int i,.int j=>if c i j=true then some (f i j)else none
 | _,_=>none
def Et:Int:=18446744073709551616
def Yx:G2:=rp (λ_ _=>true) λi j=>.int (i-j)
def uh:G2:=rp (λi j=>decide ((-Et<i/\i<Et)\/(-Et<j/\j<Et))) λi j=>.int (i*j)
def hZ:G2:=rp (λ_ j=>decide (0<j/\j<1073741824)) λi j=>.int (i/j)
def fO:G2:=rp (λ_ j=>decide (0<j)) λi j=>.int (i%j)
def NR:G2:=rp (λi j=>decide (0<=j/\j<=1000/\i.natAbs<1000)) λi j=>.int (i^j.toNat)
def Jw:G2:=rp (λ_ _=>true) λi j=>.bl (decide (i<j))
def leO:G2:=rp (λ_ _=>true) λi j=>.bl (decide (i<=j))
def geO:G2:=rp (λ_ _=>true) λi j=>.bl (decide (j<=i))
section
variable {X:Cx}
def Jx{ws:List Value}(ht:IsTup s.heap t ([]:List Value).toArray)(hb:IsTup s.heap b ws.toArray)(h1:Q (.ref b) s):wpAny (model prog w) A (binaryOp .Add (.ref t) (.ref b)) Q E s:=by
 obtain⟨⟨cls,dd,data,sl⟩,ho,hc,n,hd⟩:=id ht;obtain⟨⟨acr,dd2,XQ,sl2⟩,ho2,QF,n2,XR⟩:=id hb;simp only at hc hd QF XR;subst hc hd QF XR;exact concat_meets ⟨_,ho,rfl⟩ ⟨_,ho2,rfl⟩ B5 seq_tuple_add BF BC (BA _ _) (tuple_addW0 t b _ ws.toArray n n2 dd dd2 sl sl2 (by simp)) ⟨ho,ho2,h1⟩
def NS:u4 X (binaryOp .Add) eE:=by
 rintro ae s σ H x y v u Q I rx ry ⟨aa,ab,F,st,τ,pa,pb,p,e,R,ba,bb,k⟩
 unfold eE at e;split at e
 ·cases e;rw[aG.mp ba]at rx;rw[aG.mp bb]at ry;exact Tb ae s σ H _ _ v u Q I rx ry ⟨_,_,rfl,rfl,k _ H F R (Gr.refl F) (aG.mpr rfl)⟩
 ·obtain⟨hz,rfl⟩:=j4 e;rw[cL.mp ba]at rx;rw[cL.mp bb]at ry;exact Ct ae s σ H _ _ v u Q I rx ry ⟨_,_,rfl,rfl,hz,k _ H F R (Gr.refl F) (cL.mpr rfl)⟩
 ·rename_i xs ys;obtain⟨hz,rfl⟩:=j4 e;obtain⟨a,vs,rfl,ha,jx⟩:=cw.mp ba;obtain⟨b,ws,rfl,hb,T6⟩:=cw.mp bb;have Yy:=bu R.sub ha;have jt:=bu R.sub hb;cases xs with
  | nil =>
   rw[jx.cO]at Yy;cases rx;cases ry;obtain⟨aH,r1,p1,_⟩:=I.tuple Yy;obtain⟨gM,r2,p2,_⟩:=I.tuple jt;cases r1;exact Jx p1 p2 ⟨.ref b,H,I,rfl,k _ H F R (Gr.refl F) (cw.mpr ⟨b,ws,rfl,hb,T6⟩)⟩
  | cons x0 xr =>
   refine Nv ae s σ H _ _ v u Q I rx ry ⟨a,b,vs,ws,rfl,rfl,Yy,jt,?_,by rw[<-jx.length,<-T6.length];exact hz,λz=>?_,λz q hq=>?_⟩
   ·intro z;have:=jx.length;rw[z]at this;cases this
   ·subst z;have hy:=k9 T6.length;subst hy;rw[dq]at k;exact k _ H F R (Gr.refl F) (cw.mpr ⟨a,vs,rfl,ha,jx⟩)
   ·obtain⟨R2,s2⟩:=R.laid (.ao (vs++ws)) hq;exact k _ _ _ R2 s2 (cw.mpr ⟨q,_,rfl,gU.of aA,(jx.append T6).mono s2⟩)
 ·obtain⟨xs,e1,e⟩:=aY e;obtain⟨ys,e2,e⟩:=aY e;obtain⟨hz,rfl⟩:=j4 e;obtain⟨a,vs,rfl,ha,jx⟩:=R.at (iI e1) ba;obtain⟨b,ws,rfl,hb,T6⟩:=R.at (iI e2) bb;cases rx;cases ry;obtain⟨aH,n,r,e1,z1⟩:=I.Es ha;obtain⟨gM,n2,r2,e2,z2⟩:=I.Es hb;have hl:=r.length;have WL:=r2.length;have hz':vs.length+ws.length<=sizeLine:=by rw[<-jx.length,<-T6.length];exact hz
  refine PySem.P.add_list e1 e2 ?_ (by grind)
  have ea:aH.toArray++gM.toArray=(aH++gM).toArray:=by simp
  rw[ea];obtain⟨R2,s2⟩:=R.laid (.lst (vs++ws)) I.fresh;exact⟨.ref _,_,I.acA (r.append r2) (by grind),rfl,k _ _ _ R2 s2 (fY.mpr ⟨_,_,rfl,kF.of aA,(jx.append T6).mono s2⟩)⟩
def gD(ho:OpR X f (rI C h))(hc:∀i j,c i j=true->C i j)(hg:∀i j F,bO X.K F (g i j) (h i j)):u4 X f (rp c g):=by
 rintro ae s σ H x y v u Q I rx ry ⟨aa,ab,F,st,τ,pa,pb,p,e,R,ba,bb,k⟩
 unfold rp at e;split at e
 ·obtain⟨h1,rfl⟩:=aN e;rw[aG.mp ba]at rx;rw[aG.mp bb]at ry;exact ho ae s σ H _ _ v u Q I rx ry ⟨_,_,rfl,rfl,hc _ _ h1,k _ H F R (Gr.refl F) (hg _ _ F)⟩
 ·cases e
def zu(ho:OpR X f (M7 h)):OpR X f (rI (λ_ _=>True) h):=(by rintro ae s σ H x y v u Q I rx ry ⟨i,j,h1,h2,_,q⟩;exact ho ae s σ H x y v u Q I rx ry ⟨i,j,h1,h2,q⟩)
end
def T7:Operator->Option G2
 | .Add=>some eE
 | .Sub=>some Yx
 | .Mult=>some uh
 | .FloorDiv=>some hZ
 | .Mod=>some fO
 | .Pow=>some NR
 | _=>none
def NT(h:T7 op=some g):u4 X (binaryOp op) g:=by
 unfold T7 at h;split at h<;>cases h
 ·exact NS
 ·exact gD (zu Tc) (by grind) λ_ _ _=>aG.mpr rfl
 ·exact gD Td (λi j e=>show(-Et<i/\i<Et)\/(-Et<j/\j<Et)from fL e) λ_ _ _=>aG.mpr rfl
 ·exact gD M9 (λ_ j e=>show 0<j/\j<1073741824 from fL e) λ_ _ _=>aG.mpr rfl
 ·exact gD Te (λ_ _ e=>fL e) λ_ _ _=>aG.mpr rfl
 ·exact gD Tf (λ_ _ e=>let ⟨h1,h2,h3⟩:=fL e;⟨h1,by lia,nN h3 (by decide)⟩) λ_ _ _=>aG.mpr rfl
inductive Tr where
 | bB | bl (b:Bool) | int (i:Int) | str (x:Str) | ao (xs:List Tr) | lst (xs:List Tr)
mutual
def eqT:Tr->Tr->Bool
 | .bB,.bB=>true
 | .bl a,.bl b=>a==b
 | .bl a,.int b=>(if a then 1 else 0)==b
 | .int a,.bl b=>a==(if b then 1 else 0)
 | .int a,.int b=>a==b
 | .str a,.str b=>a==b
 | .ao xs,.ao ys=>mq xs ys
 | .lst xs,.lst ys=>mq xs ys
 | _,_=>false
def mq:List Tr->List Tr->Bool
 | [],[]=>true
 | x::xs,y::ys=>eqT x y&&mq xs ys
 | _,_=>false
end
mutual
def dep:Tr->Nat
 | .ao xs=>kK xs+1
 | .lst xs=>kK xs+1
 | _=>0
def kK:List Tr->Nat
 | []=>0
 | x::xs=>max (dep x) (kK xs)
end
mutual
theorem j5:∀p:Tr,eqT p p=true
 | .bB=>rfl
 | .bl b=>nH b
 | .int b=>nH b
 | .str b=>nH b
 | .ao xs=>oe xs
 | .lst xs=>oe xs
theorem oe:∀ps:List Tr,mq ps ps=true
 | []=>rfl
 | x::xs=>fu.mpr ⟨j5 x,oe xs⟩
end
theorem mr:∀{xs ys:List Tr},xs.length≠ys.length->mq xs ys=false
 | [],[],h=>absurd rfl h
 | [],_::_,_=>rfl
 | _::_,[],_=>rfl
 | x::xs,y::ys,h=>by show(eqT x y&&mq xs ys)=false;rw[mr (by simpa using h),Bool.and_false]
noncomputable def rA(xs ys:List Tr)(j:Nat):Bool:=match xs[j]?,ys[j]? with
 | some x,some y=>eqT x y
 | _,_=>true
theorem mv:∀{xs ys:List Tr},xs.length=ys.length->(List.range xs.length).all (rA xs ys)=mq xs ys
 | [],[],_=>rfl
 | [],_::_,h=>by cases h
 | _::_,[],h=>by cases h
 | x::xs,y::ys,h=>by
  have ih:=mv (by simpa using h)
  rw[aK,BE,gL,List.all_map];have e0:rA (x::xs) (y::ys) 0=eqT x y:=rfl;have e1:(rA (x::xs) (y::ys) ∘ Nat.succ)=rA xs ys:=by
   funext j
   simp[rA,Function.comp]
  rw[e0,e1,ih];rfl
def Eu(h1:xs.length=m)(h2:ys.length=n):((List.range (min m n)).all (rA xs ys)&&(m==n))=mq xs ys:=by
 subst h1 h2;by_cases h:xs.length=ys.length
 ·rw[<-h,Nat.min_self,mv h];simp
 ·rw[mr h];simp[h]
mutual
def dF(s:Shared):Tr->Value->Prop
 | .bB,u=>u=.none
 | .bl b,u=>u=.bool b
 | .int i,u=>∃t,u=.int i t
 | .str x,u=>∃t,u=.str x t
 | .ao ts,u=>∃a aH,u=.ref a/\s.heap.IsTuple a aH.toArray/\cq s ts aH
 | .lst ts,u=>∃a aH,u=.ref a/\s.heap.IsList a aH.toArray/\cq s ts aH
def cq(s:Shared):List Tr->List Value->Prop
 | [],us=>us=[]
 | t::ts,us=>∃u r,us=u::r/\dF s t u/\cq s ts r
end
section
variable {A:Around} {s:Shared}
theorem cq.len:∀{ts:List Tr} {us:List Value},cq s ts us->ts.length=us.length
 | [],_,h=>by simp only[cq]at h;rw[h];rfl
 | _::_,_,h=>by
  simp only[cq]at h;obtain⟨u,r,rfl,_,h⟩:=h;simp[cq.len h]
def ku(h1:s.heap.IsTuple a x)(h2:s.heap.IsTuple a y):x=y:=by
 obtain⟨o,e,_,n,d⟩:=h1;obtain⟨o',e',_,n',d'⟩:=h2;rw[e]at e';cases e';rw[d]at d';cases d';rfl
def j0(h1:s.heap.IsList a x)(h2:s.heap.IsList a y):x=y:=by
 obtain⟨o,e,_,n,d⟩:=h1;obtain⟨o',e',_,n',d'⟩:=h2;rw[e]at e';cases e';rw[d]at d';cases d';rfl
def rD(h1:s.heap.IsTuple a x)(h2:s.heap.IsList a y):False:=by
 obtain⟨o,e,c,n,d⟩:=h1;obtain⟨o',e',c',n',d'⟩:=h2;rw[e]at e';cases e';rw[c]at c';simp at c'
mutual
theorem dF.inj:∀{p q:Tr} {u:Value},dF s p u->dF s q u->p=q
 | .bB,q,u,h,h'=>by cases q<;>simp_all [dF]
 | .bl b,q,u,h,h'=>by cases q<;>simp_all [dF]
 | .int b,q,u,h,h'=>by
  simp only[dF]at h;obtain⟨t,rfl⟩:=h;cases q<;>simp_all [dF]
 | .str b,q,u,h,h'=>by
  simp only[dF]at h;obtain⟨t,rfl⟩:=h;cases q<;>simp_all [dF]
 | .ao xs,q,u,h,h'=>by
  simp only[dF]at h;obtain⟨a,aH,rfl,h1,h2⟩:=h;cases q with
  | ao ys =>
   simp only[dF]at h';obtain⟨b,Yz,e,g1,g2⟩:=h';cases e;have:=ku h1 g1;have e:aH=Yz:=by simpa using this
   subst e;rw[cq.inj h2 g2]
  | lst ys =>
   simp only[dF]at h';obtain⟨b,Yz,e,g1,g2⟩:=h';cases e;exact(rD h1 g1).elim
  | _=>simp[dF]at h'
 | .lst xs,q,u,h,h'=>by
  simp only[dF]at h;obtain⟨a,aH,rfl,h1,h2⟩:=h;cases q with
  | lst ys =>
   simp only[dF]at h';obtain⟨b,Yz,e,g1,g2⟩:=h';cases e;have:=j0 h1 g1;have e:aH=Yz:=by simpa using this
   subst e;rw[cq.inj h2 g2]
  | ao ys =>
   simp only[dF]at h';obtain⟨b,Yz,e,g1,g2⟩:=h';cases e;exact(rD g1 h1).elim
  | _=>simp[dF]at h'
theorem cq.inj:∀{ps qs:List Tr} {us:List Value},cq s ps us->cq s qs us->ps=qs
 | [],qs,us,h,h'=>by
  simp only[cq]at h;subst h;cases qs with
  | nil=>rfl
  | cons _ _=>simp[cq]at h'
 | p::ps,qs,us,h,h'=>by
  simp only[cq]at h;obtain⟨u,r,rfl,h1,h2⟩:=h;cases qs with
  | nil=>simp[cq]at h'
  | cons q qs =>
   simp only[cq]at h';obtain⟨u',r',e,g1,g2⟩:=h';cases e;rw[dF.inj h1 g1,cq.inj h2 g2]
end
def rE(h:b=c)(r:SeqAt.RcAt A s u w b):SeqAt.RcAt A s u w c:=h▸r
def lK(h:b = !c)(r:SeqAt.RcNeAt A s u w b):SeqAt.RcNeAt A s u w (!c):=h▸r
def Ew(hf:∀x t,u≠.float x t)(h:SeqAt.RcAt A s u w b)(hb:u=w->b=true):SeqAt.EqAt A s u w b:=λprog v E Q hq=>by
 unfold eqBool;refine ez ?_;refine B8 (λz=>?_) (λ_=>?_)
 ·rw[hb (bf z)]at hq;exact af (nQ (aj hq))
 ·cases u with
  | float x t=>exact absurd rfl (hf x t)
  | _=>exact af (h prog v E _ (lq hq))
def dF.QP(h:dF s p u):∀y t,u≠.float y t:=λy t z=>by
 subst z;cases p<;>simp[dF]at h
mutual
theorem wX:∀(p q:Tr) (A:Around) (u w:Value),dF s p u->dF s q w->A.units+dep p<cLine->SeqAt.RcAt A s u w (eqT p q)/\SeqAt.RcNeAt A s u w (!(eqT p q))
 | .bB,q,A,u,w,ha,hb,hu=>by
  have gP:A.units<cLine := ‹_›;subst ha;cases q with
  | bB=>cases hb;exact⟨.none_none,.none_none⟩
  | bl=>cases hb;exact⟨(.none_bool _),(.none_bool _)⟩
  | int=>obtain⟨t,rfl⟩:=hb;exact⟨(.none_int _ _),(.none_int _ _)⟩
  | str=>obtain⟨t,rfl⟩:=hb;exact⟨(.none_str _ _),(.none_str _ _)⟩
  | ao=>obtain⟨a,aH,rfl,pR,_⟩:=hb;exact⟨(.none_tuple pR gP),(.none_tuple pR gP)⟩
  | lst=>obtain⟨a,aH,rfl,pR,_⟩:=hb;exact⟨(.none_list pR gP),(.none_list pR gP)⟩
 | .bl k,q,A,u,w,ha,hb,hu=>by
  have gP:A.units<cLine := ‹_›;subst ha;cases q with
  | bB=>cases hb;exact⟨(.bool_none _),(.bool_none _)⟩
  | bl=>cases hb;exact⟨(.bool_bool _ _),(.bool_bool _ _)⟩
  | int=>obtain⟨t,rfl⟩:=hb;exact⟨(.bool_int _ _ _),(.bool_int _ _ _)⟩
  | str=>obtain⟨t,rfl⟩:=hb;exact⟨(.bool_str _ _ _),(.bool_str _ _ _)⟩
  | ao=>obtain⟨a,aH,rfl,pR,_⟩:=hb;exact⟨(.bool_tuple _ pR gP),(.bool_tuple _ pR gP)⟩
  | lst=>obtain⟨a,aH,rfl,pR,_⟩:=hb;exact⟨(.bool_list _ pR gP),(.bool_list _ pR gP)⟩
 | .int k,q,A,u,w,ha,hb,hu=>by
  have gP:A.units<cLine := ‹_›;obtain⟨tk,rfl⟩:=ha;cases q with
  | bB=>cases hb;exact⟨(.int_none _ _),(.int_none _ _)⟩
  | bl=>cases hb;exact⟨(.int_bool _ _ _),(.int_bool _ _ _)⟩
  | int=>obtain⟨t,rfl⟩:=hb;exact⟨(.int_int _ _ _ _),(.int_int _ _ _ _)⟩
  | str=>obtain⟨t,rfl⟩:=hb;exact⟨(.int_str _ _ _ _),(.int_str _ _ _ _)⟩
  | ao=>obtain⟨a,aH,rfl,pR,_⟩:=hb;exact⟨(.int_tuple _ _ pR gP),(.int_tuple _ _ pR gP)⟩
  | lst=>obtain⟨a,aH,rfl,pR,_⟩:=hb;exact⟨(.int_list _ _ pR gP),(.int_list _ _ pR gP)⟩
 | .str k,q,A,u,w,ha,hb,hu=>by
  have gP:A.units<cLine := ‹_›;obtain⟨tk,rfl⟩:=ha;cases q with
  | bB=>cases hb;exact⟨(.str_none _ _),(.str_none _ _)⟩
  | bl=>cases hb;exact⟨(.str_bool _ _ _),(.str_bool _ _ _)⟩
  | int=>obtain⟨t,rfl⟩:=hb;exact⟨(.str_int _ _ _ _),(.str_int _ _ _ _)⟩
  | str=>obtain⟨t,rfl⟩:=hb;exact⟨(.str_str _ _ _ _),(.str_str _ _ _ _)⟩
  | ao=>obtain⟨a,aH,rfl,pR,_⟩:=hb;exact⟨(.str_tuple _ _ pR gP),(.str_tuple _ _ pR gP)⟩
  | lst=>obtain⟨a,aH,rfl,pR,_⟩:=hb;exact⟨(.str_list _ _ pR gP),(.str_list _ _ pR gP)⟩
 | .ao xs,q,A,u,w,ha,hb,hu=>by
  have gP:A.units<cLine:=by lia
  obtain⟨al,NU,rfl,pL,tL⟩:=ha;cases q with
  | bB=>cases hb;exact⟨(.tuple_none pL gP),(.tuple_none pL gP)⟩
  | bl=>cases hb;exact⟨(.tuple_bool _ pL gP),(.tuple_bool _ pL gP)⟩
  | int=>obtain⟨t,rfl⟩:=hb;exact⟨(.tuple_int _ _ pL gP),(.tuple_int _ _ pL gP)⟩
  | str=>obtain⟨t,rfl⟩:=hb;exact⟨(.tuple_str _ _ pL gP),(.tuple_str _ _ pL gP)⟩
  | lst=>obtain⟨a,aH,rfl,pR,_⟩:=hb;exact⟨(.tuple_list pL pR gP),(.tuple_list pL pR gP)⟩
  | ao ys =>
   obtain⟨a,NV,rfl,pR,tR⟩:=hb;have e1:xs.length=NU.toArray.size:=by rw[eS,tL.len]
   have e2:ys.length=NV.toArray.size:=by rw[eS,tR.len]
   have el:=λj (h1:j<NU.toArray.size) (h2:j<NV.toArray.size)=>wY xs ys A.in1 NU NV tL tR (by rw[wc];have hu:_+(kK _+1)<_:=hu;lia) j (by simpa using h1) (by simpa using h2)
   exact⟨rE (Eu e1 e2) (.tuples pL pR gP el),lK (by rw[Eu e1 e2];rfl) (.tuples pL pR gP el)⟩
 | .lst xs,q,A,u,w,ha,hb,hu=>by
  have gP:A.units<cLine:=by lia
  obtain⟨al,NU,rfl,pL,tL⟩:=ha;cases q with
  | bB=>cases hb;exact⟨(.list_none pL gP),(.list_none pL gP)⟩
  | bl=>cases hb;exact⟨(.list_bool _ pL gP),(.list_bool _ pL gP)⟩
  | int=>obtain⟨t,rfl⟩:=hb;exact⟨(.list_int _ _ pL gP),(.list_int _ _ pL gP)⟩
  | str=>obtain⟨t,rfl⟩:=hb;exact⟨(.list_str _ _ pL gP),(.list_str _ _ pL gP)⟩
  | ao=>obtain⟨a,aH,rfl,pR,_⟩:=hb;exact⟨(.list_tuple pL pR gP),(.list_tuple pL pR gP)⟩
  | lst ys =>
   obtain⟨a,NV,rfl,pR,tR⟩:=hb;have e1:NU.toArray.size=xs.length:=by rw[eS,tL.len]
   have e2:NV.toArray.size=ys.length:=by rw[eS,tR.len]
   by_cases hl:xs.length=ys.length
   ·have sz:NU.toArray.size=NV.toArray.size:=by rw[e1,e2];exact hl
    have el:=λj (h1:j<NU.toArray.size) (h2:j<NV.toArray.size)=>wY xs ys A.in1 NU NV tL tR (by rw[wc];have hu:_+(kK _+1)<_:=hu;lia) j (by simpa using h1) (by simpa using h2)
    exact⟨rE (by rw[e1,mv hl];rfl) (.lists pL pR sz gP el),lK (by rw[e1,mv hl];rfl) (.lists pL pR sz gP el)⟩
   ·have sz:(NU.toArray.size != NV.toArray.size)=true:=by rw[e1,e2];simpa using hl
    exact⟨rE (mr hl).symm (.lists_lengths pL pR sz gP),lK (dB not (mr hl)).symm (.lists_lengths pL pR sz gP)⟩
theorem wY:∀(ps qs:List Tr) A (us zs:List Value),cq s ps us->cq s qs zs->A.units+kK ps<cLine ->
  ∀j h1 (h2:j<zs.length),SeqAt.EqAt A s us[j] zs[j] (rA ps qs j)
 | [],qs,A,us,zs,b1,b2,hu=>λj h1 h2=>by
  simp only[cq]at b1;subst b1;cases h1
 | p::ps,qs,A,us,zs,b1,b2,hu=>λj h1 h2=>by
  simp only[cq]at b1;obtain⟨u,ur,rfl,c1,d1⟩:=b1;cases qs with
  | nil =>
   simp only[cq]at b2;subst b2;cases h2
  | cons q qs =>
   simp only[cq]at b2;obtain⟨z,zr,rfl,c2,d2⟩:=b2;have hm:A.units+dep p<cLine/\A.units+kK ps<cLine:=by
    simp only[kK]at hu
    lia
   cases j with
   | zero =>
    refine Ew c1.QP (wX p q A _ _ c1 c2 hm.1).1 λe=>?_
    simp only[List.getElem_cons_zero]at e;rw[e]at c1;rw[c1.inj c2];exact j5 q
   | succ j=>exact wY ps qs A _ _ d1 d2 hm.2 j (by simpa using h1) (by simpa using h2)
end
def T8(b1:dF s p u)(b2:dF s q w)(hu:A.units+dep p<cLine):SeqAt.EqAt A s u w (eqT p q):=by
 refine Ew b1.QP (wX p q A _ _ b1 b2 hu).1 λz=>?_
 rw[z]at b1;rw[b1.inj b2];exact j5 q
end
noncomputable def cJ{α β:Type}(f:α->Option β):List α->Option (List β)
 | []=>some []
 | x::xs=>(f x).bind λy=>(cJ f xs).map λys=>y::ys
def Jy:Kd->List Tr->Option Tr
 | .ao,ts=>some (.ao ts)
 | .lst,ts=>some (.lst ts)
 | _,_=>none
def toT(h:List aq):Nat->PV->Option Tr
 | 0,_=>none
 | n+1,p=>match p with
  | .bB=>some .bB
  | .bl b=>some (.bl b)
  | .int i=>some (.int i)
  | .str x=>some (.str x)
  | .fn _=>none
  | p=>(cm h p).bind λq=>(cJ (toT h n) q.2).bind (Jy q.1)
def fP(h:cJ f (x::xs)=some ys):∃y r,f x=some y/\cJ f xs=some r/\ys=y::r:=by
 obtain⟨y,h1,h2⟩:=aY h;obtain⟨r,h3,h4⟩:=bj h2;exact⟨y,r,h1,h3,h4.symm⟩
theorem wZ(h:List aq):∀(n:Nat) (p:PV) (t:Tr),toT h n p=some t->dep t<=n
 | 0,_,_,e=>by cases e
 | n+1,p,t,e=>by
  have go:((cm h p).bind λq=>(cJ (toT h n) q.2).bind (Jy q.1))=some t->dep t<=n+1:=λe=>by
   obtain⟨q,_,e⟩:=aY e;obtain⟨ts,e1,e2⟩:=aY e;have hd:∀ps ts,cJ (toT h n) ps=some ts->kK ts<=n:=by
    intro ps;induction ps with
    | nil=>intro ts z;cases z;simp[kK]
    | cons p ps ih =>
     intro ts z;obtain⟨y,r,h1,h2,rfl⟩:=fP z;have:=wZ h n p y h1;have:=ih r h2;simp only[kK];lia
   have:=hd _ _ e1;unfold Jy at e2;split at e2<;>cases e2<;>simp only[dep]<;>lia
  unfold toT at e;split at e<;>first | (cases e;simp[dep];done) | (cases e;done) | exact go e
section
variable {X:Cx} {ae:List (Addr×Obj)} {σ τ:St} {s:Shared} {aa H:Hp} {ab F:Fz} {st:cx}
theorem Rep.tree(R:Rep X.K aa ab F st τ H)(I:Inv X ae σ H s):∀(n:Nat) (p:PV) (t:Tr) (v:V) (u:Value),toT st.h n p=some t->bO X.K F p v->RelV v u->dF s t u
 | 0,_,_,_,_,e,_,_=>by cases e
 | n+1,p,t,v,u,e,b,r=>by
  have go:((cm st.h p).bind λq=>(cJ (toT st.h n) q.2).bind (Jy q.1))=some t->dF s t u:=λe=>by
   obtain⟨⟨k,ps⟩,e0,e⟩:=aY e;obtain⟨ts,e1,e2⟩:=aY e;obtain⟨a,vs,rfl,h2,h3⟩:=R.at e0 b;have hd:∀ps ts vs us,cJ (toT st.h n) ps=some ts->az X.K F ps vs->Vals vs us->cq s ts us:=by
    intro ps;induction ps with
    | nil=>intro ts vs us z b r;cases z;rw[b.cO]at r;cases r;simp[cq]
    | cons p ps ih =>
     intro ts vs us z b r;obtain⟨y,q,h1,h2,rfl⟩:=fP z;obtain⟨v,w,rfl,b1,b2⟩:=b.cj;cases r with
     | cons ra rr =>
      simp only[cq];exact⟨_,_,rfl,R.tree I n p y v _ h1 b1 ra,ih q w _ h2 b2 rr⟩
   cases r
   match k,e2,h2 with
   | .ao,e2,h2 =>
    cases e2;obtain⟨aH,rr,pl,_⟩:=I.tuple h2.2;simp only[dF];exact⟨a,aH,rfl,pl,hd _ _ _ _ e1 h3 rr⟩
   | .lst,e2,h2 =>
    cases e2;obtain⟨aH,rr,pl,_⟩:=I.list (kF.sq h2);simp only[dF];exact⟨a,aH,rfl,pl.isList,hd _ _ _ _ e1 h3 rr⟩
  unfold toT at e;split at e
  ·cases e;rw[di.mp b]at r;cases r;simp[dF]
  ·cases e;rw[bZ.mp b]at r;cases r;simp[dF]
  ·cases e;rw[aG.mp b]at r;obtain⟨t,rfl⟩:=r;simp[dF]
  ·cases e;rw[cL.mp b]at r;obtain⟨t,rfl⟩:=r;simp[dF]
  ·cases e
  ·exact go e
end
def fQ:Nat:=1000
def eqB(h:List aq)(p q:PV):Option Bool:=(toT h fQ p).bind λx=>(toT h fQ q).map λy=>eqT x y
def gT:G2:=λh p q=>(eqB h p q).map .bl
def Mu:G2:=λh p q=>(eqB h p q).map λb=>.bl !b
noncomputable def Jz:PV->Bool
 | .bB=>true
 | _=>false
def YA:G2:=λ_ p q=>match q with | .bB=>some (.bl (Jz p)) | _=>none
def NW(h:List aq)(p:PV)(ps:List PV):Option Bool:=(toT h fQ p).bind λx=>(cJ (toT h fQ) ps).map λys=>ys.any λy=>eqT y x
section
variable {X:Cx}
def zw(e:eqB h p q=some b):∃x y,toT h fQ p=some x/\toT h fQ q=some y/\b=eqT x y:=by
 obtain⟨x,e1,e⟩:=aY e;obtain⟨y,e2,e3⟩:=bj e;exact⟨x,y,e1,e2,e3.symm⟩
def T9(hu:X.A.units+1150<cLine):u4 X (compareOp .Eq) gT:=by
 rintro ae s σ H x y v u Q I rx ry ⟨aa,ab,F,st,τ,pa,pb,p,e,R,ba,bb,k⟩
 obtain⟨b,e',rfl⟩:=bj e;obtain⟨ta,tb,e1,e2,rfl⟩:=zw e';have hd:=wZ _ _ _ _ e1;exact(wX ta tb X.A v u (R.tree I _ _ _ _ _ e1 ba rx) (R.tree I _ _ _ _ _ e2 bb ry) (by unfold fQ at hd;lia)).1 X.prog X.w X.xe _ ⟨.bl _,H,I,rfl,k _ H F R (Gr.refl F) (bZ.mpr rfl)⟩
def Ua(hu:X.A.units+1150<cLine):u4 X (compareOp .NotEq) Mu:=by
 rintro ae s σ H x y v u Q I rx ry ⟨aa,ab,F,st,τ,pa,pb,p,e,R,ba,bb,k⟩
 obtain⟨b,e',rfl⟩:=bj e;obtain⟨ta,tb,e1,e2,rfl⟩:=zw e';have hd:=wZ _ _ _ _ e1;exact(wX ta tb X.A v u (R.tree I _ _ _ _ _ e1 ba rx) (R.tree I _ _ _ _ _ e2 bb ry) (by unfold fQ at hd;lia)).2 X.prog X.w X.xe _ ⟨.bl _,H,I,rfl,k _ H F R (Gr.refl F) (bZ.mpr rfl)⟩
def Ex{K:W.Frag}(b:bO K F p x):decide (x=.bB)=Jz p:=by
 cases p with
 | bB=>rw[di.mp b];rfl
 | bl _=>rw[bZ.mp b];rfl
 | int _=>rw[aG.mp b];rfl
 | str _=>rw[cL.mp b];rfl
 | ref _=>obtain⟨_,_,rfl⟩:=dj.mp b;rfl
 | fn _=>obtain⟨_,rfl,_⟩:=rj.mp b;rfl
 | nd _ _=>obtain⟨_,_,rfl,_⟩:=jc.mp b;rfl
def Ub:u4 X (compareOp .Is) YA:=by
 rintro ae s σ H x y v u Q I rx ry ⟨aa,ab,F,st,τ,pa,pb,p,e,R,ba,bb,k⟩
 unfold YA at e;split at e
 ·cases e;exact Ti ae s σ H x y v u Q I rx ry ⟨di.mp bb,k _ H F R (Gr.refl F) (bZ.mpr (by rw[Ex ba]))⟩
 ·cases e
open Classical in
noncomputable def mw (s:Shared) (p:Tr) (u:Value):Bool:=if h:∃q,dF s q u then eqT h.choose p else false
def Ey(b:dF s q u):mw s p u=eqT q p:=by
 have h:∃q,dF s q u:=⟨q,b⟩
 unfold mw;rw[dif_pos h,dF.inj h.choose_spec b]
theorem w5:∀{ts:List Tr} {us:List Value},cq s ts us->us.any (mw s p)=ts.any λy=>eqT y p
 | [],_,b=>by simp only[cq]at b;subst b;rfl
 | q::ts,_,b=>by
  simp only[cq]at b;obtain⟨u,r,rfl,c1,d1⟩:=b;rw[i8,i8,Ey c1,w5 d1]
theorem w6(bp:dF s p w):∀{ts:List Tr} {us:List Value},cq s ts us->A.units+kK ts<cLine->∀u∈us,SeqAt.EqAt A s u w (mw s p u)
 | [],_,b,_=>λu hu=>by simp only[cq]at b;subst b;cases hu
 | q::ts,_,b,hz=>λu hu=>by
  simp only[cq]at b;obtain⟨u',r,rfl,c1,d1⟩:=b;simp only[kK]at hz;rcases aD.mp hu with rfl | hu
  ·rw[Ey c1];exact T8 c1 bp (by lia)
  ·exact w6 bp d1 (by lia) u hu
theorem Rep.trees{st:cx}(R:Rep X.K aa ab F st τ H)(I:Inv X ae σ H s)(n:Nat):∀(ps:List PV) (ts:List Tr) (vs:List V) (us:List Value),cJ (toT st.h n) ps=some ts->az X.K F ps vs->Vals vs us->cq s ts us/\kK ts<=n
 | [],ts,vs,us,z,b,r=>by cases z;rw[b.cO]at r;cases r;simp[cq,kK]
 | p::ps,ts,vs,us,z,b,r=>by
  obtain⟨y,q,h1,h2,rfl⟩:=fP z;obtain⟨v,w,rfl,b1,b2⟩:=b.cj;cases r with
  | cons ra rr =>
   obtain⟨h3,h4⟩:=R.trees I n ps q w _ h2 b2 rr;have:=wZ _ _ _ _ h1;simp only[kK];exact⟨⟨_,_,rfl,R.tree I n p y v _ h1 b1 ra,h3⟩,by lia⟩
def JA(e:NW h p ps=some b):∃x ys,toT h fQ p=some x/\cJ (toT h fQ) ps=some ys/\b=ys.any λy=>eqT y x:=by
 obtain⟨x,e1,e⟩:=aY e;obtain⟨y,e2,e3⟩:=bj e;exact⟨x,y,e1,e2,e3.symm⟩
def JB(hu:X.A.units+1150<cLine){st:cx}(I:Inv X ae σ H s)(rx:RelV x v)(ry:RelV y u)(R:Rep X.K aa ab F st τ H)(ba:bO X.K F pa x)(bb:bO X.K F pb y)
  (es:CL st.h pb=some ps) (eb:NW st.h pa ps=some b) :
  (Q (.bl b) H->wpAny (model X.prog X.w) X.A (compareOp .In v u) (EP X ae σ Q) X.xe s)/\(Q (.bl !b) H->wpAny (model X.prog X.w) X.A (compareOp .NotIn v u) (EP X ae σ Q) X.xe s):=by
 obtain⟨t,ts,e1,e2,rfl⟩:=JA eb;obtain⟨a,vs,rfl,hs,hb⟩:=R.seq es bb;have tp:=R.tree I _ _ _ _ _ e1 ba rx;cases ry;rcases hs with hs | hs
 ·obtain⟨aH,r,pl,_⟩:=I.tuple hs;obtain⟨h1,h2⟩:=R.trees I _ _ _ _ _ e2 hb r;have ml:=λw (hw:w∈aH.toArray)=>w6 (A:=X.A.in1) tp h1 (by rw[wc];unfold fQ at h2;lia) w (by grind)
  have ea:aH.toArray.any (mw s t)=ts.any λy=>eqT y t:=by rw[show aH.toArray.any (mw s t)=aH.any (mw s t) by simp,w5 h1]
  exact⟨λq=>SeqAt.in_tupleAt (mw s t) pl ml ⟨.bl _,H,I,rfl,by grind⟩,λq=>SeqAt.notIn_tupleAt (mw s t) pl ml ⟨.bl _,H,I,rfl,by grind⟩⟩
 ·obtain⟨aH,r,pl,_⟩:=I.list hs.sq;obtain⟨h1,h2⟩:=R.trees I _ _ _ _ _ e2 hb r;have ml:=λw (hw:w∈aH.toArray)=>w6 (A:=X.A.in1) tp h1 (by rw[wc];unfold fQ at h2;lia) w (by grind)
  have ea:aH.toArray.any (mw s t)=ts.any λy=>eqT y t:=by rw[show aH.toArray.any (mw s t)=aH.any (mw s t) by simp,w5 h1]
  exact⟨λq=>SeqAt.in_listAt (mw s t) pl.isList ml ⟨.bl _,H,I,rfl,by grind⟩,λq=>SeqAt.notIn_listAt (mw s t) pl.isList ml ⟨.bl _,H,I,rfl,by grind⟩⟩
end
section
variable {K:W.Frag} {F:Fz}
def az.jJ{ps:List PV}{vs:List V}{i:Int}{p:PV}(h:az K F ps vs)(e:L2.jJ ps i=some p):∃v,L2.jJ vs i=some v/\bO K F p v:=by
 unfold L2.jJ at e ⊢;rw[<-h.length];cases z:Ms ps.length i with
 | none=>rw[z]at e;cases e
 | some j =>
  rw[z]at e;exact h.get e
def jy(xs:List PV)(lo hi:Option Int):List PV:=(xs.drop (HT.eH xs.length 0 lo)).take (HT.eH xs.length xs.length hi-HT.eH xs.length 0 lo)
def az.cut{ps:List PV}{vs:List V}(h:az K F ps vs)(lo hi:Option Int):az K F (jy ps lo hi) (y9 vs lo hi):=by
 unfold jy y9;rw[h.length];exact(h.drop _).take _
def dN{p:PV}{vs:List V}(b:az K F [p] vs):∃v,vs=[v]/\bO K F p v:=by
 obtain⟨v,r,rfl,c,d⟩:=b.cj;rw[d.cO];exact⟨v,rfl,c⟩
def mx{p q:PV}{vs:List V}(b:az K F [p,q] vs):∃v w,vs=[v,w]/\bO K F p v/\bO K F q w:=by
 obtain⟨v,r,rfl,c,d⟩:=b.cj;obtain⟨w,rfl,e⟩:=dN d;exact⟨v,w,rfl,c,e⟩
end
def my{prog:Program}{w:World}{A:Around}{E:Value->Shared->Prop}{s:Shared}{t sl:Addr}{aH:Array Value}{vl vu:Value}{lo hi:Option Int}{Q:Value->Shared->Prop}(ht:IsTup s.heap t aH)(hs:s.heap.IsSliceOf sl vl vu .none)(pl:IsPart vl lo)(pu:IsPart vu hi)
  (h0:HT.eH aH.size 0 lo=0) (h1:HT.eH aH.size aH.size hi=aH.size) (h:Q (.ref t) s):wpAny (model prog w) A (getItem (.ref t) (.ref sl)) Q E s:=by
 obtain⟨os,Mr,WI,XS⟩:=id hs;have hT:s.TypeIs (.ref sl) "slice":=⟨os,Mr,WI⟩;unfold getItem
 try with_reducible refine ez ?_
 first | refine af (aj ?_) | skip
 refine af (wpAny_sequenceKey ht.typeIs (by decide) ?_)
 refine af (iV ht.typeIs nv (fN nv ht.typeIs entry_tuple_getitem ?_ (args_tuple_getitem _ _)));show wpAny _ _ (Builtin.Tuple.tupleItemsOf (.ref t) >>= _) _ _ s;refine af (tupleItemsOf_ ht (af (nM hT ?_)));refine af (HT.iE hs pl pu ?_);have hc:(((HT.eH aH.size 0 lo:Nat):Int)==0&&(1:Int)==1&&(HT.eH aH.size aH.size hi-HT.eH aH.size 0 lo)==aH.size)=true:=by
  rw[h0,h1];simp
 show wpAny _ _ (if(((HT.eH aH.size 0 lo:Nat):Int)==0&&1==1&&(HT.eH aH.size aH.size hi-HT.eH aH.size 0 lo)==aH.size)=true then _ else _) _ _ s
 rw[if_pos hc];unfold Builtin.Tuple.tupleIsExact;refine af (af (nM ht.typeIs (aj ?_)));exact af (nQ (aj ⟨_,rfl,aj h⟩))
def Ez(h:List aq)(lo hi:Option Int)(p:PV):Option PV:=match cm h p with
 | some (.lst,ps)=>some (.lst (jy ps lo hi))
 | some (.ao,ps)=>some (.ao (jy ps lo hi))
 | _=>none
section
variable {X:Cx} {aa:Hp} {ab:Fz} {a b e:Expr} {es:List Expr} {fa fb:Gx PV} {ts:Gx (List PV)} {pos p1 p2:Pos} {lo hi:Option Expr}
def rSl(K:W.Frag):V->Option Int->Option Int->Hp->VK->Prop:=λx lo hi H Q=>∃aa ab F st τ pa p,Ez st.h lo hi pa=some p/\Rep K aa ab F st τ H/\bO K F pa x/\∀v H' F',Rep K aa ab F' st τ H'->Gr F F'->bO K F' p v->Q v H'
def slT:SlR X (rSl X.K):=by
 rintro ae s σ H x v vl vu lo hi sl Q I rx hs pl pu ⟨aa,ab,F,st,τ,pa,p,e,R,ba,k⟩
 unfold Ez at e;split at e
 ·rename_i z;cases e;obtain⟨a,vs,rfl,ha,jx⟩:=R.at z ba;refine Nx ae s σ H _ v vl vu lo hi sl Q I rx hs pl pu ⟨a,vs,rfl,kF.sq ha,λq hq=>?_⟩
  obtain⟨R2,s2⟩:=R.laid (.lst (y9 vs lo hi)) hq;exact k _ _ _ R2 s2 (fY.mpr ⟨q,_,rfl,kF.of aA,(jx.cut lo hi).mono s2⟩)
 ·rename_i ps z;cases e;cases pa with
  | nd kk pp =>
   cases z;obtain⟨a,vs,rfl,ha,jx⟩:=cw.mp ba;by_cases hw:HT.eH vs.length 0 lo=0/\HT.eH vs.length vs.length hi=vs.length
   ·cases rx;obtain⟨aH,r,ht,hz⟩:=I.tuple (bu R.sub ha);have eG:aH.toArray.size=vs.length:=by rw[eS];exact r.length.symm
    refine⟨"tuple",_,nv.lookup,ht.typeIs,?_⟩;refine my ht hs pl pu (by grind) (by grind) ⟨.ref a,H,I,rfl,k _ H F R (Gr.refl F) ?_⟩
    have hc:jy ps lo hi=ps:=by
     unfold jy;rw[jx.length,hw.1,hw.2,List.drop_zero,Nat.sub_zero,<-jx.length,List.take_length]
    rw[hc];exact ba
   ·refine Tu ae s σ H _ v vl vu lo hi sl Q I rx hs pl pu ⟨a,vs,rfl,bu R.sub ha,hw,λq hq=>?_⟩
    obtain⟨R2,s2⟩:=R.laid (.ao (y9 vs lo hi)) hq;exact k _ _ _ R2 s2 (cw.mpr ⟨q,_,rfl,gU.of aA,(jx.cut lo hi).mono s2⟩)
  | ref n =>
   obtain⟨c,e1,e2⟩:=aY z;obtain⟨hl,e3⟩:=aN e2;have hk:c.k=.ao:=by grind
   unfold live at hl;rw[hk]at hl;cases hl
  | _=>cases z
 ·cases e
abbrev Uc(X:Cx)(aa:Hp)(ab:Fz)(f:Gx (Option Int)):TO:=tX X aa ab (λ_ a b=>a=b) f
def _root_.L2.PO.imp{X:Cx}{e:Option Expr}{t t':TO}(h:PO X e t)(hi:∀σ H Q,t' σ H Q->t σ H Q):PO X e t':=λae s σ H Q I hw=>h ae s σ H Q I (hi _ _ _ hw)
def kM:PV->Option Int | .int i=>some i | _=>none
def fU{p:PV}{i:Int}(h:kM p=some i):p=.int i:=by
 cases p<;>first | (cases h;rfl) | cases h
def rF(fe:Gx PV):Gx (Option Int):=bnd fe λp=>jK ((kM p).map some)
def Ud:PO X none (Uc X aa ab (aX none)):=Nt.imp λσ H Q h=>wW h λ_=>rfl
def Ue(h:PE X e (tE X aa ab fa)):PO X (some e) (Uc X aa ab (rF fa)):=(Nu h).imp λσ H Q ⟨F,st,R,h⟩=>⟨F,st,R,h.bnd λp v F1 bc H1 R1 g1 b1 h1=>by
 obtain⟨o,e,z⟩:=h1.jK;obtain⟨i,e1,rfl⟩:=bj e;rw[fU e1]at b1;exact⟨i,aG.mp b1,z _ H1 F1 R1 (Gr.refl _) rfl⟩⟩
def cutE(fa:Gx PV)(fl fh:Gx (Option Int)):Gx PV:=bnd fa λp=>bnd fl λl=>bnd fh λr=>hp λh=>Ez h l r p
def YB{fl fh:Gx (Option Int)}(ha:PE X e (tE X aa ab fa))(hl:PO X lo (Uc X aa ab fl))(hh:PO X hi (Uc X aa ab fh)):PE X (.Subscript e (.Slice lo hi none p2) pos) (tE X aa ab (cutE fa fl fh)):=(Ji slT ha hl hh).imp λσ H Q ⟨F,st,R,h⟩ =>
 ⟨F,st,R,h.bnd λp v F1 bc H1 R1 g1 b1 h1=>⟨F1,bc,R1,h1.bnd λl l' F2 d0 H2 R2 g2 b2 h2=>⟨F2,d0,R2,h2.bnd λr r' F3 M6 H3 R3 g3 b3 h3=>by
  cases b2;cases b3;obtain⟨o,e,z⟩:=h3.hp;exact⟨aa,ab,F3,M6,σ,p,o,e,R3,b1.mono (g2.trans g3),z⟩⟩⟩⟩
abbrev GC:=List aq->List PV->Option PV
def rC(K:W.Frag)(g:GC):List V->Hp->VK->Prop:=λxs H Q=>∃aa ab F st τ ps p,g st.h ps=some p/\Rep K aa ab F st τ H/\az K F ps xs/\∀v H' F',Rep K aa ab F' st τ H'->Gr F F'->bO K F' p v->Q v H'
abbrev JC(X:Cx)(f:Value)(g:GC):Prop:=l7 X f (rC X.K g)
def gw(g:GC)(ts:Gx (List PV)):Gx PV:=bnd ts λps=>hp λh=>g h ps
def mz{g:GC}{σ:St}{H:Hp}{Q:VK}(h:tE X aa ab (gw g ts) σ H Q):tCB (rC X.K g) (tA X aa ab ts) σ H Q:=by
 obtain⟨F,st,R,h⟩:=h;refine⟨F,st,R,h.bnd λps vs F1 bc H1 R1 g1 b1 h1=>?_⟩
 obtain⟨o,e,z⟩:=h1.hp;exact⟨aa,ab,F1,bc,σ,ps,o,e,R1,b1,z⟩
def YC(h:List aq)(p:PV):Option Nat:=match cm h p with
 | some (.ao,ps)=>some ps.length
 | some (.lst,ps)=>some ps.length
 | some (.dU _ ks,_)=>some ks.length
 | _=>none
def gv:GC:=λh ps=>match ps with
 | [.str z]=>if z.length<=fq then some (.int z.length)else none
 | [p]=>(YC h p).map λn=>.int n
 | _=>none
def Gy:GC:=λh ps=>match ps with
 | [.nd .ao qs]=>some (.ao qs)
 | [p]=>(CM h p).map λqs=>.ao qs
 | _=>none
noncomputable def Gz:GC:=λ_ ps=>match ps with
 | [.int i]=>some (.int i)
 | [.bl b]=>some (.int (if b then 1 else 0))
 | _=>none
noncomputable def GA:GC:=λ_ ps=>match ps with
 | [.int i]=>if 0<=i/\i<1000 then some (.str (toString i))else none
 | _=>none
def rG(ps:List PV):Option (List Int):=cJ kM ps
def GB:GC:=λh ps=>match ps with
 | [p]=>(CM h p).bind λqs=>(rG qs).map λns=>.int ns.sum
 | _=>none
def zx{A:Around}{E:Value->Shared->Prop}{s:Shared}{d:Addr}{o:Obj}{es:Array DictEntry}{ep n:Nat}{Q:Value->Shared->Prop}(hd:(d==sysModules)=false)(ho:s.heap.get? d=some o)(hc:o.ExactDict)(CN:o.data=.dict es ep)(hn:es.size=n)(agz:(n:Int)<2^63)
  (h:Q (.int n (s.toks+1)) {s with toks:=s.toks+1+1}):wpAny (model X.prog X.w) A (call (.builtin "len") [.ref d]) Q E s:=by
 have ty:s.TypeIs (.ref d) "dict":=⟨o,ho,hc.1⟩;have hm:MeetsIn X.prog X.w (Builtin.«dict.__len__» ⟨[.ref d],[]⟩) (λ_ R s'=>s'.heap.get? d=some o/\R (.ok (.ret (.int n s'.toks))) {s' with toks:=s'.toks+1}):=.of_wp <| by
  rintro A R s' ⟨nh,hR⟩
  show wpAny _ _ (dictSize d >>= _) _ _ s';refine af (af (qE nh CN (aj ?_)));refine af (wpAny_pendingCount_other hd ?_);refine wpAny_ret_mkInt ?_;rw[Nat.add_zero,hn];exact hR
 refine Calls.call_function_entry kind_len plain_len entry_len (args_len1 _) ?_;refine af (aj ?_);refine af (iV ty F.slot_dict_len (call_meetsIn F.slot_dict_len ty F.entry_dict_len (F.args_dict_len_1 _) hm ⟨ho,?_⟩));show wpAny _ _ _ _ _ {s with toks:=s.toks+1}
 refine af (ez (aj ?_));refine af (wpAny_letGo ?_);show wpAny _ _ (if((n:Nat):Int)>=2^63 then _ else _) _ _ _
 rw[if_neg (by lia)]
 exact af (wpAny_mkInt (aj ⟨_,rfl,h⟩))
def EA{n:Nat}(h:n<=sizeLine):(n:Int)<2^63:=by
 have h1:n<=2^62:=bA h (by decide)
 have h62:2^62=4611686018427387904:=by decide
 lia
def NX{ae:List (Addr×Obj)}{s:Shared}{σ:St}{H:Hp}{a:Addr}{t:Bool}{ks:List (List bz)}{vs:List V}{us:List Value}{Q:VK}{F:Hp}(I:Inv X ae σ H s)(rs:Vals [V.ref a] us)(h:kG X.K F H a false (.dU t ks) vs)(q:Q (.int ks.length) H):wpAny (model X.prog X.w) X.A (call (.builtin "len") us) (λu s'=>∃v H',Inv X ae σ H' s'/\RelV v u/\Q v H') X.xe s:=by
 obtain⟨u,rfl,ru⟩:=js rs;cases ru;cases t with
 | false =>
  obtain⟨kvs,h1,h2,h3⟩:=h;obtain⟨z,y,ws,hk,o,es,ep,g1,g2,g3,g4,g5,g6⟩:=(I.hok a _ h1);have hl:ks.length=kvs.length:=by grind
  have hn:es.size=ks.length:=by rw[hl,nK hk,<-g5.length,jQ]
  exact zx y g1 g2 g3 hn (EA (by grind)) ⟨.int ks.length,H,I.tok _,⟨_,rfl⟩,q⟩
 | true =>
  obtain⟨xs,h1,_,h2,_⟩:=h;obtain⟨z,y,o,es,ep,g1,g2,g3,g4,g5⟩:=(I.hok a _ h1);have hl:ks.length=xs.length:=by grind
  exact zx y g1 g2 g3 (by rw[<-jQ,g4,ak,hl]) (EA (by grind)) ⟨.int ks.length,H,I.tok _,⟨_,rfl⟩,q⟩
def GD:JC X (.builtin "len") gv:=by
 rintro ae s σ H xs us Q I rs ⟨aa,ab,F,st,τ,ps,p,e,R,bs,k⟩
 unfold gv at e;split at e
 ·obtain⟨hz,rfl⟩:=aN e;obtain⟨v,rfl,b⟩:=dN bs;rw[cL.mp b]at rs;exact wQ ae s σ H _ us Q I rs ⟨_,rfl,fy hz,k _ H F R (Gr.refl F) (aG.mpr rfl)⟩
 ·obtain⟨n,e1,rfl⟩:=bj e;obtain⟨v,rfl,b⟩:=dN bs;unfold YC at e1;split at e1
  ·rename_i z;cases e1;obtain⟨a,vs,rfl,ha,jx⟩:=R.at z b;exact mf ae s σ H _ us Q I rs ⟨a,vs,rfl,.inr ha.2,k _ H F R (Gr.refl F) (aG.mpr (by rw[jx.length]))⟩
  ·rename_i z;cases e1;obtain⟨a,vs,rfl,ha,jx⟩:=R.at z b;exact mf ae s σ H _ us Q I rs ⟨a,vs,rfl,.inl (kF.sq ha),k _ H F R (Gr.refl F) (aG.mpr (by rw[jx.length]))⟩
  ·rename_i z;cases e1;obtain⟨a,vs,rfl,ha,jx⟩:=R.at z b;exact NX I rs ha (k _ H F R (Gr.refl F) (aG.mpr rfl))
  ·cases e1
 ·cases e
def GF:JC X (.type "tuple") Gy:=by
 rintro ae s σ H xs us Q I rs ⟨aa,ab,F,st,τ,ps,p,e,R,bs,k⟩
 unfold Gy at e;split at e
 ·cases e;obtain⟨v,rfl,b⟩:=dN bs;obtain⟨a,vs,rfl,ha,jx⟩:=cw.mp b;exact kT ae s σ H _ us Q I rs ⟨a,vs,rfl,.inr ⟨bu R.sub ha,k _ H F R (Gr.refl F) b⟩⟩
 ·obtain⟨qs,e1,rfl⟩:=bj e;obtain⟨v,rfl,b⟩:=dN bs;obtain⟨a,vs,rfl,ha,jx⟩:=R.at (iI e1) b;refine kT ae s σ H _ us Q I rs ⟨a,vs,rfl,.inl ⟨kF.sq ha,λq hq=>?_⟩⟩
  obtain⟨R2,s2⟩:=R.laid (.ao vs) hq;exact k _ _ _ R2 s2 (cw.mpr ⟨q,_,rfl,gU.of aA,jx.mono s2⟩)
 ·cases e
def GG:JC X (.type "int") Gz:=by
 rintro ae s σ H xs us Q I rs ⟨aa,ab,F,st,τ,ps,p,e,R,bs,k⟩
 unfold Gz at e;split at e
 ·cases e;obtain⟨v,rfl,b⟩:=dN bs;rw[aG.mp b]at rs;exact uS ae s σ H _ us Q I rs (.inl ⟨_,rfl,k _ H F R (Gr.refl F) (aG.mpr rfl)⟩)
 ·cases e;obtain⟨v,rfl,b⟩:=dN bs;rw[bZ.mp b]at rs;exact uS ae s σ H _ us Q I rs (.inr ⟨_,rfl,k _ H F R (Gr.refl F) (aG.mpr rfl)⟩)
 ·cases e
def GH:JC X (.type "str") GA:=by
 rintro ae s σ H xs us Q I rs ⟨aa,ab,F,st,τ,ps,p,e,R,bs,k⟩
 unfold GA at e;split at e
 ·rename_i i;obtain⟨⟨h0,h1⟩,rfl⟩:=aN e;obtain⟨v,rfl,b⟩:=dN bs;rw[aG.mp b]at rs;exact wK ae s σ H _ us Q I rs ⟨i,rfl,(by
   by_cases h:i.natAbs=0
   ·simp_all
   ·exact nC (Nat.log2_le_self _) (by lia)),k _ H F R (Gr.refl F) (cL.mpr rfl)⟩
 ·cases e
theorem rH{K:W.Frag}{F:Fz}:∀{ps:List PV} {ns:List Int} {vs:List V},rG ps=some ns->az K F ps vs->vs=ns.map V.int
 | [],ns,vs,h,b=>by cases h;exact b.cO
 | p::r,ns,vs,h,b=>by
  obtain⟨i,ms,h1,h2,rfl⟩:=fP h;obtain⟨v,vr,rfl,c,d⟩:=b.cj;rw[fU h1]at c;rw[aG.mp c,rH h2 d];rfl
def NY{ae:List (Addr×Obj)}{σ:St}{H:Hp}{s:Shared}{F:Fz}(I:Inv X ae σ H s){a:Addr}{vs:List V}{ps:List PV}{ns:List Int}(hn:rG ps=some ns)(ha:kF X.K H a vs)(jx:az X.K F ps vs) :
  ∃xs:Array (Int×Tok),s.heap.IsList a (intItems xs)/\ns=xs.toList.map (·.1):=by
 obtain⟨aH,r,pl,_⟩:=I.list ha.sq;have ev:=rH hn jx;subst ev;have hi:=q8 r;obtain⟨xs,ex⟩:=hi.allInts.items;exact⟨xs,by rw[<-ex];exact pl.isList,by rw[<-hi.numsOf,<-nums_intItems,<-ex]⟩
def GI(hc:X.A.handled=none):JC X (.builtin "sum") GB:=by
 rintro ae s σ H xs us Q I rs ⟨aa,ab,F,st,τ,ps,p,e,R,bs,k⟩
 unfold GB at e;split at e
 ·obtain⟨qs,e1,e⟩:=aY e;obtain⟨ns,e2,rfl⟩:=bj e;obtain⟨v,rfl,b⟩:=dN bs;obtain⟨a,vs,rfl,ha,jx⟩:=R.at (iI e1) b;obtain⟨xs,hl,hn⟩:=NY I e2 ha jx;obtain⟨u,rfl,ru⟩:=js rs;cases ru;refine sum_intListG hc hl λh' tk t' hk=>⟨.int ns.sum,H,I.kept hk,⟨t',?_⟩,k _ H F R (Gr.refl F) (aG.mpr rfl)⟩
  rw[preSum_eq,qy (by simp),hn]
 ·cases e
inductive Ty where
 | int | str | bool | tuple | list
noncomputable def Ty.nm:Ty->String
 | .int=>"int" | .str=>"str" | .bool=>"bool" | .tuple=>"tuple" | .list=>"list"
def YD(h:List aq):PV->Option String
 | .bB=>some "NoneType"
 | .bl _=>some "bool"
 | .int _=>some "int"
 | .str _=>some "str"
 | p=>match cm h p with
  | some (.ao,_)=>some "tuple"
  | some (.lst,_)=>some "list"
  | _=>none
def Ug(t:Ty)(y:String):Bool:=y==t.nm || (t.nm=="int"&&y=="bool")
def Uh(t:Ty)(fa:Gx PV):Gx PV:=bnd fa λp=>hp λh=>(YD h p).map λy=>.bl (Ug t y)
def rIs(K:W.Frag)(t:Ty):List V->Hp->VK->Prop:=λxs H Q=>∃aa ab F st τ p x y,xs=[x,.ty t.nm]/\Rep K aa ab F st τ H/\bO K F p x/\YD st.h p=some y/\Q (.bl (Ug t y)) H
def NZ(t:Ty):l7 X (.builtin "isinstance") (rIs X.K t):=by
 rintro ae s σ H xs us Q I rs ⟨aa,ab,F,st,τ,p,x,y,ex,R,b,ey,q⟩
 subst ex;obtain⟨u,w,rfl,ru,Tv⟩:=QD rs;cases Tv;have jI:∀tk,EP X ae σ Q (.bool (Ug t y)) {s with toks:=tk}:=λtk=>⟨.bl _,H,I.tok tk,rfl,q⟩
 have more:(match cm st.h p with
  | some (.ao,_)=>some "tuple"
  | some (.lst,_)=>some "list"
  | _=>none)=some y->wpAny (model X.prog X.w) X.A (call (.builtin "isinstance") [u,.type t.nm]) (EP X ae σ Q) X.xe s:=λey=>by
  split at ey
  ·rename_i z;cases ey;obtain⟨a,vs,rfl,h2,h3⟩:=R.at z b;cases ru;obtain⟨aH,_,⟨o,h1,h2,_⟩,_⟩:=I.tuple h2.2;exact W.kia_one W.kitx_tuple I.qS ⟨o,h1,h2⟩ (by cases t<;>kernel_rfl) (λz=>nomatch z) jI
  ·rename_i z;cases ey;obtain⟨a,vs,rfl,h2,h3⟩:=R.at z b;cases ru;obtain⟨aH,n,_,h1,_⟩:=I.Es h2;exact W.kia_one W.kitx_list I.qS ⟨_,h1,rfl⟩ (by cases t<;>kernel_rfl) (λz=>nomatch z) jI
  ·cases ey
 cases p with
 | bB =>
  cases ey;rw[di.mp b]at ru;cases ru;exact W.kia_one W.kitx_none I.qS True.intro (by cases t<;>kernel_rfl) (λz=>nomatch z) jI
 | bl y =>
  cases ey;rw[bZ.mp b]at ru;cases ru;exact W.kia_one W.kitx_bool I.qS True.intro (by cases t<;>kernel_rfl) (λz=>nomatch z) jI
 | int i =>
  cases ey;rw[aG.mp b]at ru;obtain⟨tk,rfl⟩:=ru;exact W.kia_one W.kitx_int I.qS True.intro (by cases t<;>kernel_rfl) (λz=>nomatch z) jI
 | str y =>
  cases ey;rw[cL.mp b]at ru;obtain⟨tk,rfl⟩:=ru;exact W.kia_one W.kitx_str I.qS True.intro (by cases t<;>kernel_rfl) (λz=>nomatch z) jI
 | ref n=>exact more ey
 | fn x=>exact more ey
 | nd k ps=>exact more ey
def pN:bootBuiltins "isinstance"=some (.builtin "isinstance"):=by kernel_rfl
def kz(t:Ty):bootBuiltins (Str.ofString t.nm)=some (.type t.nm):=by cases t<;>kernel_rfl
noncomputable def tys:List Ty:=[.int,.str,.bool,.tuple,.list]
def EB(x:Str):Option Ty:=tys.find? λt=>x==Str.ofString t.nm
def JD{x:Str}{t:Ty}(h:EB x=some t):x=Str.ofString t.nm:=by
 have:=List.find?_some h;exact bf this
def acQ{x:Str}{t:Ty}(ht:EB x=some t)(hg:Gl X "isinstance")(hm:X.mg "isinstance"=none)(hg2:Gl X x)(hm2:X.mg x=none)(ha:PE X a (tE X aa ab fa))(hs:∀es,starEach (a::es) X.env=(false,eval a X.env)::starEach es X.env) :
  PE X (.Call (.Name "isinstance" p1) [a,.Name x p2] [] pos) (tE X aa ab (Uh t fa)):=by
 have hx:=JD ht;subst hx;refine(qY (NZ t) hg hm pN (hJ ha (hJ (MQ (v:=.ty t.nm) hg2 hm2 (kz t) rfl (by cases t<;>decide) (by cases t<;>decide)) nZ rfl) (hs _)) (by decide) (by decide) (hs _)).imp λσ H Q ⟨F,st,R,h⟩=>?_
 refine⟨F,st,R,h.bnd λp v F1 bc H1 R1 g1 b1 h1=>?_⟩
 obtain⟨o,e,z⟩:=h1.hp;obtain⟨y,e1,rfl⟩:=bj e;exact⟨aa,ab,F1,bc,σ,p,v,y,rfl,R1,b1,e1,z _ H1 F1 R1 (Gr.refl _) (bZ.mpr rfl)⟩
def w9(fa:Gx PV):Gx PV:=bnd fa λp=>jK ((kM p).map λi=>.int (-i))
def YE(ha:PE X a (tE X aa ab fa)):PE X (.UnaryOp .USub a pos) (tE X aa ab (w9 fa)):=(XF Th ha).imp λσ H Q ⟨F,st,R,h⟩=>⟨F,st,R,h.bnd λp v F1 bc H1 R1 g1 b1 h1=>by
 obtain⟨o,e,z⟩:=h1.jK;obtain⟨i,e1,rfl⟩:=bj e;rw[fU e1]at b1;exact⟨i,aG.mp b1,z _ H1 F1 R1 (Gr.refl _) (aG.mpr rfl)⟩⟩
end
noncomputable def zy:PV->Option bz
 | .int i=>some (.inl i)
 | .str x=>some (.inr x)
 | _=>none
def gA:Bool->PV->Option (List bz)
 | false,p=>(zy p).map λk=>[k]
 | true,.nd .ao ps=>if ps.length<1000 then cJ zy ps else none
 | true,_=>none
noncomputable def j6(k:List bz)(ks:List (List bz)):Bool:=ks.any λj=>decide (j=k)
noncomputable def fH(k:List bz):List (List bz)->List PV->Option PV
 | j::ks,p::ps=>if j=k then some p else fH k ks ps
 | _,_=>none
noncomputable def xb(k:List bz)(q:PV):List (List bz)->List PV->List PV
 | j::ks,p::ps=>(if j=k then q else p)::xb k q ks ps
 | _,ps=>ps
def rJ:xb k q [] ps=ps:=by cases ps<;>rfl
def lL(t:Bool)(k:List bz)(q:PV)(ks:List (List bz))(ps:List PV):aq:=if j6 k ks=true then⟨.dU t ks,xb k q ks ps⟩else⟨.dU t (ks++[k]),ps++[q]⟩
section
variable {K:W.Frag} {F:Fz}
def rK(h:zy p=some k)(b:bO K F p v):v=kV k:=by
 cases p<;>cases h
 ·exact aG.mp b
 ·exact cL.mp b
theorem u7:∀{ps:List PV} {ks:List bz} {vs:List V},cJ zy ps=some ks->az K F ps vs->vs=ks.map kV
 | [],_,_,h,b=>by cases h;exact b.cO
 | _::_,_,_,h,b=>by
  obtain⟨k,r,h1,h2,rfl⟩:=fP h;obtain⟨v,w,rfl,b1,b2⟩:=b.cj;rw[rK h1 b1,u7 h2 b2];rfl
def j7(h:gA false p=some k)(b:bO K F p v):∃j,k=[j]/\v=kV j:=by
 obtain⟨j,e,rfl⟩:=bj h;exact⟨j,rfl,rK e b⟩
def j8(h:gA true p=some k)(b:bO K F p v):∃c,v=.ref c/\gU K F.F c (k.map kV):=by
 unfold gA at h;split at h
 ·grind
 ·obtain⟨_,h⟩:=b6 h;obtain⟨c,vs,rfl,hs,hb⟩:=cw.mp b;rw[u7 h hb]at hs;exact⟨c,rfl,hs⟩
 ·cases h
theorem og(j:bz):∀kvs:List (bz×V),j6 [j] (kvs.map λy=>[y.1])=(jw kvs j).isSome
 | []=>rfl
 | (i,v)::r=>by
  have ih:=og j r;unfold j6 at ih ⊢;rw[aI,i8,ih];by_cases h:i=j
  ·subst h;rw[mh rfl];simp
  ·rw[mi h];simp[h]
theorem xc:∀{kvs:List (bz×V)} {ps:List PV} {p:PV},fH [j] (kvs.map λy=>[y.1]) ps=some p->az K F ps (kvs.map (·.2))->∃v,jw kvs j=some v/\bO K F p v
 | [],_,_,h,_=>by cases h
 | (i,v)::r,[],_,h,_=>by cases h
 | (i,v)::r,q::ps,p,h,b=>by
  obtain⟨v',w,e,b1,b2⟩:=b.cj;cases e;have h:(if [i]=[j]then some q else fH [j] (r.map λy=>[y.1]) ps)=some p:=h
  by_cases hi:i=j
  ·subst hi;rw[if_pos rfl]at h;cases h;exact⟨v,mh rfl,b1⟩
  ·rw[if_neg (by grind)]at h
   rw[mi hi];exact xc h b2
def JE(bq:bO K F q v)(b:az K F ps (kvs.map (·.2))) :
  ∃jz oX,lL false [j] q (kvs.map λy=>[y.1]) ps=⟨.dU false jz,oX⟩/\(putK kvs j v).map (λy=>[y.1])=jz/\az K F oX ((putK kvs j v).map (·.2)):=by
 unfold lL putK;rw[og,q9];cases e:(jw kvs j).isSome with
 | false=>exact⟨_,_,rfl,by simp,by simpa using b.append (.cons bq .nil)⟩
 | true =>
  refine⟨_,_,rfl,?_,?_⟩
  ·rw[if_pos rfl,cX];exact BO λy _=>by grind
  ·rw[if_pos rfl];clear e;induction kvs generalizing ps with
   | nil=>rw[nL,rJ];exact b
   | cons y r ih =>
    cases ps with
    | nil=>have:=b.length;simp at this
    | cons p ps =>
     obtain⟨v',w,e,b1,b2⟩:=b.cj;simp only[aI,B9]at e;obtain⟨rfl,rfl⟩:=e;have ih:=ih b2;by_cases hy:y.1=j
     ·simpa only[aI,xb,hy,jY]using az.cons bq ih
     ·have:¬ [y.1]=[j]:=by grind
      simpa only[aI,xb,hy,this,gu]using az.cons b1 ih
def CP(k:List bz)(xs:List (List bz×Addr×Value)):j6 k (xs.map (·.1))=(atKey xs k).isSome:=(Gv xs k).symm
theorem EC:∀{xs:List (List bz×Addr×Value)} {ps:List PV} {vs:List V} {p:PV},fH k (xs.map (·.1)) ps=some p->az K F ps vs->Vals vs (xs.map (·.2.2))->∃a r v,atKey xs k=some (a,r)/\RelV v r/\bO K F p v
 | [],_,_,_,h,_,_=>by cases h
 | x::r,[],_,_,h,_,_=>by cases h
 | x::r,q::ps,vs,p,h,b,rv=>by
  obtain⟨v',w,rfl,b1,b2⟩:=b.cj;cases rv with
  | cons r1 r2 =>
   have h:(if x.1=k then some q else fH k (r.map (·.1)) ps)=some p:=h
   by_cases hi:x.1=k
   ·rw[if_pos hi]at h;cases h;exact⟨x.2.1,x.2.2,v',by simp[atKey,hi],r1,b1⟩
   ·rw[if_neg hi]at h;obtain⟨a,r',v,h1,h2,h3⟩:=EC h b2 r2;exact⟨a,r',v,by unfold atKey at h1 ⊢;rw[qI,lx hi];exact h1,h2,h3⟩
def Ui(bq:bO K F q v)(rq:RelV v r)(hc:gU K F.F c (k.map kV))(hk:eX K F.F xs)(b:az K F ps vs)(rv:Vals vs (xs.map (·.2.2))) :
  ∃jz oX wU,lL true k q (xs.map (·.1)) ps=⟨.dU true jz,oX⟩/\(storedH xs k c r).map (·.1)=jz/\eX K F.F (storedH xs k c r)/\az K F oX wU/\Vals wU ((storedH xs k c r).map (·.2.2)):=by
 unfold lL storedH;rw[CP];cases e:(atKey xs k).isSome with
 | false =>
  refine⟨_,_,vs++[v],rfl,by simp,λx hx=>?_,b.append (.cons bq .nil),by simpa using rv.append (.cons rq .nil)⟩
  simp only[nA,gu,bh,aB]at hx;rcases hx with hx | rfl
  ·exact hk x hx
  ·exact hc
 | true =>
  simp only[jY];have hm:(xs.map (putAt k r)).map (·.1)=xs.map (·.1):=by
   rw[cX];exact BO λy _=>by simp only[Function.comp,putAt];split<;>rfl
  have key:eX K F.F (xs.map (putAt k r)):=λx hx=>by
   obtain⟨y,hy,rfl⟩:=aM.mp hx;have:=hk y hy;unfold putAt;split<;>exact this
  suffices h:∃wU,az K F (xb k q (xs.map (·.1)) ps) wU/\Vals wU ((xs.map (putAt k r)).map (·.2.2)) by
   obtain⟨wU,h1,h2⟩:=h;exact⟨_,_,wU,rfl,hm,key,h1,h2⟩
  clear e hk hm key;induction xs generalizing ps vs with
  | nil=>exact⟨vs,by rw[nL,rJ];exact b,rv⟩
  | cons x xs ih =>
   cases ps with
   | nil=>rw[b.cO]at rv;cases rv
   | cons p ps =>
    obtain⟨v',w,rfl,b1,b2⟩:=b.cj;cases rv with
    | cons r1 r2 =>
     obtain⟨wU,h1,h2⟩:=ih b2 r2;by_cases hx:x.1=k
     ·exact⟨v::wU,by simpa only[aI,xb,hx,jY]using az.cons bq h1,by simpa only[aI,putAt,hx,jY]using Paired.cons rq h2⟩
     ·exact⟨v'::wU,by simpa only[aI,xb,hx,gu]using az.cons b1 h1,by simpa only[aI,putAt,hx,gu]using Paired.cons r1 h2⟩
end
def bN:G2:=λh p q=>match p with
 | .str z=>(kM q).bind λi=>if z.length<=fq then(jJ z.cps.toList i).map λc=>.str ⟨#[c]⟩else none
 | p=>match cm h p with
  | some (.ao,ps)=>(kM q).bind (jJ ps)
  | some (.lst,ps)=>(kM q).bind (jJ ps)
  | some (.dU t ks,ps)=>(gA t q).bind λk=>fH k ks ps
  | _=>none
section
variable {X:Cx} {aa:Hp} {ab:Fz} {a b e:Expr} {fa fb:Gx PV} {pos:Pos}
def ixT(hu:X.A.units+1150<cLine):WJ X (rT X.K bN):=by
 rintro value slice ae s σ H x y v u Q I rx ry ⟨aa,ab,F,st,τ,pa,pb,p,e,R,ba,bb,k⟩ hs
 have more:(match cm st.h pa with
  | some (.ao,ps)=>(kM pb).bind (jJ ps)
  | some (.lst,ps)=>(kM pb).bind (jJ ps)
  | some (.dU t ks,ps)=>(gA t pb).bind λk=>fH k ks ps
  | _=>none)=some p->wpAny (model X.prog X.w) X.A (subscriptTail value slice v u) (EP X ae σ Q) X.xe s:=λe=>by
  split at e
  ·rename_i z;obtain⟨i,e1,e2⟩:=aY e;rw[fU e1]at bb;rw[aG.mp bb]at ry;obtain⟨a,vs,rfl,ha,jx⟩:=R.at z ba;obtain⟨w,hw,bw⟩:=jx.jJ e2;exact Tw value slice ae s σ H _ _ v u Q I rx ry ⟨a,vs,_,w,rfl,rfl,ha.2,hw,k _ H F R (Gr.refl F) bw⟩ hs
  ·rename_i z;obtain⟨i,e1,e2⟩:=aY e;rw[fU e1]at bb;rw[aG.mp bb]at ry;obtain⟨a,vs,rfl,ha,jx⟩:=R.at z ba;obtain⟨w,hw,bw⟩:=jx.jJ e2;exact Nw value slice ae s σ H _ _ v u Q I rx ry ⟨a,vs,_,w,rfl,rfl,kF.sq ha,hw,k _ H F R (Gr.refl F) bw⟩ hs
  ·rename_i t ks ps z;obtain⟨kk,e1,e2⟩:=aY e;obtain⟨a,vs,rfl,ha,jx⟩:=R.at z ba;cases rx;cases t with
   | false =>
    obtain⟨kvs,g1,g2,g3⟩:=ha;obtain⟨j,rfl,rfl⟩:=j7 e1 bb;subst g2 g3;obtain⟨w,hw,bw⟩:=xc e2 jx;obtain⟨_,hd,us,GJ,dd⟩:=Eo I.hok (.inl g1);have hr:=GJ.val j;rw[hw]at hr;cases hv:valueAt us j with
    | none=>rw[hv]at hr;exact hr.elim
    | some u' =>
     rw[hv]at hr;exact tail_any dd.typeIs PySem.F.slot_dict_getitem.lookup (wpAny_getItem_of (rf ry) dd.mapOf hv ⟨w,H,I.tok _,hr,k _ H F R (Gr.refl F) bw⟩) hs
   | true =>
    obtain⟨xs,g1,g2,g3,g4⟩:=ha;obtain⟨c,rfl,hc⟩:=j8 e1 bb;cases ry;subst g3;obtain⟨ad,r,w,hw,Tv,bw⟩:=EC e2 jx g4;obtain⟨_,hd,dd⟩:=u3 I (.inl g1) (λz hz=>bu R.sub (g2 z hz))
    obtain⟨o,_,_,ho,hx,_⟩:=id dd;refine tail_any ⟨o,ho,hx.1⟩ PySem.F.slot_dict_getitem.lookup (X5 (by lia) I (.inl g1) (λz hz=>bu R.sub (g2 z hz)) (bu R.sub hc) hw λs' I'=>⟨w,H,I',Tv,k _ H F R (Gr.refl F) bw⟩) hs
  ·cases e
 cases pa with
 | str z =>
  obtain⟨i,e1,e2⟩:=aY e;rw[fU e1]at bb;obtain⟨hz,e2⟩:=b6 e2;obtain⟨c,e3,rfl⟩:=bj e2;rw[cL.mp ba]at rx;rw[aG.mp bb]at ry;exact Tz value slice ae s σ H _ _ v u Q I rx ry ⟨z,i,c,rfl,rfl,fy hz,e3,k _ H F R (Gr.refl F) (cL.mpr rfl)⟩ hs
 | bB=>exact more e
 | bl _=>exact more e
 | int _=>exact more e
 | ref _=>exact more e
 | fn _=>exact more e
 | nd _ _=>exact more e
def acR(hu:X.A.units+1150<cLine)(ha:PE X a (tE X aa ab fa))(hb:PE X b (tE X aa ab fb))(hs:p8 b):PE X (.Subscript a b pos) (tE X aa ab (op2 bN fa fb)):=(QG (ixT hu) ha hb hs).imp λ_ _ _ h=>qa h
def oY(n:Bool):G2:=λh p q=>match cm h q with
 | some (.dU t ks,_)=>(gA t p).map λk=>.bl (if n=true then !j6 k ks else j6 k ks)
 | _=>(CL h q).bind λqs=>(NW h p qs).map λb=>.bl (if n=true then !b else b)
def Uj(hu:X.A.units+1150<cLine):u4 X (compareOp .In) (oY false):=by
 rintro ae s σ H x y v u Q I rx ry ⟨aa,ab,F,st,τ,pa,pb,p,e,R,ba,bb,k⟩
 unfold oY at e;split at e
 ·rename_i t ks ps z;obtain⟨kk,e1,rfl⟩:=bj e;obtain⟨a,vs,rfl,ha,jx⟩:=R.at z bb;cases ry;cases t with
  | false =>
   obtain⟨kvs,g1,g2,g3⟩:=ha;obtain⟨j,rfl,rfl⟩:=j7 e1 ba;obtain⟨_,hd,us,GJ,dd⟩:=Eo I.hok (.inl g1);refine wpAny_in_of (rf rx) hd dd.mapOf ⟨.bl (jw kvs j).isSome,H,I.tok _,?_,k _ H F R (Gr.refl F) (bZ.mpr ?_)⟩
   ·rw[(GJ.val j).uZ];rfl
   ·rw[<-g2,og];rfl
  | true =>
   obtain⟨xs,g1,g2,g3,g4⟩:=ha;obtain⟨c,rfl,hc⟩:=j8 e1 ba;cases rx;exact X3 (by lia) I (.inl g1) (λz hz=>bu R.sub (g2 z hz)) (bu R.sub hc) λs' I'=>⟨.bl _,H,I',rfl,k _ H F R (Gr.refl F) (bZ.mpr (by rw[<-g3,CP];rfl))⟩
 ·obtain⟨qs,e1,e⟩:=aY e;obtain⟨b,e2,rfl⟩:=bj e;exact(JB hu I rx ry R ba bb e1 e2).1 (k _ H F R (Gr.refl F) (bZ.mpr rfl))
def GL(hu:X.A.units+1150<cLine):u4 X (compareOp .NotIn) (oY true):=by
 rintro ae s σ H x y v u Q I rx ry ⟨aa,ab,F,st,τ,pa,pb,p,e,R,ba,bb,k⟩
 unfold oY at e;split at e
 ·rename_i t ks ps z;obtain⟨kk,e1,rfl⟩:=bj e;obtain⟨a,vs,rfl,ha,jx⟩:=R.at z bb;cases ry;cases t with
  | false =>
   obtain⟨kvs,g1,g2,g3⟩:=ha;obtain⟨j,rfl,rfl⟩:=j7 e1 ba;obtain⟨_,hd,us,GJ,dd⟩:=Eo I.hok (.inl g1);refine wpAny_notIn_of (rf rx) hd dd.mapOf ⟨.bl (!(jw kvs j).isSome),H,I.tok _,?_,k _ H F R (Gr.refl F) (bZ.mpr ?_)⟩
   ·rw[(GJ.val j).uZ];rfl
   ·rw[<-g2,og];rfl
  | true =>
   obtain⟨xs,g1,g2,g3,g4⟩:=ha;obtain⟨c,rfl,hc⟩:=j8 e1 ba;cases rx;exact X4 (by lia) I (.inl g1) (λz hz=>bu R.sub (g2 z hz)) (bu R.sub hc) λs' I'=>⟨.bl _,H,I',rfl,k _ H F R (Gr.refl F) (bZ.mpr (by rw[<-g3,CP];rfl))⟩
 ·obtain⟨qs,e1,e⟩:=aY e;obtain⟨b,e2,rfl⟩:=bj e;exact(JB hu I rx ry R ba bb e1 e2).2 (k _ H F R (Gr.refl F) (bZ.mpr rfl))
end
def Uk:G2:=λ_ p q=>match q with | .bB=>some (.bl (!Jz p)) | _=>none
def N0:u4 X (compareOp .IsNot) Uk:=by
 rintro ae s σ H x y v u Q I rx ry ⟨aa,ab,F,st,τ,pa,pb,p,e,R,ba,bb,k⟩
 unfold Uk at e;split at e
 ·cases e;exact Nb ae s σ H x y v u Q I rx ry ⟨di.mp bb,k _ H F R (Gr.refl F) (bZ.mpr (by rw[Ex ba]))⟩
 ·cases e
def CQ:CmpOp->Option G2
 | .Eq=>some gT
 | .NotEq=>some Mu
 | .Lt=>some Jw
 | .LtE=>some leO
 | .GtE=>some geO
 | .Is=>some YA
 | .IsNot=>some Uk
 | .In=>some (oY false)
 | .NotIn=>some (oY true)
 | _=>none
def kA(hu:X.A.units+1150<cLine)(h:CQ op=some g):u4 X (compareOp op) g:=by
 have nn:∀i j:Int,(λ_ _=>true) i j=true->(λ_ _=>True) i j:=by grind
 cases op<;>cases h
 ·exact T9 hu
 ·exact Ua hu
 ·exact gD (zu XG) nn λ_ _ _=>bZ.mpr rfl
 ·exact gD (zu XH) nn λ_ _ _=>bZ.mpr rfl
 ·exact gD (zu XI) nn λ_ _ _=>bZ.mpr rfl
 ·exact Ub
 ·exact N0
 ·exact Uj hu
 ·exact GL hu
end L2.U
namespace L2
open PySem PySem.Spec PyProof.Rows
section
variable {X:Cx}
def JF:PE X (.Dict [] [] pos) (QJ (.dK [])):=λae s σ H Q I h =>
 wpAny_Dict_empty ⟨.ref s.heap.objs.size,_,I.laid (o:=.dK []) (λ_ _ q=>aZ _ q) (ay _)
  ⟨dI _,fK.mpr (dt (bI (rg I))),[],.nil,Heap.DictOf.new s.heap⟩,rfl,h _ (I.hok.fresh (ay _))⟩
def YF:V->List V->Hp->VK->Prop:=λx vs H Q=>∃a kvs k y,x=.ref a/\vs=[kV k,y]/\H a=some (.dK kvs)/\kvs.length<sizeLine/\(∀v,jw kvs k=some v->Q v H)/\(jw kvs k=none->Q y (cg H a (.dK (kvs++[(k,y)]))))
def Ul:XX X "dict.setdefault" YF:=by
 intro ae s σ H x xs v us Q I rx rv h;obtain⟨a,kvs,k,y,rfl,rfl,e,hl,h1,h2⟩:=h;cases rx;obtain⟨u1,u2,rfl,r1,r2⟩:=rv.two;obtain⟨z,hd,vs,GJ,dd⟩:=QI I.hok e;refine call_meetsIn Ij dd.typeIs PySem.F.entry_dict_setdefault (PySem.F.args_dict_setdefault_3 _ _ _) (kt_meets_setdefault (cf X.prog X.w) a (rf r1) hd u2) ⟨vs,dd,by rw[<-GJ.length];exact z,λw hw=>?_,λhn h' TJ hs=>?_⟩
 ·have rk:=GJ.val k;rw[hw]at rk;cases hv:jw kvs k with
  | none=>rw[hv]at rk;exact rk.elim
  | some v0=>rw[hv]at rk;exact⟨v0,H,I.tok _,rk,h1 v0 hv⟩
 ·have rk:=GJ.val k;rw[hn]at rk;have hv:jw kvs k=none:=by
   cases hv:jw kvs k with
   | none=>rfl
   | some v0=>rw[hv]at rk;exact rk.elim
  have N1:=GJ.put k r2;rw[Jq y hv]at N1;have he:∃q,h'.get? a=some q:=let ⟨q,_,_,hq,_⟩:=TJ;⟨q,hq⟩
  exact⟨y,_,I.write (o:=.dK (kvs++[(k,y)])) (by rw[e];exact True.intro) (.inl rfl) (λc q' hc z=>(hs.2 c hc).trans z) he ⟨by rw[aR];exact hl,hd,_,N1,TJ⟩,r2,h2 hv⟩
def ED:V->List V->Hp->VK->Prop:=λx vs H Q=>∃(l:Addr) (xs:List V) (i:Int) (y:V),x=.ref l/\vs=[.int i,y]/\H l=some (.lst xs)/\xs.length<sizeLine/\0<=i/\i<=1000000/\Q .bB (cg H l (.lst (xs.take i.toNat++y::xs.drop i.toNat)))
def Um(h0:0<=i)(hi:i<=1000000):¬(!Builtin.List.listFitsIndex i)=true:=by
 unfold Builtin.List.listFitsIndex;have h1:decide (-(2^63:Int)<=i)=true:=by grind
 have h2:decide (i<2^63)=true:=by grind
 rw[h1,h2];simp
noncomputable def YG(i:Int)(u:Value):Array Value->Array Value:=λxs=>have k:=if i<0 then(i+((xs.size:Nat):Int)).toNat else min i.toNat xs.size;(xs.extract 0 k).push u++xs.extract k
def N2(h0:0<=i)(aH:List Value)(u:Value):YG i u aH.toArray=(aH.take i.toNat++u::aH.drop i.toNat).toArray:=by
 unfold YG;have h1:¬i<0:=by lia
 simp only[h1,eS];apply Array.ext';simp only[List.extract_eq_drop_take];by_cases hb:i.toNat<=aH.length
 ·rw[Nat.min_eq_left hb];have h2:List.take (aH.length-i.toNat) (List.drop i.toNat aH)=List.drop i.toNat aH:=qy (by grind)
  simp[h2]
 ·grind
def GN:MtM X "list.insert" ED:=by
 intro ae s σ H x vs v us Q I rx rv h;obtain⟨l,xs,i,y,rfl,rfl,hH,hz,h0,hi,q⟩:=h;cases rx;obtain⟨u1,u2,rfl,⟨t,rfl⟩,r2⟩:=rv.two;obtain⟨z,aH,n,r,hl,e⟩:=I.gW hH;have CS:=r.length;have J:=I.Ny (t':=s.toks) hH e (N2 h0 aH u2) ((r.take i.toNat).append (.cons r2 (r.drop i.toNat))) (by grind)
 exact lD F.slot_list_insert ⟨_,e,rfl⟩ F.entry_list_insert (F.args_list_insert_3 _ _ _) (@PySem.AutoListH.list_insert_list_int_val_1 l aH.toArray n i t u2 (Um h0 hi) (by grind)) ⟨e,.bB,_,J,rfl,q⟩
def Uo(K:W.Frag):V->List V->Hp->VK->Prop:=λx vs H Q=>∃l b xs zs,x=.ref l/\vs=[.ref b]/\H l=some (.lst xs)/\(gU K H b zs\/kF K H b zs)/\xs.length+zs.length<=sizeLine/\Q .bB (cg H l (.lst (xs++zs)))
def xf(l:Addr)(aH:Array Value)(n:Nat)(b:Addr)(more:Array Value)(n2:Nat)(dd:Option Addr)(sl:Array (Option Value))(h0:¬(!aH.isEmpty&&Builtin.List.listTooLong (aH.size+more.size))=true)(h1:aH.size<=sizeLine)(h2:aH.size+more.size<=sizeLine+1) :
  Meets (Builtin.«list.extend» ⟨[.ref l,.ref b],[]⟩) (λ_ R s=>s.heap.get? l=some {cls:=.type "list",dict:=none,data:=.seq aH n,slots:=#[]}/\s.heap.get? b=some {cls:=.type "tuple",dict:=dd,data:=.seq more n2,slots:=sl} /\
   R (.ok (.ret Value.none)) {s with heap:=s.heap.update l (Obj.mapSeq λx=>x++more),toks:=s.toks}) :=
 .of_wp λprog w A R s h=>by
  obtain⟨hp,g,d,tk,os⟩:=s;obtain⟨hl,hb,h⟩:=h;have f1:=AutoSeq1.idx_int;have f2:=AutoSeq1.sub_tuple_tuple;have f3:=AutoSeq1.sub_list_list;have f4:=AutoSeq1.sub_tuple_list;have f5:=AutoSeq1.sub_list_tuple
  wp_walk using (wpAny_updateSeq hl rfl (_hz':=(by rw[Array.size_append];exact h2))),jM hl,jM hb
  exact⟨_,rfl,h⟩
def Up:MtM X "list.extend" (Uo X.K):=by
 intro ae s σ H x vs v us Q I rx rv h;obtain⟨l,b,xs,zs,rfl,rfl,hH,hB,hz,q⟩:=h;cases rx;obtain⟨u,rfl,ru⟩:=rv.one;cases ru;obtain⟨z,aH,n,r,hl,e⟩:=I.gW hH;have go:∀gM,Vals zs gM->(¬(!aH.toArray.isEmpty&&Builtin.List.listTooLong (aH.toArray.size+gM.toArray.size))=true/\aH.toArray.size<=sizeLine/\aH.toArray.size+gM.toArray.size<=sizeLine+1) /\
   EP X ae σ Q Value.none {s with heap:=s.heap.update l (Obj.mapSeq λx=>x++gM.toArray),toks:=s.toks}:=λgM r2=>by
  have WL:=r2.length;have hsz:aH.toArray.size+gM.toArray.size<=sizeLine:=by grind
  refine⟨⟨?_,by grind,(Nat.le_add_right_of_le ‹_›)⟩,.bB,_,I.Ny hH e (by simp) (r.append r2) (by grind),rfl,q⟩
  rw[Jm hsz,Bool.and_false];exact c9
 rcases hB with hB | hB
 ·obtain⟨gM,r2,⟨⟨cls,dd,dat,sl⟩,e2,hc,n2,hd⟩,_⟩:=I.tuple hB;simp only at hc hd;subst hc hd;obtain⟨⟨g1,g2,g3⟩,g4⟩:=go gM r2;exact lD F.slot_list_extend ⟨_,e,rfl⟩ F.entry_list_extend (F.args_list_extend_2 _ _) (xf l aH.toArray n b gM.toArray n2 dd sl g1 g2 g3) ⟨e,e2,g4⟩
 ·obtain⟨gM,n2,r2,e2,_⟩:=I.Es hB;obtain⟨⟨g1,g2,g3⟩,g4⟩:=go gM r2;exact lD F.slot_list_extend ⟨_,e,rfl⟩ F.entry_list_extend (F.args_list_extend_2 _ _) (AutoSeq1.list_extend_list_list_0 l aH.toArray n b gM.toArray n2 g1 g2 g3) ⟨e,e2,g4⟩
def EE(kvs:List (bz×V))(k:bz)(v:V):(putK kvs k v).length<=kvs.length+1:=by
 unfold putK;split
 ·grind
 ·grind
def YH:IP:=λo i v H Q=>∃a kvs k,o=.ref a/\i=kV k/\H a=some (.dK kvs)/\kvs.length<sizeLine/\Q (cg H a (.dK (putK kvs k v)))
def Uq:IQ X YH:=by
 rintro ae s σ H o i v ov iv u Q I ro ri rv ⟨a,kvs,k,ex,ey,e1,e2,q⟩
 subst ex ey;cases ro;obtain⟨z,hd,vs,GJ,dd⟩:=QI I.hok e1;refine wpAny_setItem_pairs (rf ri) dd (λh' TJ YI=>?_) (by rw[<-GJ.length];exact z)
 have N1:=GJ.put k rv;have he:∃q,h'.get? a=some q:=let ⟨q,_,_,hq,_⟩:=TJ;⟨q,hq⟩
 exact⟨_,I.write (o:=.dK (putK kvs k v)) (by rw[e1];exact True.intro) (.inl rfl) (λc q' hc z=>(YI.2 c hc).trans z) he ⟨by have:=EE kvs k v;lia,hd,_,N1,TJ⟩,q⟩
def YJ(K:W.Frag):IP:=λo i v H Q=>∃a b xs k,o=.ref a/\i=.ref b/\H a=some (.dT xs)/\eX K H xs/\gU K H b (k.map kV)/\xs.length<sizeLine/\∀r,RelV v r->Q (cg H a (.dT (storedH xs k b r)))
def Ur(hu:X.A.units+1<cLine):IQ X (YJ X.K):=by
 rintro ae s σ H o i v ov iv u Q I ro ri rv ⟨a,b,xs,k,ex,ey,e1,e2,e3,e4,q⟩
 subst ex ey;cases ro;cases ri;exact TF hu I e1 e2 e3 e4 λs4 I4=>⟨_,I4,q u rv⟩
end
end L2
namespace L2.U
open PySem PySem.Spec PyProof.Rows
abbrev MG:=aq->List PV->Option (aq×PV)
def mB(h:List aq):PV->Option (Nat×aq)
 | .ref n=>(h[n]?).bind λc=>if live c=true then some (n,c)else none
 | _=>none
def gG(e:mB h p=some (n,c)):p=.ref n/\h[n]?=some c/\live c=true:=by
 cases p with
 | ref m =>
  obtain⟨d,e1,e2⟩:=aY e;obtain⟨hl,e3⟩:=aN e2;cases e3;exact⟨rfl,e1,hl⟩
 | _=>cases e
def jA(g:MG)(p:PV)(as:List PV):Gx PV:=λst=>(mB st.h p).bind λc=>(g c.2 as).map λr=>(.ok r.2,⟨st.ρ,st.h.set c.1 r.1⟩)
section
variable {X:Cx} {aa H:Hp} {ab F:Fz} {st:cx} {σ:St}
def zA(K:W.Frag)(r:V->List V->Hp->VK->Prop)(g:MG):Prop:=∀(aa H:Hp) (ab F:Fz) (st:cx) (σ:St) (n:Nat) (c c':aq) (a:Addr) (as:List PV) (ws:List V) (q:PV) (Q:VK),
 Rep K aa ab F st σ H->st.h[n]?=some c->live c=true->F.μ[n]?=some a->g c as=some (c',q)->az K F as ws->(∀v F' H',Rep K aa ab F' ⟨st.ρ,st.h.set n c'⟩ σ H'->Gr F F'->bO K F' q v->Q v H')->r (.ref a) ws H Q
def Rep.put(R:Rep X.K aa ab F st σ H){c d:aq}(hc:st.h[n]?=some c)(hl:live c=true)(ha:F.μ[n]?=some a)(hn:kG X.K F.F (cg H a o) a true d.k vs)(hb:az X.K F d.ps vs) :
  Rep X.K aa ab F ⟨st.ρ,st.h.set n d⟩ σ (cg H a o):=⟨R.c.write hc hl ha hn hb,R.l⟩
noncomputable def gW(f:List PV->List PV->Option (List PV)):MG:=λc as=>match c.k with
 | .lst=>(f c.ps as).map λqs=>(⟨.lst,qs⟩,.bB)
 | _=>none
def xg
  (h:∀(H:Hp) (F:Fz) (ps as qs:List PV) (vs ws:List V) (a:Addr) (Q:VK) (h:List aq),cG F.F H->f ps as=some qs->H a=some (.lst vs)->az X.K F ps vs->az X.K F as ws->(∀wU,az X.K F qs wU->Q .bB (cg H a (.lst wU)))->r (.ref a) ws H Q):zA X.K r (gW f):=by
 intro aa H ab F st σ n c c' a as ws q Q R hc hl ha hg hb k;unfold gW at hg;split at hg
 ·rename_i hk;obtain⟨qs,e1,e2⟩:=bj hg;cases e2;obtain⟨_,vs,h2,h3⟩:=R.c.cell n c a hc ha hl;rw[hk]at h2;exact h H F c.ps as qs vs ws a Q st.h R.sub e1 h2 h3 hb λwU b'=>k _ F _ (R.put hc hl ha aA b') (Gr.refl _) (di.mpr rfl)
 ·cases hg
def xh:List PV->List PV->Option (List PV):=λps as=>match as with | [p]=>if ps.length<fq then some (ps++[p])else none | _=>none
def N3:zA X.K En (gW xh):=xg λH F ps as qs vs ws a Q h hs hf ha bp ba k=>by
 unfold xh at hf;split at hf
 ·obtain⟨hl,rfl⟩:=aN hf;obtain⟨v,rfl,b⟩:=dN ba;exact⟨a,vs,v,rfl,rfl,ha,by rw[<-bp.length];exact bY hl (fy (ay _)),k _ (bp.append ba)⟩
 ·cases hf
def N4:List PV->List PV->Option (List PV):=λps as=>match as with | []=>some ps.reverse | _=>none
def N5:zA X.K zb (gW N4):=xg λH F ps as qs vs ws a Q h hs hf ha bp ba k=>by
 unfold N4 at hf;split at hf
 ·cases hf;exact⟨a,vs,rfl,ba.cO,ha,k _ bp.reverse⟩
 ·cases hf
def JG:List PV->List PV->Option (List PV):=λps as=>match as with
 | [.int i,p]=>if(0<=i/\i<=1000000/\ps.length<fq)then some (ps.take i.toNat++p::ps.drop i.toNat)else none
 | _=>none
def N6:zA X.K ED (gW JG):=xg λH F ps as qs vs ws a Q h hs hf ha bp ba k=>by
 unfold JG at hf;split at hf
 ·obtain⟨⟨h1,h2,h3⟩,rfl⟩:=aN hf;obtain⟨w1,w2,rfl,b1,b2⟩:=mx ba;rw[aG.mp b1];exact⟨a,vs,_,w2,rfl,rfl,ha,bY (by rw[<-bp.length];exact h3) (fy (ay _)),h1,h2,k _ ((bp.take _).append (.cons b2 (bp.drop _)))⟩
 ·cases hf
def zB(p:PV)(as:List PV):Gx PV:=λst=>match as with
 | [q]=>(CL st.h q).bind λrs=>jA (gW λps _=>if ps.length+rs.length<=fq then some (ps++rs)else none) p [] st
 | _=>none
def GO:MG:=λc as=>match c.k,as with
 | .dU false ks,[kp,y]=>(gA false kp).bind λk=>if ks.length<fq then(if j6 k ks=true then(fH k ks c.ps).map λp=>(c,p)else some (⟨.dU false (ks++[k]),c.ps++[y]⟩,y))else none
 | _,_=>none
def N7:zA X.K YF GO:=by
 intro aa H ab F st σ n c c' a as ws q Q R hc hl ha hg hb k;unfold GO at hg;split at hg
 ·rename_i ks kp y hk;obtain⟨kk,e1,e2⟩:=aY hg;obtain⟨hz,e2⟩:=b6 e2;obtain⟨w1,w2,rfl,b1,b2⟩:=mx hb;obtain⟨j,rfl,rfl⟩:=j7 e1 b1;obtain⟨_,vs,h2,h3⟩:=R.c.cell n c a hc ha hl;have hnd:=h2;rw[hk]at h2;obtain⟨kvs,g1,g2,g3⟩:=h2;rw[<-g3]at h3;refine⟨a,kvs,j,w2,rfl,rfl,g1,(by
   have:ks.length=kvs.length:=by grind
   exact bY (by grind) (fy (ay _))),λv hv=>?_,λhv=>?_⟩
  ·rw[if_pos (by rw[<-g2,og,hv];rfl)]at e2
   obtain⟨p,e3,e4⟩:=bj e2;cases e4;rw[<-g2]at e3;obtain⟨v',hv',bv⟩:=xc e3 h3;rw[hv]at hv';cases hv';have e:st.h.set n c=st.h:=by
    apply List.ext_getElem?;intro i;by_cases hi:n=i
    ·grind
    ·grind
   rw[e]at k;exact k v F H R (Gr.refl _) bv
  ·rw[if_neg (by rw[<-g2,og,hv];simp)]at e2
   cases e2;refine k w2 F _ (R.put (vs:=kvs.map (·.2)++[w2]) hc hl ha ⟨kvs++[(j,w2)],aA,by grind⟩ ?_) (Gr.refl _) b2
   exact h3.append (.cons b2 .nil)
 ·cases hg
def Tx.mut(hg:zA X.K r g)(h:Tx X aa ab (bO X.K) F st (jA g p as) σ Q)(R:Rep X.K aa ab F st σ H)(bp:bO X.K F p v)(ba:az X.K F as ws):r v ws H Q:=by
 obtain⟨q,h1,h2⟩:=h;obtain⟨⟨n,c⟩,e1,e2⟩:=aY h1;obtain⟨⟨c',x⟩,e3,e4⟩:=bj e2;subst e4;obtain⟨rfl,hc,hl⟩:=gG e1;obtain⟨a,ha,rfl⟩:=dj.mp bp;exact hg aa H ab F st σ n c c' a as ws x Q R hc hl ha e3 ba λv F' H' R' g' b'=>h2 v H' F' R' g' b'
def Tx.ext{Q:VK}(h:Tx X aa ab (bO X.K) F st (zB p as) σ Q)(R:Rep X.K aa ab F st σ H)(bp:bO X.K F p v)(ba:az X.K F as ws):Uo X.K v ws H Q:=by
 obtain⟨x,h1,h2⟩:=h;unfold zB at h1;split at h1
 ·rename_i q;obtain⟨rs,e0,h1⟩:=aY h1;obtain⟨w,rfl,bw⟩:=dN ba;obtain⟨b,zs,rfl,hs,hb⟩:=R.seq e0 bw;obtain⟨⟨n,c⟩,e1,e2⟩:=aY h1;obtain⟨⟨c',y⟩,e3,e4⟩:=bj e2;subst e4;obtain⟨rfl,hc,hl⟩:=gG e1;obtain⟨a,ha,rfl⟩:=dj.mp bp;unfold gW at e3;split at e3
  ·rename_i hk;obtain⟨qs,e5,e6⟩:=bj e3;cases e6;obtain⟨hz,rfl⟩:=aN e5;obtain⟨_,vs,g2,g3⟩:=R.c.cell n c a hc ha hl;rw[hk]at g2;exact⟨a,b,vs,zs,rfl,rfl,g2,hs,by rw[<-g3.length,<-hb.length];exact fy hz,h2 .bB _ F (R.put hc hl ha aA (g3.append hb)) (Gr.refl _) (di.mpr rfl)⟩
  ·cases e3
 ·cases h1
end
section
variable {prog:Program} {w:World} {A:Around} {R:Result->Shared->Prop} {s:Shared}
abbrev nb(prog:Program)(w:World)(A:Around)(env:Env)(R:Result->Shared->Prop):Value->Shared->Prop:=notedBy (model prog w) A env λe s'=>R (.error e) s'
noncomputable abbrev EF(ifs:List Expr)(env:Env):Sem Bool:=forIn ifs true λc r=>if r=true then do let ok <-isTrue c env (eval c env);pure (ForInStep.yield ok)else pure (ForInStep.yield r)
def GP(I:Nat->Shared->Prop)
  (lG:∀n s,I n s->wpAny (model prog w) A (pyNext it) (λr s1=>match r with
   | none=>R (.ok .next) s1
   | some v=>wpAny (model prog w) A (letOwnedTupleGo tg it v) (λ_ YK=>wpAny (model prog w) A (assign tg env v) (λ_ s2=>wpAny (model prog w) A (EF ifs env) (λok s3 =>
      if ok=true then wpAny (model prog w) A (eval elt env) (λx s4=>wpAny (model prog w) A (call (.builtin "list.append") [acc,x]) (λ_ s5=>∃m,m<n/\I m s5) (nb prog w A env R) s4) (nb prog w A env R) s3
      else ∃m,m<n/\I m s3) (nb prog w A env R) s2) (nb prog w A env R) YK) (nb prog w A env R) s1) (nb prog w A env R) s)
  (n:Nat) (h:I n s):codeAny (model prog w) A (.compLoop (.ListComp elt [⟨tg,iter,ifs,0⟩] scope pos) 0 it acc env) R s:=by
 refine codeAny_loop rfl I (λn s hI=>?_) n h
 refine wpAny_noted ?_;rw[compTurn_list];refine af (wpAny_standAt (af (thn (lG n s hI) λr s1 h1=>?_)))
 cases r with
 | none=>exact aj h1
 | some v =>
  refine af (thn h1 λ_ YK h1'=>af (thn h1' λ_ s2 h2=>af (thn h2 λok s3 h3=>?_)))
  cases ok with
  | false=>exact aj ⟨rfl,h3⟩
  | true=>exact af (af (thn h3 λx s4 h4=>af (thn h4 λ_ s5 h5=>aj (aj ⟨rfl,h5⟩))))
end
noncomputable def j9(env:Env):List (Str×NameKind)->List (Str×Addr)->List (Str×Addr)
 | [],cs=>cs
 | (n,k)::r,cs=>j9 env r (if k==.free then(match env.cells.lookup n with | some c=>(n,c)::cs | none=>cs)else cs)
def rL(h:∀y∈scope.names,y.2=.free->∃c,env.cells.lookup y.1=some c):closureFor scope env=pure (j9 env scope.names []):=by
 have all:∀(l:List (Str×NameKind)) (cs:List (Str×Addr)),(∀y∈l,y.2=.free->∃c,env.cells.lookup y.1=some c) ->
   (forIn l cs λx r=>(match x with | (name,kind)=>if(kind==NameKind.free)=true then do let a <-cellOf env name;pure (ForInStep.yield ((name,a)::r))else pure (ForInStep.yield r):Sem (ForInStep (List (Str×Addr)))))=pure (j9 env l cs):=by
  intro l;induction l with
  | nil=>intro cs _;rfl
  | cons y l ih =>
   intro cs hl;obtain⟨n,k⟩:=y;rw[List.forIn_cons];by_cases hk:k=.free
   ·subst hk;obtain⟨c,hc⟩:=hl (n,.free) aE rfl;have Ee:=hc;have e1:cellOf env n=pure c:=by unfold cellOf;rw[Ee]
    simp only[e1,j9,Ee];exact ih _ λy hy=>hl y (aF _ hy)
   ·have hb:(k==NameKind.free)=false:=by simpa using hk
    simp only[hb,j9];exact ih _ λy hy=>hl y (aF _ hy)
 unfold closureFor;have:=all scope.names [] h;simp only[bind_pure]at this ⊢;exact this
theorem zC:∀(l:List (Str×NameKind)) (cs:List (Str×Addr)) (p:Str×Addr),p∈j9 env l cs->p∈cs\/env.cells.lookup p.1=some p.2
 | [],_,_,h=>.inl h
 | (n,k)::r,cs,p,h=>by
  unfold j9 at h;rcases zC r _ p h with q | q
  ·grind
  ·grind
def b7(h:(j9 env l []).lookup x=some c):env.cells.lookup x=some c:=by
 rcases zC l [] (x,c) (ej h)with q | q
 ·cases q
 ·exact q
theorem u9:∀(l:List (Str×NameKind)) (cs:List (Str×Addr)),(∃c,(x,c)∈cs)->∃c,(x,c)∈j9 env l cs
 | [],_,h=>h
 | (n,k)::r,cs,⟨c,h⟩=>by
  unfold j9;refine u9 r _ ⟨c,?_⟩;split
  ·grind
  ·exact h
theorem ka:∀(l:List (Str×NameKind)) (cs:List (Str×Addr)),(x,NameKind.free)∈l->(∃c,env.cells.lookup x=some c)->∃c,(x,c)∈j9 env l cs
 | [],_,h,_=>by cases h
 | (n,k)::r,cs,h,hc=>by
  unfold j9;rcases aD.mp h with z | z
  ·cases z;obtain⟨c,e⟩:=hc;refine u9 r _ ⟨c,?_⟩;simp[e]
  ·exact ka r _ z hc
theorem ip:∀{l:List (Str×Addr)},(x,c)∈l->∃c',l.lookup x=some c'
 | [],h=>by cases h
 | (n,d)::r,h=>by
  rw[jT];cases hx:x==n with
  | true=>exact⟨d,rfl⟩
  | false =>
   rcases aD.mp h with z | z
   ·grind
   ·exact ip z
def cH(X:Cx)(N:List Str)(scope:Scope)(C:Addr)(s:Shared)(H:Hp)(fp:List Addr):Cx where
 prog:=X.prog
 w:=X.w
 K:=X.K
 mg:=X.mg
 base:=X.base
 A:=X.A
 N:=N
 s₀:=s
 aa:=H
 env:=compEnvC scope (j9 X.env scope.names []) C X.env
 ax:=X.stack
 stack:=X.stack
 ex:=fp
 fn:=λ_=>false
 calm:=X.calm
 pn:=[]
 xe:=λ_ _=>False
theorem gQ{env:Env}:∀(names:List (Str×NameKind)) (x:Str),(names.map fun(n,k)=>if(k==NameKind.free&&env.scope.kind==.function&&env.kindOf n==some .cell)then(n,NameKind.cell)else(n,k)).lookup x =
  (names.lookup x).map λk=>if(k==NameKind.free&&env.scope.kind==.function&&env.kindOf x==some .cell)then NameKind.cell else k
 | [],_=>rfl
 | (n,j)::r,x=>by
  have e:(if(j==NameKind.free&&env.scope.kind==.function&&env.kindOf n==some .cell)=true then(n,NameKind.cell)else(n,j))=(n,if(j==NameKind.free&&env.scope.kind==.function&&env.kindOf n==some .cell)=true then NameKind.cell else j):=by split<;>rfl
  show List.lookup x ((if(j==NameKind.free&&env.scope.kind==.function&&env.kindOf n==some .cell)=true then(n,NameKind.cell)else(n,j))::_)=_
  rw[e,jT,jT];cases hx:x==n with
  | true =>
   have CK:=bf hx;subst CK;rfl
  | false=>exact gQ r x
def mD{env:Env}{names:List (Str×NameKind)}(h:(names.map fun(n,k)=>if(k==NameKind.free&&env.scope.kind==.function&&env.kindOf n==some .cell)then(n,NameKind.cell)else(n,k)).lookup x=some k) :
  names.lookup x=some k\/(k=.cell/\names.lookup x=some .free):=by
 rw[gQ]at h;cases z:names.lookup x with
 | none=>rw[z]at h;cases h
 | some j =>
  rw[z]at h;have h:(if(j==NameKind.free&&env.scope.kind==.function&&env.kindOf x==some .cell)=true then NameKind.cell else j)=k:=by grind
  split at h
  ·grind
  ·grind
def xi{env:Env}{names:List (Str×NameKind)}(h:names.lookup x=some .free) :
  (names.map fun(n,k)=>if(k==NameKind.free&&env.scope.kind==.function&&env.kindOf n==some .cell)then(n,NameKind.cell)else(n,k)).lookup x=some .cell \/
  (names.map fun(n,k)=>if(k==NameKind.free&&env.scope.kind==.function&&env.kindOf n==some .cell)then(n,NameKind.cell)else(n,k)).lookup x=some .free:=by
 rw[gQ,h];show some (if _ then _ else _)=_\/some (if _ then _ else _)=_
 split
 ·grind
 ·grind
structure iJ (X:Cx) (N:List Str) (link:List (Option Nat)) (scope:Scope):Prop where
 kind:scope.kind=.function
 cell:∀y∈scope.names,y.2≠.cell
 names:∀y∈scope.names,y.2=.local->scope.names.lookup y.1=some .local
 free:∀y∈scope.names,y.2=.free->(X.env.kindOf y.1=some .cell\/X.env.kindOf y.1=some .free)
 len:link.length=N.length
 link:∀(i j:Nat) (x:Str),link[i]?=some (some j)->N[i]?=some x->X.N[j]?=some x/\scope.names.lookup x=some .free
noncomputable def gB(link:List (Option Nat))(σ:St):St:=link.map λo=>o.bind λj=>(σ[j]?).join
section
variable {X:Cx} {ae:List (Addr×Obj)} {σ:St} {H:Hp} {s:Shared}
def Inv.adopt(I:Inv X ae σ H s)(hn:H D=none)(h1:X.s₀.heap.objs.size<=D)(h2:D≠X.env.locals)(h3:∀x c,X.env.cells.lookup x=some c->c≠D)(h4:∀p∈X.pn++ae,p.1≠D)
  (ho:fG X.prog X.w (cg H D o) s.heap D o):Inv X ae σ (cg H D o) s:=by
 have ne:∀b u,H b=some u->b≠D:=λb u e z=>by rw[z,hn]at e;cases e
 refine I.step (ch:=[D]) (λb hb=>?_) (λb u _ _ _ e _=>e) (λb u _ _ _ e _=>⟨u.slots,e⟩) (λb u hc _ n=>?_) (λb u _ e=>⟨u,e⟩)
  (λb xs e=>by rw[aJ (ne b _ e)];exact e) (λb u xs e=>by rw[aJ (ne b _ e)];exact e) (λb ps e=>by rw[aJ (ne b _ e)];exact e) (λm hm=>hm) (λb u e=>?_) I.bare
 ·have e:b=D:=by simpa using hb
  subst e;exact⟨.inr h1,h2,h3,h4⟩
 ·rw[aJ (λz=>hc (by simp[z]))];exact n
 ·by_cases hb:b=D
  ·subst hb;rw[aA]at e;cases e;exact ho
  ·rw[aJ hb]at e;exact(I.hok b u e).wG (λ_ _ _ q=>q) (λc q=>by rw[aJ (ne c _ q)];exact q) (λc xs q=>by rw[aJ (ne c _ q)];exact q) λc ob v q=>by rw[aJ (ne c _ q)];exact q
def CU{N:List Str}{link:List (Option Nat)}(S:iJ X N link scope)(I:Inv X ae σ H s)(hfp:∀b∈fp,wJ X ae H b)
  (hC:s.heap.objs.size<=C) (ns:h.Ns C λ_=>none) (hk:∀b o,s.heap.get? b=some o->h.get? b=some o) (hex:∀b∈fp,∃o,s.heap.get? b=some o) :
  Inv (cH X N scope C s H fp) [] (gB link σ) H {s with heap:=h,toks:=tk}:=by
 have yU:∀y∈scope.names,y.2=.free->∃c,X.env.cells.lookup y.1=some c:=λy hy hf=>I.ok.has y.1 (S.free y hy hf)
 have acT:∀x c,X.env.cells.lookup x=some c->c<s.heap.objs.size:=λx c e=>let ⟨v,o,ho,_⟩:=I.cell x c e;aW ho
 refine⟨⟨I.ok.mod,S.kind,I.ok.glob,I.ok.blt,hC,λx y c h1 h2=>I.ok.inj x y c (b7 h1) (b7 h2),λx hx=>?_,λx c hx=>(by cases hx),I.ok.hd,I.ok.frames,.inl rfl,λb hb=>⟨?_,λx c e=>(hfp b hb).2.2.2.2.1 x c (b7 e)⟩,I.bs,bA I.ok.bsz I.sz,
  λb o e hb=>?_,λb hb z=>?_,I.stack,I.wI,I.tabs⟩,rfl,I.bare,Un.kept hk,⟨_,ns,λi x v e1 e2 e3=>?_⟩,λx c e=>?_,I.hok.fresh hC,λx c e=>I.freeC x c (b7 e),λp hp=>(by cases hp),I.hok.kept hk,by unfold gB;rw[ak];exact S.len⟩
 ·-- PY cells are there
  have CK:=hx;have hf:scope.names.lookup x=some .free:=by
   rcases CK with h1 | h1
   ·rcases mD h1 with q | ⟨_,q⟩
    ·exact absurd rfl (S.cell _ (ej q))
    ·exact q
   ·rcases mD h1 with q | ⟨z,_⟩
    ·exact q
    ·cases z
  have hm:=ej hf;obtain⟨c,hc⟩:=ka scope.names [] hm (yU _ hm rfl);exact ip hc
 ·intro z;obtain⟨o,ho⟩:=hex b hb;exact absurd (bY (aW ho) (bA hC (ja z.symm))) (gK _)
 ·rcases(hfp b hb).2.2.2.1 with z | z
  ·exact I.ok.noex b o e z
  ·exact absurd (bY (aW e) (bA I.ok.bsz z)) (gK _)
 ·rcases aD.mp (I.wH b z)with q | q
  ·exact(hfp b hb).2.1 q
  ·exact(hfp b hb).2.2.1 q
 ·-- a slot: aeD over from PY acU
  have hi:i<link.length:=by
   have:=(bM.mp e2).1;unfold gB at this
   rwa [ak]at this
  unfold gB at e2;rw[bH,bW hi]at e2;have e2:=cz e2;cases z:link[i]with
  | none=>rw[z]at e2;cases e2
  | some j =>
   rw[z]at e2;have e2:(σ[j]?).join=some v:=e2;obtain⟨hX,hf⟩:=S.link i j x (by rw[bW hi,z]) e1
   have hm:=ej hf;have hk2:=S.free _ hm rfl;obtain⟨m,hn,hl⟩:=I.loc;obtain⟨u,r,l⟩:=hl j x v hX (by
    cases q:σ[j]? with
    | none=>rw[q]at e2;cases e2
    | some q'=>rw[q]at e2;cases q' with
     | none=>cases e2
     | some v'=>cases e2;rfl) (by rcases hk2 with q | q;exact .inr (.inl q);exact .inr (.inr q))
   refine⟨u,r,.inr ⟨xi hf,?_⟩⟩;obtain⟨c,hc⟩:=ka scope.names [] hm (yU _ hm rfl);obtain⟨c',Ee⟩:=ip hc;refine⟨c',Ee,?_⟩;rcases l with⟨lk,_⟩ | ⟨_,d,hd,jZ⟩
   ·rcases hk2 with q | q<;>(rw[show X.env.kindOf x=some .local from lk]at q;cases q)
   ·have:=b7 Ee;rw[hd]at this;cases this;exact jZ.keeps hk
 ·obtain⟨v,o,ho,hd⟩:=I.cell x c (b7 e);exact⟨v,o,hk _ _ ho,hd⟩
end
abbrev TB:=V->St->Hp->(Option V->St->Hp->Prop)->Prop
def PB(X:Cx)(tg:Expr)(ifs:List Expr)(elt:Expr)(tb:TB):Prop :=
 ∀(ae:List (Addr×Obj)) (s:Shared) (σ:St) (H:Hp) (v:V) (u:Value) (Q:Option V->St->Hp->Prop),Inv X ae σ H s->RelV v u->tb v σ H Q ->
  wpAny (model X.prog X.w) X.A (assign tg X.env u) (λ_ s2=>wpAny (model X.prog X.w) X.A (EF ifs X.env) (λok s3 =>
   if ok=true then wpAny (model X.prog X.w) X.A (eval elt X.env) (λy s4=>∃v' bG H',Inv X ae bG H' s4/\RelV v' y/\Q (some v') bG H') X.xe s3
   else ∃bG H',Inv X ae bG H' s3/\Q none bG H') X.xe s2) X.xe s
def JH(hg:PG X tg g)(he:PE X elt te):PB X tg [] elt (λv σ H Q=>g v σ H λje H1=>te je H1 λy H2=>Q (some y) je H2):=by
 intro ae s σ H v u Q I r h;refine thn (hg ae s σ H v u _ I r h) λ_ s2 ⟨je,H1,I1,q1⟩=>aj ?_
 rw[if_pos rfl];exact thn (he ae s2 je H1 _ I1 q1) (by rintro y s4 ⟨v',H2,I2,r2,q2⟩;exact⟨v',je,H2,I2,r2,q2⟩)
def N8(hg:PG X tg g)(hc:PT X c tc)(he:PE X elt te) :
  PB X tg [c] elt (λv σ H Q=>g v σ H λje H1=>tc je H1 λb H2=>if b=true then te je H2 λy H3=>Q (some y) je H3 else Q none je H2):=by
 intro ae s σ H v u Q I r h;refine thn (hg ae s σ H v u _ I r h) λ_ s2 ⟨je,H1,I1,q1⟩=>?_
 refine wpAny_tests_one (thn (hc ae s2 je H1 _ I1 q1) λb s3 ⟨H2,I2,q2⟩=>?_)
 cases b with
 | true =>
  rw[if_pos rfl]at q2 ⊢;exact thn (he ae s3 je H2 _ I2 q2) (by rintro y s4 ⟨v',H3,I3,r3,q3⟩;exact⟨v',je,H3,I3,r3,q3⟩)
 | false =>
  rw[if_neg c9]at q2 ⊢;exact⟨je,H2,I2,q2⟩
def vb(link:List (Option Nat))(wi:TI)(tb:TB):TE:=λσ H Q=>wi σ H λJ H1=>∃W:Nat->Nat->List V->St->Hp->Prop,(∃m,W 0 m [] (gB link σ) H1)/\∀i m acc bG H',W i m acc bG H' ->
 (J.stop i H'/\acc.length<=sizeLine/\∀D,H' D=none->Q (.ref D) (cg H' D (.lst acc))) \/
 (J.go i H'/\acc.length<sizeLine/\∀x H2,J.yld i H' x H2->tb x bG H2 λo oS H3=>∃m',m'<m/\W (i+1) m' (acc++o.toList) oS H3)
structure acV (X:Cx) (ae:List (Addr×Obj)) (H:Hp) (C:Addr):Prop where
 free:H C=none
 above:X.s₀.heap.objs.size<=C
 loc:C≠X.env.locals
 cell:∀x c,X.env.cells.lookup x=some c->c≠C
 pin:∀p∈X.pn++ae,p.1≠C
def vc(hc:X.calm=true)(S:iJ X N link scope)(hi:PI X tg iter wi)
  (hb:∀(C:Addr) (s:Shared) (H:Hp) (fp:List Addr),PB (cH X N scope C s H fp) tg ifs elt tb) (hs:∀x,foldedSetIterable iter X.env x=pure x) (I:Inv X ae σ H s) (h:vb link wi tb σ H Q)
  (acW:∀(s5:Shared) (D C:Addr) (H5:Hp) (m:Str->Option Value),Inv X ae σ H5 s5->Q (.ref D) H5->s5.heap.Ns C m->acV X ae H5 C->compPost (model X.prog X.w) X.A X.xe use Q' (.ref D) C (.ok .next) s5) :
  wpAny (model X.prog X.w) X.A (comprehension (.ListComp elt [⟨tg,iter,ifs,0⟩] scope pos) scope X.env ue (newList []) false (eval iter X.env) use) Q' X.xe s:=by
 have yU:∀y∈scope.names,y.2=.free->∃c,X.env.cells.lookup y.1=some c:=λy hy hf=>I.ok.has y.1 (S.free y hy hf)
 refine wpAny_comprehension_free rfl hs (rL yU) S.kind S.names (thn (hi ae s σ H _ I h) λv s1 h1=>thn h1 λitv s2 h2=>?_)
 obtain⟨it,fp,tn,J,H2,rfl,I2,T,d0,f2,W,⟨m0,w0⟩,lG⟩:=h2;refine fM (wpAny_newFunctionEnv S.cell (by grind) (λGw ns sb=>?_) S.kind)
 dsimp only at ns sb ⊢
 generalize hD:s2.heap.push {cls:=.type "list",dict:=none,data:=.seq [].toArray}=HD at ns sb ⊢
 have hC:HD.objs.size=s2.heap.objs.size+1:=by rw[<-hD,nJ]
 have hDC:s2.heap.objs.size≠HD.objs.size:=by grind
 have JI:s2.heap.objs.size<=HD.objs.size:=by grind
 have old:∀b o,s2.heap.get? b=some o->Gw.get? b=some o:=λb o e=>by
  have fx:=aW e;exact sb.extBut b o (bI (bY fx JI)) (aZ _ (by rw[<-hD];exact aZ _ e))
 have acX:Gw.get? s2.heap.objs.size=some {cls:=.type "list",data:=.seq [].toArray} :=
  sb.extBut _ _ hDC (aZ _ (by rw[<-hD];exact bX _ rfl))
 generalize eD:s2.heap.objs.size=D at *
 generalize eC:HD.objs.size=C at *
 have exO:∀b∈fp,∃o,s2.heap.get? b=some o:=λb jt=>let ⟨o,e,_⟩:=T.obj _ _ d0 b jt;⟨o,e⟩
 have I3:∀tk,Inv (cH X N scope C s2 H2 fp) [] (gB link σ) H2 {s2 with heap:=Gw,toks:=tk}:=λtk =>
  CU S I2 f2 (by rw[eD];exact JI) ns old exO
 have fpD:∀b∈fp,b≠D:=λb jt z=>by
  obtain⟨o,e⟩:=exO b jt;have:=aW e;rw[z,<-eD]at this;exact gK _ this
 have Cp:∀{H':Hp} {pl:List (Addr×Obj)},(∀b∈fp,H' b=none)->(∀p∈pl,p.1=D)->∀b∈fp,wJ (cH X N scope C s2 H2 fp) pl H' b:=λ{H' pl} hn hp b jt=>by
  have K0:=(I3 0).ok.exf b jt;exact⟨hn b jt,K0.1,(I3 0).ok.exfs b jt,.inl jt,K0.2,λp JJ z=>fpD b jt (z▸hp p (by simpa[cH]using JJ))⟩
 have YL:∀x c,(cH X N scope C s2 H2 fp).env.cells.lookup x=some c->c≠D:=λx c e z=>by
  obtain⟨v,o,ho,_⟩:=I2.cell x c (b7 e);have:=aW ho;rw[z,<-eD]at this;exact gK _ this
 have fsD:D∉(cH X N scope C s2 H2 fp).fs:=λz=>by
  obtain⟨_,o,ho,_⟩:=I2.stack.mem z;have:=aW ho;rw[<-eD]at this;exact gK _ this
 have loop:∀s3:Shared,s3={s2 with heap:=Gw,toks:=s2.toks+([]:List (Str×Value)).length} ->
   codeAny (model X.prog X.w) X.A (.compLoop (.ListComp elt [⟨tg,iter,ifs,0⟩] scope pos) 0 (.ref it) (.ref D) (cH X N scope C s2 H2 fp).env) (compPost (model X.prog X.w) X.A X.xe use Q' (.ref D) C) s3:=by
  rintro s3 rfl
  refine GP (λn s'=>∃i acc bG H' aH nn,Inv (cH X N scope C s2 H2 fp) [] bG H' s'/\tn i s'.heap/\(∀b∈fp,H' b=none)/\H' D=none/\s'.heap.get? D=some {cls:=.type "list",data:=.seq aH.toArray nn}/\Vals acc aH/\W i n acc bG H') ?_ m0
   ⟨0,[],_,H2,[],0,I3 _,T.keep _ _ _ d0 λb jt o e=>old b o e,λb jt=>(f2 b jt).1,I2.hok.fresh (ja eD),acX,.nil,w0⟩
  rintro n s4 ⟨i,acc,NQ,H4,aH,nn,I4,HV,fr4,hD4,Jn,hv,w4⟩
  have YM:Inv (cH X N scope C s2 H2 fp) [(D,{cls:=.type "list",data:=.seq aH.toArray nn})] NQ H4 s4:=I4.lZ λp hp=>by
   have e:p=(D,{cls:=.type "list",data:=.seq aH.toArray nn}):=by simpa using hp
   subst e;exact⟨Jn,hD4,hDC,fsD,λv=>by simp⟩
  have JK:∀p∈[(D,({cls:=.type "list",data:=.seq aH.toArray nn}:Obj))],p.1=D:=λp hp=>by
   have e:p=(D,{cls:=.type "list",data:=.seq aH.toArray nn}):=by simpa using hp
   rw[e]
  rcases lG i n acc NQ H4 w4 with⟨stop,hz,q⟩ | ⟨go,hz,step⟩
  ·refine thn (T.done (cH X N scope C s2 H2 fp) rfl rfl rfl hc i _ s4 NQ H4 _ YM (Cp fr4 JK) HV stop) λr s5 ⟨hr,I5⟩=>?_
   subst hr;obtain⟨m,hn,_⟩:=I5.loc;have pD:=I5.pin (D,{cls:=.type "list",data:=.seq aH.toArray nn}) (cV _ (aB.mpr rfl))
   have lt2:∀b o,s2.heap.get? b=some o->b≠D/\b≠C:=λb o e=>by
    have:=aW e;rw[eD]at this;exact⟨bI this,bI (bY this JI)⟩
   have QQ:X.env.locals≠D/\X.env.locals≠C:=by
    have:=I2.lt;rw[eD]at this;exact⟨bI this,bI (bY this JI)⟩
   have I6:=I2.P7 I5.os I5.base I5.hok I5.bare λb jt=>⟨(f2 b jt).2.2.2.1,(f2 b jt).2.1,(f2 b jt).2.2.2.2.1,(f2 b jt).2.2.2.2.2⟩
   have I7:=Inv.adopt (o:=.lst acc) I6 pD.2.1 (bA I2.sz (ja eD)) (dt QQ.1) (λx c e=>let ⟨v,o,ho,_⟩:=I2.cell x c e;(lt2 c o ho).1)
    (λp hp=>(lt2 p.1 p.2 (I2.pin p hp).1).1) ⟨hz,aH,nn,hv,pD.1⟩
   exact acW s5 D C _ m I7 (q D pD.2.1) hn ⟨by rw[aJ (dt hDC)];exact I5.free,bA (bA I2.sz (ja eD)) JI,dt QQ.2,λx c e=>let ⟨v,o,ho,_⟩:=I2.cell x c e;(lt2 c o ho).2,λp hp=>(lt2 p.1 p.2 (I2.pin p hp).1).2⟩
  ·refine thn (T.item (cH X N scope C s2 H2 fp) rfl rfl rfl hc i _ s4 NQ H4 _ YM (Cp fr4 JK) HV go) λr s5 ⟨u,hr,h5⟩=>?_
   subst hr;refine thn h5 λ_ s5' z9=>?_
   obtain⟨x,H5,I5,r5,y5,S7,fr5⟩:=z9;have I5':=I5.pinned (Cp fr5 JK) (T.obj _ _ S7);have jI:∀{o:Option V} {σ6:St} {H6:Hp} {s6:Shared},Inv (cH X N scope C s2 H2 fp) ([(D,{cls:=.type "list",data:=.seq aH.toArray nn})]++qV fp s5'.heap) σ6 H6 s6 ->
     tn (i+1) s6.heap/\(∀b∈fp,H6 b=none)/\H6 D=none/\s6.heap.get? D=some {cls:=.type "list",data:=.seq aH.toArray nn}:=λ{o σ6 H6 s6} I6=>by
    have pD:=I6.pin (D,_) (cV _ (dR _ (aB.mpr rfl)));refine⟨T.keep _ _ _ S7 λb jt o e=>(I6.pin (b,o) (cV _ (cV _ (jf jt e)))).1,λb jt=>?_,pD.2.1,pD.1⟩
    obtain⟨o,e,d⟩:=T.obj _ _ S7 b jt;exact(I6.pin (b,o) (cV _ (cV _ (jf jt e)))).2.1
   refine jX (hb C s2 H2 fp _ s5' NQ H5 x u _ I5' r5 (step x H5 y5)) (λ_ s6 h6=>jX h6 (λok s7 h7=>?_) λ_ _ z=>False.elim z) λ_ _ z=>False.elim z
   cases ok with
   | false =>
    rw[if_neg c9]at h7 ⊢;obtain⟨σ8,H8,I8,m',hm',w8⟩:=h7;obtain⟨a1,a2,a3,a4⟩:=jI (o:=none) I8;exact⟨m',hm',i+1,_,σ8,H8,aH,nn,I8.lZ (λp hp=>by cases hp),a1,a2,a3,a4,by simpa using hv,w8⟩
   | true =>
    rw[if_pos rfl]at h7 ⊢;refine jX h7 (λy s8 z9=>?_) λ_ _ z=>False.elim z
    obtain⟨v8,σ8,H8,I8,r8,m',hm',w8⟩:=z9;obtain⟨a1,a2,a3,a4⟩:=jI (o:=some v8) I8;have hl:=hv.length;refine lD F.slot_list_append ⟨_,a4,rfl⟩ F.entry_list_append (F.args_list_append_2 _ _) (PySem.list_append D aH.toArray nn y (by rw[eS];lia)) ⟨a4,?_⟩
    have I9:Inv (cH X N scope C s2 H2 fp) [] σ8 H8 s8:=I8.lZ (λp hp=>by cases hp)
    have qq:=PySem.IsL.update a4 λz=>z.push y
    have hp:aH.toArray.push y=(aH++[y]).toArray:=by simp
    rw[hp]at qq;refine⟨m',hm',i+1,_,σ8,H8,aH++[y],_,I9.turned (λb o hne e=>(vW _ _ (dt hne)).trans e) a3 hDC (.inr (ja eD)) YL (λp hp=>by simp[cH]at hp),T.keep _ _ _ a1 λb jt o e=>(vW _ _ (dt (fpD b jt))).trans e,a2,a3,qq,hv.append (.cons r8 .nil),w8⟩
 exact codeAny_compStart_list (loop _ rfl) (T.self _ 0 _ _ _ (T.keep _ _ _ d0 λb jt o e=>old b o e) (loop _ rfl))
def EG(hc:X.calm=true)(S:iJ X N link scope)(hi:PI X tg iter wi)
  (hb:∀(C:Addr) (s:Shared) (H:Hp) (fp:List Addr),PB (cH X N scope C s H fp) tg ifs elt tb) (hs:∀x,foldedSetIterable iter X.env x=pure x:=by intro _;rfl) :
  PE X (.ListComp elt [⟨tg,iter,ifs,0⟩] scope pos) (vb link wi tb):=by
 intro ae s σ H Q I h;rw[eval_ListComp];refine vc hc S hi hb hs I h λs5 D C H5 m I5 q hn L=>⟨m,hn,λh' sb=>?_⟩
 exact⟨.ref D,H5,I5.turned (λb o hne e=>(sb.2 b hne).trans e) L.free L.loc (.inr L.above) L.cell L.pin,rfl,q⟩
def EH(hc:X.calm=true)(hN:X.N.Nodup)(hx:X.N[i]?=some x)(hl:X.env.scope.names.lookup x=some .local)(S:iJ X N link scope)(hi:PI X tg iter wi)
  (hb:∀(C:Addr) (s:Shared) (H:Hp) (fp:List Addr),PB (cH X N scope C s H fp) tg ifs elt tb) (hw:swapsWith (.ListComp elt [⟨tg,iter,ifs,0⟩] scope pos) (some (.Name x ue)) GQ.line X.env=pure true) (hs:∀x,foldedSetIterable iter X.env x=pure x:=by intro _;rfl) :
  PS X (.Assign [.Name x ue] (.ListComp elt [⟨tg,iter,ifs,0⟩] scope pos) GQ) (MZ (vb link wi tb) (gName i)):=by
 intro ae s σ H D I h;rw[exec_Assign_Name_used _ _ _ _ hw];refine af (wpAny_standAt (af ?_));refine af (thn (vc hc S hi hb hs I h λs5 a C H5 m I5 q hn L=>?_) λ_ s' q=>aj (aj q))
 refine wpAny_assign_Name (store_ok2 (v:=.ref a) I5 hN hx (.inl hl) rfl (λs6 I6 k=>?_) (.inr hl))
 refine⟨m,?_,λh' sb=>?_⟩
 ·obtain⟨o,es,ep,ho,r⟩:=hn;obtain⟨b,sb1,hor⟩:=k;have ne:C≠b:=λz=>by
   rcases hor with w | w
   ·exact L.loc (z.trans w)
   ·exact L.cell x b w z.symm
  exact⟨o,es,ep,(sb1.2 C ne).trans ho,r⟩
 ·exact⟨_,H5,I6.turned (λb o hne e=>(sb.2 b hne).trans e) L.free L.loc (.inr L.above) L.cell L.pin,q⟩
noncomputable def bK(link:List (Option Nat))(ρ:List (Option PV)):List (Option PV):=link.map λo=>o.bind λj=>(ρ[j]?).join
def KG(L:List Nat)(g:Tg):Prop:=∀p st bc,g p st=some bc->bc.ρ.length=st.ρ.length/\∀j:Nat,j∉L->bc.ρ[j]?=st.ρ[j]?
def YN(L:List Nat)(g:WK):Prop:=∀p st bc,g p st=some bc->bc.ρ.length=st.ρ.length/\∀j:Nat,j∉L->bc.ρ[j]?=st.ρ[j]?
def N9(i:Nat):KG [i] (aU i):=λp st bc h=>by
 obtain⟨_,rfl⟩:=aN h;exact⟨ly,λj hj=>iW (λz=>hj (by simp[z]))⟩
def Oa:YN [] mn:=λp st bc h=>by
 cases p with
 | nil=>cases h;exact⟨rfl,λ_ _=>rfl⟩
 | cons _ _=>cases h
def JL(h1:KG L g)(h2:YN M r):YN (L++M) (c6 g r):=λp st bc h=>by
 cases p with
 | nil=>cases h
 | cons p ps =>
  obtain⟨d0,e1,e2⟩:=aY h;obtain⟨l1,k1⟩:=h1 p st d0 e1;obtain⟨l2,k2⟩:=h2 ps d0 bc e2;exact⟨l2.trans l1,λj hj=>(k2 j λz=>hj (cV _ z)).trans (k1 j λz=>hj (dR _ z))⟩
def Us(h:YN L r):KG L (gC n r):=λp st bc e=>by
 unfold gC at e;split at e
 ·obtain⟨_,e⟩:=b6 e;exact h _ st bc e
 ·cases e
section
variable {K:W.Frag} {F:Fz} {ρ:List (Option PV)} {σ:St}
def Lc.gB(L:Lc K F ρ σ)(link:List (Option Nat)):Lc K F (bK link ρ) (gB link σ) where
 av:=λi p e=>by
  unfold bK at e;rw[bH]at e;cases z:link[i]? with
  | none=>rw[z]at e;cases e
  | some o =>
   rw[z]at e;cases o with
   | none=>cases e
   | some j =>
    have e:(ρ[j]?).join=some p:=cz e;cases w:ρ[j]? with
    | none=>rw[w]at e;cases e
    | some q =>
     rw[w]at e;cases e;obtain⟨v,h1,h2⟩:=L.av j p w;refine⟨v,?_,h2⟩;unfold L2.U.gB;rw[bH,z];show some ((σ[j]?).join)=_;rw[h1];rfl
 len:=by unfold bK L2.U.gB;rw[ak,ak]
def Lc.back{L:List Nat}(R:Lc K F rM σ)(hl:ρ0.length=σ.length)(h0:ρ0=bK link ρ)(hk:∀j:Nat,j∉L->rM[j]?=ρ0[j]?)(hL:∀i∈L,link[i]?=some none):Lc K F ρ0 σ where
 av:=λi p e=>by
  refine R.av i p ?_;rw[hk i λhi=>?_]
  ·exact e
  ·rw[h0]at e;unfold bK at e;rw[bH,hL i hi]at e;cases e
 len:=hl
end
noncomputable def okR{α:Type}:Rs α×cx->Option (α×List aq)
 | (.ok a,st)=>some (a,st.h)
 | _=>none
abbrev Bd:=List (Option PV)->PV->List aq->Option (Option PV×List aq)
def lM(g:Tg)(fe:Gx PV):Bd:=λρ p h=>(g p ⟨ρ,h⟩).bind λbc=>(fe bc).bind λr=>(okR r).map λx=>(some x.1,x.2)
def jB(g:Tg)(ft:Gx Bool)(fe:Gx PV):Bd:=λρ p h=>(g p ⟨ρ,h⟩).bind λbc=>(ft bc).bind λr=>match r with
 | (.ok b,d0)=>if b=true then(fe d0).bind λr=>(okR r).map λx=>(some x.1,x.2)else some (none,d0.h)
 | _=>none
noncomputable def dO(bd:PV->List aq->Option (Option PV×List aq)):List PV->List aq->Option (List PV×List aq)
 | [],h=>some ([],h)
 | p::ps,h=>(bd p h).bind λr=>(dO bd ps r.2).map λs=>(r.1.toList++s.1,s.2)
section
variable {X:Cx} {aa:Hp} {ab:Fz} {N:List Str} {link:List (Option Nat)} {scope:Scope} {tg iter elt c:Expr} {pos:Pos} {fi:Gx (List PV)} {g:Tg} {fe:Gx PV} {ft:Gx Bool} {L:List Nat} {cl:Bool}
def zD(e:okR r=some (a,h)):∃st,r=(.ok a,st)/\st.h=h:=by
 obtain⟨r,st⟩:=r;cases r with
 | ok x=>cases e;exact⟨st,rfl,rfl⟩
 | ex m C=>cases e
def _root_.L2.U.PB.imp(h:PB Y tg ifs elt tb)(i:∀v σ H Q,tb' v σ H Q->tb v σ H Q):PB Y tg ifs elt tb':=λae s σ H v u Q I r w=>h ae s σ H v u Q I r (i _ _ _ _ w)
def tb1(X:Cx)(aa:Hp)(ab:Fz)(g:Tg)(fe:Gx PV):TB:=λv σ H Q=>tG X.K aa ab g v σ H λje H1=>∀Y:Cx,Y.K=X.K->tE Y aa ab fe je H1 λy H2=>Q (some y) je H2
def tb2(X:Cx)(aa:Hp)(ab:Fz)(g:Tg)(ft:Gx Bool)(fe:Gx PV):TB:=λv σ H Q=>tG X.K aa ab g v σ H λje H1=>∀Y:Cx,Y.K=X.K->tT Y aa ab ft je H1 λt H2=>if t=true then tE Y aa ab fe je H2 λy H3=>Q (some y) je H3 else Q none je H2
section
variable (ht:∀(C:Addr) (s:Shared) (H:Hp) (fp:List Addr),PG (cH X N scope C s H fp) tg (tG X.K aa ab g)) (he:∀(C:Addr) (s:Shared) (H:Hp) (fp:List Addr),PE (cH X N scope C s H fp) elt (tE (cH X N scope C s H fp) aa ab fe))
include ht he
def pb1(C:Addr)(s:Shared)(H:Hp)(fp:List Addr):PB (cH X N scope C s H fp) tg [] elt (tb1 X aa ab g fe) :=
 (JH (ht C s H fp) (he C s H fp)).imp (by rintro v σ H Q ⟨F,st,p,cC,R,b,e,q⟩;exact⟨F,st,p,cC,R,b,e,λbG H' F' R' g'=>q bG H' F' R' g' _ rfl⟩)
def pb2(hw:∀(C:Addr) (s:Shared) (H:Hp) (fp:List Addr),PT (cH X N scope C s H fp) c (tT (cH X N scope C s H fp) aa ab ft))(C:Addr)(s:Shared)(H:Hp)(fp:List Addr):PB (cH X N scope C s H fp) tg [c] elt (tb2 X aa ab g ft fe) :=
 (N8 (ht C s H fp) (hw C s H fp) (he C s H fp)).imp (by rintro v σ H Q ⟨F,st,p,cC,R,b,e,q⟩;exact⟨F,st,p,cC,R,b,e,λbG H' F' R' g'=>q bG H' F' R' g' _ rfl⟩)
end
def qb(h:tS X aa ab (c8 fe (aU i)) D σ H):tE X aa ab fe σ H λv H1=>D.nx (σ.set i (some v)) H1:=by
 obtain⟨F,st,R,h⟩:=h;refine⟨F,st,R,h.bnd λp v F1 bc H1 R1 g1 b1 h1=>?_⟩
 obtain⟨cC,e,z⟩:=h1.stp;obtain⟨hi,rfl⟩:=aN e;exact z F1 _ H1 ⟨R1.c,R1.l.set hi b1⟩ (Gr.refl _)
end
def SI(h:Heap)(it l:Addr)(k:Nat)(xs:Array Value):Prop:=(h.IsListIter it l k/\h.IsList l xs)\/(h.IsTupleIter it l k/\h.IsTuple l xs)
def SI.at{h h':Heap}{it l:Addr}{k:Nat}{xs:Array Value}(x:SI h it l k xs)(h1:∀o,h.get? it=some o->h'.get? it=some o)(h2:∀o,h.get? l=some o->h'.get? l=some o):SI h' it l k xs:=by
 rcases x with⟨⟨o,e,r⟩,⟨o',e',r'⟩⟩ | ⟨⟨o,e,r⟩,⟨o',e',r'⟩⟩
 ·exact .inl ⟨⟨o,h1 o e,r⟩,⟨o',h2 o' e',r'⟩⟩
 ·exact .inr ⟨⟨o,h1 o e,r⟩,⟨o',h2 o' e',r'⟩⟩
def SI.QR{h:Heap}{it l:Addr}{k:Nat}{xs:Array Value}(x:SI h it l k xs):∃o,h.get? it=some o/\∃vs,o.data=.fields vs:=by
 rcases x with⟨⟨o,e,_,d⟩,_⟩ | ⟨⟨o,e,_,d⟩,_⟩
 ·grind
 ·grind
def SI.sq{h:Heap}{it l:Addr}{k:Nat}{xs:Array Value}(x:SI h it l k xs):∃o n,h.get? l=some o/\o.data=.seq xs n:=by
 rcases x with⟨_,⟨o,e,_,n,d⟩⟩ | ⟨_,⟨o,e,_,n,d⟩⟩
 ·grind
 ·grind
def SI.ne{h:Heap}{it l:Addr}{k:Nat}{xs:Array Value}(x:SI h it l k xs):l≠it:=λz=>by
 obtain⟨o,e,vs,d⟩:=x.QR;obtain⟨o',n,e',d'⟩:=x.sq;subst z;rw[e]at e';cases e';rw[d]at d';cases d'
section
variable {prog:Program} {w:World} {A:Around} {E:Value->Shared->Prop} {s:Shared}
def CV{it t:Addr}{i:Nat}{aH:Array Value}{x:Value}{Q:Value->Shared->Prop}(oZ:s.heap.IsTupleIter it t i)(ht:s.heap.IsTuple t aH)(hx:aH[i]?=some x)
  (hQ:∀h',h'.IsTupleIter it t (i+1)->Heap.SameBut it s.heap h'->Q x {s with heap:=h'}):wpAny (model prog w) A (Builtin.SmallTypes.nextOf (.ref it)) Q E s:=by
 obtain⟨o,ho,hc,hd⟩:=id oZ;obtain⟨ol,WM,_,nl,QS⟩:=ht;refine af (iV oZ.typeIs vT (fN vT oZ.typeIs Ik (by
  show wpAny _ _ (field (.ref it) 0 >>= _) _ _ s;refine af (jW ho hd rfl ?_);show wpAny _ _ (if(Value.ref t==Value.none)=true then _ else _) _ _ s
  rw[if_neg (show ¬((Value.ref t==Value.none)=true)from c9)]
  show wpAny _ _ (field (.ref it) 1 >>= _) _ _ s;refine af (jW ho hd (x:=.int i 0) rfl ?_);show wpAny _ _ (seqItems? (.ref t) >>= _) _ _ s;refine af (wpAny_seqItems WM QS ?_);simp only[er,hx];refine af (lA ho hd (by simp) (aj ⟨x,rfl,aj (hQ _ ⟨_,jO _ ho (vY (jR hd _)),(vZ ..).trans hc,by rw[jR hd];simp[rawInt]⟩ (iX ..))⟩))) (Ii _)))
def CW{it t:Addr}{i:Nat}{aH:Array Value}{Q:Value->Shared->Prop}(hh:A.handled=none)(oZ:s.heap.IsTupleIter it t i)(ht:s.heap.IsTuple t aH)(hx:aH[i]?=none)
  (hE:∀h' e,Heap.ExtBut it s.heap h'->(∃o,h'.get? e=some o/\o.cls=.type "StopIteration")->E (.ref e) {s with heap:=h'}):wpAny (model prog w) A (Builtin.SmallTypes.nextOf (.ref it)) Q E s:=by
 obtain⟨o,ho,hc,hd⟩:=id oZ;obtain⟨ol,WM,_,nl,QS⟩:=ht;refine af (iV oZ.typeIs vT (fN vT oZ.typeIs Ik (by
  show wpAny _ _ (field (.ref it) 0 >>= _) _ _ s;refine af (jW ho hd rfl ?_);refine af (jW ho hd (x:=.int i 0) rfl ?_);show wpAny _ _ (seqItems? (.ref t) >>= _) _ _ s;refine af (wpAny_seqItems WM QS ?_);simp only[er,hx];refine af (nQ (af (lA ho hd (by simp) ?_)))
  show wpAny _ _ (newExc (.type "StopIteration") [] >>= _) _ _ _;refine af ?_;simp only[newExc,newTuple];refine af (fM ?_ (by size_fits))
  refine af (m:=firstArgMember _ _) (wB (a:=Value.none) (by first | rfl | (simp only[firstArgMember];rfl)) ?_)
  refine fM ?_ (by size_fits)
  simp only[raiseNew];refine af (wpAny_handled ?_)
  first | rw[show A.in1.handled=none from hh] | rw[hh]
  exact af (aj (wpAny_throw (hE _ _ (((iX ..).extBut.push _).push _) ⟨_,bX _ rfl,rfl⟩)))) (Ii _)))
def SI.next{it l:Addr}{k:Nat}{xs:Array Value}{x:Value}{Q:Value->Shared->Prop}(hi:SI s.heap it l k xs)(hx:xs[k]?=some x)(hQ:∀h',SI h' it l (k+1) xs->Heap.SameBut it s.heap h'->Q x {s with heap:=h'}) :
  wpAny (model prog w) A (Builtin.SmallTypes.nextOf (.ref it)) Q E s:=by
 have ne:=hi.ne;rcases hi with⟨h1,h2⟩ | ⟨h1,h2⟩
 ·exact wpAny_nextOf_list_item h1 h2 hx λh' a b=>hQ h' (.inl ⟨a,h2.extBut b.extBut ne⟩) b
 ·exact CV h1 h2 hx λh' a b=>hQ h' (.inr ⟨a,h2.extBut b.extBut ne⟩) b
def SI.stop{it l:Addr}{k:Nat}{xs:Array Value}{Q:Value->Shared->Prop}(hh:A.handled=none)(hi:SI s.heap it l k xs)(hx:xs[k]?=none)
  (hE:∀h' e,Heap.ExtBut it s.heap h'->(∃o,h'.get? e=some o/\o.cls=.type "StopIteration")->E (.ref e) {s with heap:=h'}):wpAny (model prog w) A (Builtin.SmallTypes.nextOf (.ref it)) Q E s:=by
 rcases hi with⟨h1,h2⟩ | ⟨h1,h2⟩
 ·exact wpAny_nextOf_list_end hh h1 h2 hx hE
 ·exact CW hh h1 h2 hx hE
end
section
variable {prog:Program} {w:World} {A:Around} {E:Value->Shared->Prop} {s:Shared} {z TI TO i1 i2 l1 l2:Nat} {k:Nat} {xs ys:Array Value}
def vd(h:Heap)(l:Addr)(xs:Array Value)(c:String):Prop:=(c="list_iterator"/\h.IsList l xs)\/(c="tuple_iterator"/\h.IsTuple l xs)
def qc{l:Addr}{xs:Array Value}{c:String}{Q:Value->Shared->Prop}(h:vd s.heap l xs c)(hQ:Q (.ref s.heap.objs.size) {s with heap:=s.heap.push {cls:=.type c,data:=.fields #[.ref l,.int 0 0]}}):wpAny (model prog w) A (pyIter (.ref l)) Q E s:=by
 rcases h with⟨rfl,h⟩ | ⟨rfl,h⟩
 ·exact BY h hQ
 ·exact BR h hQ
end
def HW(K:W.Frag)(H:Hp)(c:Bool)(l:Addr)(vs:List V):Prop:=if c=true then ud K H l vs else gU K H l vs
def Ob(h:Heap)(c:Bool)(it l:Addr)(k:Nat):Prop:=if c=true then h.IsListIter it l k else h.IsTupleIter it l k
def JM(c:Bool):String:=if c=true then "list_iterator" else "tuple_iterator"
section
variable {X:Cx} {ae:List (Addr×Obj)} {σ:St} {H:Hp} {s:Shared}
def HW.get(I:Inv X ae σ H s){c:Bool}{l:Addr}{vs:List V}(h:HW X.K H c l vs):∃aH:List Value,Vals vs aH/\vd s.heap l aH.toArray (JM c):=by
 unfold JM;cases c with
 | true =>
  obtain⟨aH,r,pl,_⟩:=I.list (h);exact⟨aH,r,.inl ⟨rfl,pl.isList⟩⟩
 | false =>
  obtain⟨aH,r,pl,_⟩:=I.tuple (h);exact⟨aH,r,.inr ⟨rfl,pl⟩⟩
def HW.inj(I:Inv X ae σ H s){c:Bool}{l:Addr}{vs ws:List V}(h:HW X.K H c l vs)(h':HW X.K H c l ws):vs=ws:=by
 cases c with
 | true=>exact I.j0 h h'
 | false=>exact I.ku h h'
def QT{h:Heap}{c:Bool}{it l:Addr}{k:Nat}{xs:Array Value}(h1:Ob h c it l k)(h2:vd h l xs (JM c)):SI h it l k xs:=by
 cases c with
 | true =>
  rcases h2 with⟨_,q⟩ | ⟨q,_⟩
  ·exact .inl ⟨h1,q⟩
  ·exact absurd q (by decide)
 | false =>
  rcases h2 with⟨q,_⟩ | ⟨_,q⟩
  ·exact absurd q (by decide)
  ·exact .inr ⟨h1,q⟩
def Oc{h:Heap}{c:Bool}{it l:Addr}{k k':Nat}{xs:Array Value}{h0:Heap}(h1:SI h it l k xs)(h2:vd h0 l xs (JM c))(kp:∀o,h0.get? l=some o->h.get? l=some o):Ob h c it l k:=by
 cases c with
 | true =>
  rcases h2 with⟨_,⟨o,e,hc,_⟩⟩ | ⟨q,_⟩
  ·rcases h1 with⟨a,_⟩ | ⟨_,⟨o',e',Ee,_⟩⟩
   ·exact a
   ·grind
  ·exact absurd q (by decide)
 | false =>
  rcases h2 with⟨q,_⟩ | ⟨_,⟨o,e,hc,_⟩⟩
  ·exact absurd q (by decide)
  ·rcases h1 with⟨_,⟨o',e',Ee,_⟩⟩ | ⟨a,_⟩
   ·grind
   ·exact a
def Inv.turns{t':Nat}{h':Heap}{ch:List Addr}(I:Inv X ae σ H s)(hf:∀b∈ch,wJ X ae H b)(kp:∀b o,b∉ch->s.heap.get? b=some o->h'.get? b=some o):Inv X ae σ H {s with heap:=h',toks:=t'}:=by
 have Xm:∀b u,H b=some u->b∉ch:=λb u e z=>by rw[(hf b z).1]at e;cases e
 refine I.step (λb hb=>⟨(hf b hb).2.2.2.1,(hf b hb).2.1,(hf b hb).2.2.2.2.1,(hf b hb).2.2.2.2.2⟩) (λb o _ _ hc e _=>kp b o hc e) (λb o _ _ hc e _=>⟨o.slots,kp b o hc e⟩) (λ_ _ _ _ n=>n)
  (λb o hc e=>⟨o,kp b o hc e⟩) (λ_ _ e=>e) (λ_ _ _ e=>e) (λ_ _ e=>e) (λm hm=>?_) (λb u e=>?_) I.bare
 ·obtain⟨o,es,ep,ho,r⟩:=hm;exact⟨o,es,ep,kp _ o (λz=>(hf _ z).2.1 rfl) ho,r⟩
 ·refine(I.hok b u e).wG (λc v hc q=>kp c v ?_ q) (λ_ q=>q) (λ_ _ q=>q) λ_ _ _ q=>q
  rcases hc with z | z
  ·rw[z];exact Xm b u e
  ·exact Xm c _ z
end
def Ob.at{h h':Heap}{c:Bool}{it l:Addr}{k:Nat}(x:Ob h c it l k)(h1:∀o,h.get? it=some o->h'.get? it=some o):Ob h' c it l k:=by
 cases c with
 | true =>
  obtain⟨o,e,r⟩:=(x);exact(⟨o,h1 o e,r⟩)
 | false =>
  obtain⟨o,e,r⟩:=(x);exact(⟨o,h1 o e,r⟩)
def Ob.obj{h:Heap}{c:Bool}{it l:Addr}{k:Nat}(x:Ob h c it l k):∃o,h.get? it=some o/\∀v,o.data≠.cell v:=by
 unfold Ob at x;split at x
 ·obtain⟨o,e,_,d⟩:=x;exact⟨o,e,λv=>by grind⟩
 ·obtain⟨o,e,_,d⟩:=x;exact⟨o,e,λv=>by grind⟩
def JN{prog:Program}{w:World}{A:Around}{it l:Addr}{xs:Array Value}(hh:A.handled=none):Draws prog w A it [it,l] xs.size (λi x=>xs[i]?=some x) (λi h=>SI h it l i xs) where
 live:=λi h st=>by
  obtain⟨o,e,_⟩:=st.QR;exact⟨o,e⟩
 frame:=λi h h' st k=>st.at (λo e=>k it (by simp) o e) (λo e=>k l (by simp) o e)
 item:=λi s Q E hi st hQ=>SI.next st (Bx hi) λh' a b=>hQ _ h' s.toks (Bx hi) a b
 done:=λs Q E st hE=>SI.stop hh st (BG (ay _)) hE
set_option maxHeartbeats 2000000 in
theorem JO(l:Addr)(xs:Array Value)(c:String)(part:Obj) :
  Meets (Builtin.«enumerate.__new__» ⟨[.type "enumerate",.ref l],[]⟩) (λ_ R s=>vd s.heap l xs c/\s.heap.get? l=some part /\
   ∀h1 h2:Heap,h1=s.heap.push {cls:=.type c,data:=.fields #[.ref l,.int 0 0]}->h2=h1.push {cls:=.type "enumerate",data:=.fields #[.none,.bool false,.ref s.heap.objs.size,rawInt 0,.none,.none]}->R (.ok (.ret (.ref h1.objs.size))) {s with heap:=h2}) :=
 .of_wp λprog w A R s h=>by
  obtain⟨hp,g,d,tk,os⟩:=s;obtain⟨hl,hpt,h⟩:=h;have hL:vd (Shared.heap ⟨hp,g,d,tk,os⟩) l xs c:=hl;have zE:=sub_enumerate;rcases hl with⟨rfl,⟨o,e,hc,n,hd⟩⟩ | ⟨rfl,⟨o,e,hc,n,hd⟩⟩
  ·obtain⟨oc,od,odt,Ts⟩:=o;replace hc:oc=.type "list":=hc;replace hd:odt=.seq xs n:=hd
   wp_walk using jM e
   refine wpAny_stack_any λst=>aj ?_
   split
   ·rename_i c' _ _ _ _ _;cases(c'==Value.type "enumerate")<;>(wp_walk using jM e,qc hL)<;>exact⟨_,rfl,h _ _ rfl rfl⟩
   ·wp_walk using jM e,qc hL
    exact⟨_,rfl,h _ _ rfl rfl⟩
  ·obtain⟨oc,od,odt,Ts⟩:=o;replace hc:oc=.type "tuple":=hc;replace hd:odt=.seq xs n:=hd
   wp_walk using jM e
   refine wpAny_stack_any λst=>aj ?_
   split
   ·rename_i c' _ _ _ _ _;cases(c'==Value.type "enumerate")<;>(wp_walk using jM e,qc hL)<;>exact⟨_,rfl,h _ _ rfl rfl⟩
   ·wp_walk using jM e,qc hL
    exact⟨_,rfl,h _ _ rfl rfl⟩
def Od{prog:Program}{w:World}{A:Around}{E:Value->Shared->Prop}{s:Shared}{e it l:Addr}{k:Nat}{i:Int}{xs:Array Value}{old:Value}{Q:Option Value->Shared->Prop}(hh:A.handled=none)(a1:IsEnum s.heap e it i old)(st:SI s.heap it l k xs)(hx:xs[k]?=none)(hQ:∀h',Heap.ExtBut it s.heap h'->Q none {s with heap:=h'}):wpAny (model prog w) A (pyNext (.ref e)) Q E s:=by
 have ty:s.TypeIs (.ref e) "enumerate":=⟨_,a1,rfl⟩;unfold pyNext;refine af (wx (iV ty F.slot_enumerate_next (fN F.slot_enumerate_next ty F.entry_enumerate_next (by
  show wpAny _ _ (field (.ref e) 2 >>= _) _ _ _;refine af (jW a1 rfl rfl (af (SI.stop hh st hx λh' y sb ⟨o,ho,hc⟩=>?_)))
  exact af (wa ⟨o,ho,hc⟩ isSubtype_stop (aj (hQ _ sb)))) (F.args_enumerate_next_1 _))))
def Ien(K:W.Frag)(c:Bool)(l:Addr):It where
 go:=λi H=>∃vs v,HW K H c l vs/\vs[i]?=some v
 yld:=λi H x H'=>∃T v,H T=none/\x=.ref T/\H'=cg H T (.ao [.int i,v])/\∀vs,HW K H c l vs->vs[i]?=some v
 stop:=λi H=>∃vs,HW K H c l vs/\vs.length<=i
def eTn(e it l:Nat)(c:Bool)(i:Nat)(h:Heap):Prop:=(∃old,IsEnum h e it i old)/\Ob h c it l i
def Oe{P:Program}{w:World}{K:W.Frag}{elts:List Expr}{x1:Nat}{Tn:Pos}{e it l:Nat}{c:Bool}(ord:it<e)(o1:l<it) :
  Turn P w K (.Tuple elts x1 Tn) (Ien K c l) [e,it] e (eTn e it l c) where
 mem:=aE
 obj:=by
  rintro i h ⟨⟨_,a1⟩,a2⟩ b hb
  simp only[aD,eu,eA]at hb;rcases hb with rfl | rfl
  ·exact⟨_,a1,λv=>by simp⟩
  ·exact a2.obj
 keep:=(by rintro i h h' ⟨⟨old,a1⟩,a2⟩ k;exact⟨⟨old,k e (by simp) _ a1⟩,a2.at λo x=>k it (by simp) o x⟩)
 item:=by
  rintro X hP hw hK hc i ae s σ H E I hf ⟨⟨old,a1⟩,a2⟩ ⟨vs,v,hv,ev⟩
  subst hP hw hK;obtain⟨aH,r1,k1⟩:=hv.get I;obtain⟨x,ex,rx⟩:=r1.get ev;have ne:e≠it:=qK ord;have nel:e≠l:=qK (nN o1 ord);have QS:X.A.in1.handled=none:=I.ok.hd hc;refine wpAny_pyNext_enum_itemD (JN (xs:=aH.toArray) (l:=l) QS) a1 (QT a2 k1) (by
   have:=(bM.mp ex).1;simpa using this) ne (by simp[ne,nel]) λx' h' tk CK hO st hT YI kp=>⟨_,rfl,?_⟩
  have xe:x'=x:=by
   have e1:aH.toArray[i]?=some x:=by simpa using ex
   rw[e1]at CK;cases CK;rfl
  subst xe;refine wpAny_letOwnedTupleGo_enum hO λh'' ac3 sb=>?_
  have big:∀b∈[e,it],b<s.heap.objs.size:=λb hb=>by
   simp only[aD,eu,eA]at hb;have h1:e<s.heap.objs.size:=aW a1;rcases hb with rfl | rfl<;>lia
  have eT:e≠s.heap.objs.size:=bI (big e (by simp))
  have kp2:∀b o,b∉[e,it]->s.heap.get? b=some o->h''.get? b=some o:=λb o hb z=>by
   simp only[aD,eu,eA,not_or]at hb;exact sb.extBut _ _ hb.1 (kp b o hb.1 hb.2 z)
  have I1:Inv X ae σ H {s with heap:=h'',toks:=tk+1}:=Inv.turns I hf kp2
  have hn:H s.heap.objs.size=none:=I.fresh;have fp0:=I.Cm (H':=H) (ay _) hn;have pr:h''.get? s.heap.objs.size=some {cls:=.type "tuple",data:=.seq #[.int i tk,x']}:=sb.extBut _ _ (dt eT) hT
  have I2:=Inv.adopt (D:=s.heap.objs.size) (o:=.ao [.int i,v]) I1 hn (by
    rcases fp0.2.2.2.1 with q | q
    ·exact I.sz
    ·exact q) fp0.2.1 fp0.2.2.2.2.1 fp0.2.2.2.2.2 ⟨(by show 2<=sizeLine;decide),[.int i tk,x'],.cons ⟨tk,rfl⟩ (.cons rx .nil),⟨_,pr,rfl,0,rfl⟩⟩
  refine⟨.ref s.heap.objs.size,_,I2,rfl,⟨s.heap.objs.size,v,hn,rfl,rfl,λwU h1=>?_⟩,⟨⟨_,ac3⟩,?_⟩,λb hb=>?_⟩
  ·rw[<-HW.inj I hv h1];exact ev
  ·have nli:l≠it:=bI o1;have q:=Oc (k':=i) st k1 λo z=>kp l o (dt nel) nli z
   exact q.at λo z=>sb.extBut _ _ (dt ne) z
  ·rw[aJ (bI (big b hb))];exact(hf b hb).1
 done:=by
  rintro X hP hw hK hc i ae s σ H E I hf ⟨⟨old,a1⟩,a2⟩ ⟨vs,hv,he⟩
  subst hP hw hK;obtain⟨aH,r1,k1⟩:=hv.get I;have hz:aH.toArray[i]?=none:=BG (by rw[eS,<-r1.length];exact he)
  refine Od (I.ok.hd hc) a1 (QT a2 k1) hz λh' sb=>⟨rfl,?_⟩
  exact Inv.turns (t':=s.toks) I hf λb o hb z=>by
   simp only[aD,eu,eA,not_or]at hb;exact sb b o hb.2 z
 self:=(by rintro A i s Q E ⟨⟨_,a1⟩,_⟩ q;exact wpAny_pyIter_enum a1 q)
def QU:Expr->Bool
 | .Tuple _ _ _=>true
 | _=>false
def ui:PV->Option (List PV)
 | .nd .ao ps=>some ps
 | .nd .lst ps=>some ps
 | _=>none
def zF(p q:PV):PV:=.ao [p,q]
def JP{K:W.Frag}(h:ui p=some ps)(b:bO K F p x):∃c l vs,x=.ref l/\HW K F.F c l vs/\az K F ps vs/\∀F',cG F.F F'->HW K F' c l vs:=by
 unfold ui at h;split at h
 ·cases h;obtain⟨l,vs,rfl,h1,h2⟩:=cw.mp b;exact⟨false,l,vs,rfl,h1,h2,λF' s=>bu s h1⟩
 ·cases h;obtain⟨l,vs,rfl,h1,h2⟩:=fY.mp b;exact⟨true,l,vs,rfl,h1.sq,h2,λF' s=>(mj s h1).sq⟩
 ·cases h
def GR{K:W.Frag}(hs:ud K F.F a vs)(hb:az K F ps vs):Walk K F ps (Itl K a):=by
 intro aa ab F' st σ H R s i;have hq:=(s.s.trans R.sub).seq hs;refine⟨λp e=>?_,λe=>?_⟩
 ·obtain⟨v,e1,b1⟩:=hb.get e;refine⟨⟨vs,v,hq,e1⟩,λx H' ⟨hH,y⟩=>?_⟩
  subst hH;have:=y vs hq;rw[e1]at this;cases this;exact⟨F',R,Gr.refl _,b1.mono s⟩
 ·refine⟨vs,hq,?_⟩;rw[<-hb.length];exact jL.mp e
def JQ{K:W.Frag}(hs:gU K F.F a vs)(hb:az K F ps vs):Walk K F ps (Itt K a):=by
 intro aa ab F' st σ H R s i;have hq:=bu (s.s.trans R.sub) hs;refine⟨λp e=>?_,λe=>?_⟩
 ·obtain⟨v,e1,b1⟩:=hb.get e;refine⟨⟨vs,v,hq,e1⟩,λx H' ⟨hH,y⟩=>?_⟩
  subst hH;have:=y vs hq;rw[e1]at this;cases this;exact⟨F',R,Gr.refl _,b1.mono s⟩
 ·refine⟨vs,hq,?_⟩;rw[<-hb.length];exact jL.mp e
noncomputable def JR(lo:Int)(n:Nat):List PV:=(List.range n).map fun(i:Nat)=>.int (lo+i)
def rN{K:W.Frag}(lo:Int)(n:Nat):Walk K F (JR lo n) (XA lo n):=by
 intro aa ab F' st σ H R s i;unfold JR;refine⟨λp e=>?_,λe=>?_⟩
 ·rw[bH]at e;by_cases hi:i<n
  ·rw[nz hi]at e;cases e;exact⟨hi,λx H' ⟨hH,y⟩=>by subst hH y;exact⟨F',R,Gr.refl _,aG.mpr rfl⟩⟩
  ·rw[jP (by simpa using hi)]at e;cases e
 ·rw[bH]at e;by_cases hi:i<n
  ·rw[nz hi]at e;cases e
  ·exact B2 hi
def d8:Nat->List PV->List PV
 | _,[]=>[]
 | k,p::r=>zF (.int k) p::d8 (k+1) r
theorem oh:∀(ps:List PV) (k i:Nat),(d8 k ps)[i]?=ps[i]?.map λp=>zF (.int ((k+i:Nat):Int)) p
 | [],k,i=>by simp[d8]
 | p::r,k,0=>by simp[d8]
 | p::r,k,i+1=>by
  simp only[d8,vU];rw[oh r (k+1) i,show k+1+i=k+(i+1) by lia]
def Of{K:W.Frag}(k1:∀F',cG F.F F'->HW K F' c l vs)(b1:az K F ps vs):Walk K F (d8 0 ps) (Ien K c l):=by
 intro aa ab F' st σ H R s i;have h1:=k1 H (s.s.trans R.sub);refine⟨λp e=>?_,λe=>?_⟩
 ·rw[oh]at e;cases z1:ps[i]? with
  | none=>rw[z1]at e;cases e
  | some p1 =>
   rw[z1]at e;cases e;obtain⟨v,e1,c1'⟩:=b1.get z1;refine⟨⟨vs,v,h1,e1⟩,λx H' z9=>?_⟩
   obtain⟨T,v',hn,hx,hH,Gq⟩:=z9;have g1:=Gq vs h1;rw[e1]at g1;cases g1;subst hx hH;obtain⟨R2,s2⟩:=R.laid (.ao [.int i,v]) hn;refine⟨_,R2,s2,cw.mpr ⟨T,[.int i,v],rfl,gU.of aA,.cons ?_ (.cons (c1'.mono (s.trans s2)) .nil)⟩⟩;rw[gr];exact aG.mpr rfl
 ·refine⟨vs,h1,?_⟩;rw[oh]at e;cases z1:ps[i]? with
  | none =>
   have:=jL.mp z1;rw[b1.length]at this;exact this
  | some p1=>rw[z1]at e;cases e
section
variable {X:Cx} {aa:Hp} {ab:Fz} {a b e tg:Expr} {fa fb:Gx PV} {ts:Gx (List PV)} {pos p:Pos}
noncomputable def Og(i j:Int):Bool:=decide (-(2^62)<=i/\i<2^62 /\ -(2^62)<=j/\j<2^62)
def xj:List PV->Option (List PV)
 | [.int j]=>if Og 0 j=true then some (JR 0 j.toNat)else none
 | _=>none
def Ut:List PV->Option (List PV)
 | [.int i,.int j]=>if Og i j=true then some (JR i (j-i).toNat)else none
 | _=>none
def uj(g:List PV->Option (List PV))(ts:Gx (List PV)):Gx (List PV):=bnd ts λps=>jK (g ps)
def JS(hg:Gl X "range")(hm:X.mg "range"=none)(ha:PA X [a] (tA X aa ab ts))(hs:starEach [a] X.env=[(false,eval a X.env)]:=by rfl):PI X tg (.Call (.Name "range" p) [a] [] pos) (tI X aa ab (uj xj ts)) :=
 (Ge hg hm ha hs).imp λσ H Rr ⟨F,st,R,h⟩=>⟨F,st,R,h.bnd λps vs F1 bc H1 R1 g1 b1 h1=>by
  obtain⟨o,e,z⟩:=h1.jK;unfold xj at e;split at e
  ·obtain⟨hr,rfl⟩:=aN e;obtain⟨v,rfl,b⟩:=dN b1;obtain⟨_,_,h3,h4⟩:=fL hr;rw[aG.mp b];exact⟨_,rfl,h3,h4,z _ H1 F1 R1 (Gr.refl _) (rN 0 _)⟩
  ·cases e⟩
def JT(hg:Gl X "range")(hm:X.mg "range"=none)(ha:PA X [a,b] (tA X aa ab ts))(hs:starEach [a,b] X.env=[(false,eval a X.env),(false,eval b X.env)])(Mq:starEach [b] X.env=[(false,eval b X.env)]):PI X tg (.Call (.Name "range" p) [a,b] [] pos) (tI X aa ab (uj Ut ts)) :=
 (Gf hg hm ha hs Mq).imp λσ H Rr ⟨F,st,R,h⟩=>⟨F,st,R,h.bnd λps vs F1 bc H1 R1 g1 b1 h1=>by
  obtain⟨o,e,z⟩:=h1.jK;unfold Ut at e;split at e
  ·obtain⟨hr,rfl⟩:=aN e;obtain⟨v,w,rfl,b,c⟩:=mx b1;have hr:=fL hr;rw[aG.mp b,aG.mp c];exact⟨_,_,rfl,hr,z _ H1 F1 R1 (Gr.refl _) (rN _ _)⟩
  ·cases e⟩
def rO(fa:Gx PV):Gx (List PV):=bnd fa λp=>jK ((ui p).map λps=>d8 0 ps)
def ac4(ht:QU tg=true)(hg:Gl X "enumerate")(hm:X.mg "enumerate"=none)(ha:PE X a (tE X aa ab fa))(hs:starEach [a] X.env=[(false,eval a X.env)]) :
  PI X tg (.Call (.Name "enumerate" p) [a] [] pos) (tI X aa ab (rO fa)):=by
 rintro ae s σ H R I ⟨F,st,Rp,h⟩
 have hA:=hJ ha nZ hs pos ae s σ H (λvs H'=>∃F' cC x pa ps,vs=[x]/\Rep X.K aa ab F' cC σ H'/\bO X.K F' pa x/\ui pa=some ps/\∀b YO Jv,Rep X.K aa ab Jv cC σ YO->Gr F' Jv->Walk X.K Jv (d8 0 ps) b->R b YO) I
  ⟨F,st,Rp,h.bnd λp v F1 bc H1 R1 g1 b1 h1=>by
   obtain⟨o,e,z⟩:=h1.jK;obtain⟨ps,e1,rfl⟩:=bj e;exact⟨F1,bc,v,p,ps,rfl,R1,b1,e1,z⟩⟩
 refine Call_ (ld_blt I hg hm boot_enumerate (il (thn hA λus s1 z9=>?_) hs rfl))
 obtain⟨vs,H1,I1,r1,F1,bc,x,pa,ps,ev,R1,b1,f3,q⟩:=z9;subst ev;obtain⟨u1,rfl,YQ⟩:=js r1;obtain⟨c1,l1,vs1,rfl,q1,bl1,k1⟩:=JP f3 b1;cases YQ;obtain⟨aH,v1,kk1⟩:=(k1 H1 R1.sub).get I1;obtain⟨part,QV⟩:∃o,s1.heap.get? l1=some o:=by
  rcases kk1 with⟨_,⟨o,e,_⟩⟩ | ⟨_,⟨o,e,_⟩⟩
  ·grind
  ·grind
 have lt1:=aW QV;refine callType_new PySem.F.called_enumerate (by decide) (PySem.F.typeCall_enumerate_1 _) (PySem.F.newCall_enumerate_1 _) (λobj=>PySem.F.args_object_init_2 obj _) PySem.F.entry_enumerate_new (JO l1 aH.toArray (JM c1) part) ⟨kk1,QV,λh1 h2 e1 e2=>?_⟩
 have z1:h1.objs.size=s1.heap.objs.size+1:=by simp_all
 have p1:∀b o,s1.heap.get? b=some o->h1.get? b=some o:=λb o e=>by rw[e1];exact aZ _ e
 have p2:∀b o,h1.get? b=some o->h2.get? b=some o:=λb o e=>by rw[e2];exact aZ _ e
 have g2:IsEnum h2 h1.objs.size s1.heap.objs.size 0 .none:=by rw[e2];exact bX _ rfl
 have g1:=p2 _ _ (by rw[e1];exact bX _ rfl)
 have I2:Inv X ae σ H1 {s1 with heap:=h2,toks:=s1.toks}:=I1.kept λb o e=>p2 _ _ (p1 _ _ e)
 have nW:∀b,s1.heap.objs.size<=b->H1 b=none:=λb hb=>I1.hok.fresh hb
 refine⟨⟨_,g2,rfl⟩,?_⟩;show wpAny _ _ (pyIter (.ref h1.objs.size)) _ _ {s1 with heap:=h2,toks:=s1.toks}
 refine wpAny_pyIter_enum g2 ?_;cases tg with
 | Tuple elts x1 Tn =>
  refine⟨h1.objs.size,[h1.objs.size,s1.heap.objs.size],_,_,H1,rfl,I2,Oe (by lia) lt1,⟨⟨_,g2⟩,(by
   cases c1 with
   | true=>exact(⟨_,g1,rfl,rfl⟩)
   | false=>exact(⟨_,g1,rfl,rfl⟩))⟩,λb hb=>?_,q _ H1 F1 R1 (Gr.refl _) (Of k1 bl1)⟩
  simp only[aD,eu,eA]at hb;have Mt:s1.heap.objs.size<=b:=by rcases hb with rfl | rfl<;>lia
  exact I1.Cm Mt (nW b Mt)
 | _=>cases ht
end
inductive yD where
 | sq (ps:List PV) | cl (n:Nat)
def YR(K:W.Frag)(F:Fz):yD->It->Prop
 | .sq ps,J=>Walk K F ps J
 | .cl n,J=>∃a,F.μ[n]?=some a/\J=Itl K a
abbrev HX(X:Cx)(aa:Hp)(ab:Fz)(f:Gx yD):TI:=tX X aa ab (YR X.K) f
def CY(f:Gx (List PV)):Gx yD:=bnd f λps=>aX (.sq ps)
def JU(n:Nat)(h:List aq)(i:Nat):Option (Option PV):=match cm h (.ref n)with
 | some (.lst,ps)=>some ps[i]?
 | _=>none
def JV(h:List aq)(p:PV):Option yD:=match ui p with
 | some ps=>some (.sq ps)
 | none=>match p with
  | .ref n=>match cm h (.ref n)with
   | some (.lst,_)=>some (.cl n)
   | _=>none
  | _=>none
def jC(fe:Gx PV):Gx yD:=bnd fe λp=>hp λh=>JV h p
def zG(g:Tg)(body:Gx dE)(n:Nat):Nat->Nat->Gx dE
 | 0,_=>λ_=>none
 | f+1,i=>λst=>match JU n st.h i with
  | some (some p)=>bnd (stp (g p)) (λ_=>bnd body (u6 (zG g body n f (i+1)))) st
  | some none=>some (.ok .nx,st)
  | none=>none
def YS(g:Tg)(body:Gx dE):yD->Gx dE
 | .sq ps=>cY g body ps
 | .cl n=>zG g body n fq 0
def zH(fi:Gx yD)(g:Tg)(body:Gx dE):Gx dE:=bnd fi (YS g body)
section
variable {X:Cx} {aa:Hp} {ab:Fz} {e tg iter:Expr} {fa:Gx PV} {fb:Gx dE} {body:List Stmt} {pos:Pos}
def Oh(h:PI X tg e (tI X aa ab f)):PI X tg e (HX X aa ab (CY f)):=(by rintro ae s σ H R I ⟨F,st,Rp,hh⟩;exact h ae s σ H R I ⟨F,st,Rp,hh.bnd λps J F1 bc H1 R1 g1 b1 h1=>h1.aX J H1 F1 R1 (Gr.refl _) b1⟩)
def JW{K:W.Frag}{st:cx}(R:Rep K aa ab F st σ H)(ha:F.μ[n]?=some a)(e:JU n st.h i=some o):∃ps vs,o=ps[i]?/\ud K H a vs/\az K F ps vs:=by
 unfold JU at e;split at e
 ·rename_i ps z;cases e;obtain⟨a',vs,e1,h1,h2⟩:=R.at z (dj.mpr ⟨a,ha,rfl⟩);cases e1;exact⟨ps,vs,rfl,kF.sq h1,h2⟩
 ·cases e
def JX(he:PE X e (tE X aa ab fa)):PI X tg e (HX X aa ab (jC fa)):=by
 rintro ae s σ H R I ⟨F,st,Rp,h⟩
 obtain⟨r,e1,e2⟩:=At.bnd h
 match r,e2 with
 | (.ex m C,bc),e2 =>
  exact IV he ae s σ H R I ⟨F,st,Rp,_,e1,e2⟩
 | (.ok p,bc),e2 =>
  obtain⟨ps,e3,q⟩:=At.hp e2;unfold JV at e3;split at e3
  ·rename_i qs e4;cases e3;unfold ui at e4;split at e4
   ·cases e4;refine IV he ae s σ H R I ⟨F,st,Rp,_,e1,λv H1 F1 R1 s1 b1=>?_⟩
    obtain⟨a,vs,rfl,hs,hb⟩:=cw.mp b1;exact⟨a,rfl,⟨vs,bu R1.sub hs⟩,q _ H1 F1 R1 s1 (JQ hs hb)⟩
   ·cases e4;refine Eg he ae s σ H R I ⟨F,st,Rp,_,e1,λv H1 F1 R1 s1 b1=>?_⟩
    obtain⟨a,vs,rfl,hs,hb⟩:=fY.mp b1;exact⟨a,rfl,⟨vs,(mj R1.sub hs).sq⟩,q _ H1 F1 R1 s1 (GR hs.sq hb)⟩
   ·cases e4
  ·split at e3
   ·rename_i n _;split at e3
    ·rename_i qs z;cases e3;refine Eg he ae s σ H R I ⟨F,st,Rp,_,e1,λv H1 F1 R1 s1 b1=>?_⟩
     obtain⟨a,vs,rfl,hs,hb⟩:=R1.at z b1;obtain⟨a',ha,e5⟩:=dj.mp b1;cases e5;exact⟨a,rfl,⟨vs,kF.sq hs⟩,q _ H1 F1 R1 s1 ⟨a,ha,rfl⟩⟩
    ·cases e3
   ·cases e3
def Uu{fi:Gx yD}(hp:PassesOwn (model X.prog X.w) X.A X.env X.xe)(hc:X.calm=true)(hi:PI X tg iter (HX X aa ab fi))(hg:PG X tg (tG X.K aa ab g))(hb:PSs X body (tS X aa ab fb))
  (hs:∀x,foldedSetIterable iter X.env x=pure x:=by intro _;rfl):PS X (.For tg iter body [] pos) (tS X aa ab (zH fi g fb)):=(IW hp hc hi hg hb hs).imp <| by
 rintro D σ H ⟨F,st,R,h⟩
 refine⟨F,st,R,h.bnd λsr J F1 bc H1 R1 g1 wk h1=>?_⟩
 cases sr with
 | sq ps =>
  refine⟨λi m bG H'=>m=ps.length-i/\i<=ps.length/\∃F' cC,Rep X.K aa ab F' cC bG H'/\Gr F1 F'/\Sa X aa ab F' D cC (cY g fb (ps.drop i)),⟨ps.length,by simp,dI _,F1,bc,R1,Gr.refl _,h1⟩,?_⟩
  rintro i m bG H' ⟨rfl,hi,F',cC,R',s',hr⟩
  obtain⟨wg,YT⟩:=wk aa ab F' cC bG H' R' s' i;by_cases fx:i<ps.length
  ·obtain⟨go,wy⟩:=wg ps[i] (bW fx);rw[qx fx]at hr;refine .inr ⟨go,λyY H2=>∃F2 d0,Rep X.K aa ab F2 d0 yY H2/\Gr F1 F2/\Sa X aa ab F2 D d0 (cY g fb (ps.drop (i+1))),λyY H2 n2=>⟨ps.length-(i+1),by lia,rfl,fx,n2⟩,λx H2 y=>?_⟩
   obtain⟨F2,R2,s2,b2⟩:=wy x H2 y;obtain⟨r,e1,e2⟩:=At.bnd hr;obtain⟨QW,e3,e4⟩:=bj e1;subst e4;refine⟨F2,cC,ps[i],QW,R2,b2,e3,λoS H3 F3 R3 s3=>⟨F3,QW,R3,?_⟩⟩
   exact Sa.lG _ (λF4 HV NQ H4 R4 g4 z=>⟨F4,HV,R4,(s'.trans (s2.trans s3)).trans g4,z⟩) (Sa.mono (e2) (s2.trans s3))
  ·have e:i=ps.length:=by lia
   subst e;rw[BZ]at hr;exact .inl ⟨YT (jP (ay _)),At.aX hr F' bG H' R' (Gr.refl _)⟩
 | cl n =>
  obtain⟨a,ha,rfl⟩:=wk;refine⟨λi m bG H'=>∃F' cC,Rep X.K aa ab F' cC bG H'/\Gr F1 F'/\Sa X aa ab F' D cC (zG g fb n m i),⟨fq,F1,bc,R1,Gr.refl _,h1⟩,?_⟩
  rintro i m bG H' ⟨F',cC,R',s',hr⟩
  cases m with
  | zero=>obtain⟨r,e,_⟩:=hr;cases e
  | succ m =>
   obtain⟨r,e1,e2⟩:=hr;have e1:(match JU n cC.h i with
    | some (some p)=>bnd (stp (g p)) (λ_=>bnd fb (u6 (zG g fb n m (i+1)))) cC
    | some none=>some (.ok .nx,cC)
    | none=>none)=some r:=e1
   cases z:JU n cC.h i with
   | none=>rw[z]at e1;cases e1
   | some o =>
    obtain⟨ps,vs,ho,hq,Bm⟩:=JW R' (s'.m n a ha) z;cases o with
    | none =>
     rw[z]at e1;cases e1;refine .inl ⟨⟨vs,hq,?_⟩,e2 F' bG H' R' (Gr.refl _)⟩;rw[<-Bm.length];exact jL.mp ho.symm
    | some p =>
     rw[z]at e1;obtain⟨v,hv,bv⟩:=Bm.get ho.symm;refine .inr ⟨⟨vs,v,hq,hv⟩,λyY H2=>∃F2 d0,Rep X.K aa ab F2 d0 yY H2/\Gr F1 F2/\Sa X aa ab F2 D d0 (zG g fb n m (i+1)),λyY H2 n2=>⟨m,qF m,n2⟩,λx H2 ⟨hH,y⟩=>?_⟩
     subst hH;have:=y vs hq;rw[hv]at this;cases this;obtain⟨r',q1,q2⟩:=At.bnd (⟨r,e1,e2⟩);obtain⟨QW,e3,e4⟩:=bj q1;subst e4;refine⟨F',cC,p,QW,R',bv,e3,λoS H3 F3 R3 s3=>⟨F3,QW,R3,?_⟩⟩
     exact Sa.lG _ (λF4 HV NQ H4 R4 g4 z=>⟨F4,HV,R4,(s'.trans s3).trans g4,z⟩) (Sa.mono (q2) s3)
end
def EI(bd:PV->List aq->Option (Option PV×List aq))(n:Nat):Nat->Nat->List aq->Option (List PV×List aq)
 | 0,_,_=>none
 | f+1,i,h=>match JU n h i with
  | some (some p)=>(bd p h).bind λr=>(EI bd n f (i+1) r.2).map λs=>(r.1.toList++s.1,s.2)
  | some none=>some ([],h)
  | none=>none
def YU(bd:PV->List aq->Option (Option PV×List aq))(h:List aq):yD->Option (List PV×List aq)
 | .sq ps=>if ps.length<=fq then dO bd ps h else none
 | .cl n=>EI bd n fq 0 h
def QX(c:Bool)(ρ:List (Option PV))(r:List PV×List aq):Option (Rs PV×cx):=if c=true then kJ ⟨.lst,r.1⟩ ⟨ρ,r.2⟩else some (.ok (.lst r.1),⟨ρ,r.2⟩)
def da(c:Bool)(link:List (Option Nat))(fi:Gx yD)(bd:Bd):Gx PV:=bnd fi λs st=>(YU (bd (bK link st.ρ)) st.h s).bind (QX c st.ρ)
section
variable {X:Cx} {aa:Hp} {ab:Fz} {N:List Str} {link:List (Option Nat)} {scope:Scope} {tg iter elt c:Expr} {pos:Pos} {fi:Gx yD} {g:Tg} {fe:Gx PV} {ft:Gx Bool} {L:List Nat} {cl:Bool}
def zI{bc:cx}{Q:VK}(R':kx X.K aa ab F' hf H')(L1:Lc X.K F1 bc.ρ σ)(g':Gr F1 F')(Bm:az X.K F' done acc)(hn:H' D=none)(e4:QX cl bc.ρ (done,hf)=some r)(e2:Jt X aa ab F1 (λa cC=>∀b H' F',Rep X.K aa ab F' cC σ H'->Gr F1 F'->bO X.K F' a b->Q b H') r):Q (.ref D) (cg H' D (.lst acc)):=by
 have Ro:Rep X.K aa ab F' ⟨bc.ρ,hf⟩ σ H':=⟨R',L1.mono g'⟩;cases cl with
 | true =>
  have e4:=e4;exact Tx.kJ (Tx.mono ⟨r,e4,e2⟩ g' λ_ _ z=>z) Ro hn aA Bm
 | false =>
  have e4:=e4;cases e4;obtain⟨R2,s2⟩:=Ro.laid (.lst acc) hn;exact e2 _ _ _ R2 (g'.trans s2) (fY.mpr ⟨D,acc,rfl,kF.of aA,Bm.mono s2⟩)
def ve{Q:VK}
  (hb:∀(F2:Fz) (ρ:List (Option PV)) (p:PV) (h h':List aq) (o:Option PV) (x:V) (bG:St) (H2:Hp) (Q':Option V->St->Hp->Prop),bd (bK link ρ) p h=some (o,h')->Rep X.K aa ab F2 ⟨bK link ρ,h⟩ bG H2->bO X.K F2 p x ->
   (∀o' oS H3 F3,Rep X.K aa ab F3 ⟨bK link ρ,h'⟩ oS H3->Gr F2 F3->az X.K F3 o.toList (Option.toList o')->Q' o' oS H3)->tb x bG H2 Q')
  (h:tE X aa ab (da cl link fi bd) σ H Q):vb link (HX X aa ab fi) tb σ H Q:=by
 obtain⟨F,st,R,h⟩:=h;refine⟨F,st,R,h.bnd λsr J F1 bc H1 R1 g1 wk h1=>?_⟩
 obtain⟨r,e1,e2⟩:=h1;obtain⟨⟨rs,hf⟩,e3,e4⟩:=aY e1;cases sr with
 | sq ps =>
  obtain⟨eG,e3⟩:=b6 e3;refine⟨λi m acc bG H'=>m=ps.length-i/\i<=ps.length/\acc.length<=i/\∃F' h' done rest,Rep X.K aa ab F' ⟨bK link bc.ρ,h'⟩ bG H'/\Gr F1 F'/\dO (bd (bK link bc.ρ)) (ps.drop i) h'=some (rest,hf)/\done++rest=rs/\az X.K F' done acc,
   ⟨ps.length,rfl,dI _,ay _,F1,bc.h,[],rs,⟨R1.c,R1.l.gB link⟩,Gr.refl _,e3,rfl,.nil⟩,?_⟩
  rintro i m acc bG H' ⟨rfl,hi,ha,F',h',done,rest,R',g',hr,hd,Bm⟩
  obtain⟨wg,YT⟩:=wk aa ab F' _ bG H' R' g' i;by_cases fx:i<ps.length
  ·rw[qx fx]at hr;obtain⟨⟨o,h2⟩,e5,e6⟩:=aY hr;obtain⟨⟨r2,h3⟩,e7,e8⟩:=bj e6;cases e8;obtain⟨go,wy⟩:=wg ps[i] (bW fx);refine .inr ⟨go,nC (bA ha hi) (nC eG (by decide)),λx H2 y=>?_⟩
   obtain⟨F2,R2,s2,b2⟩:=wy x H2 y;refine hb F2 bc.ρ ps[i] h' h2 o x bG H2 _ e5 R2 b2 λo' oS H3 F3 R3 s3 b3=>⟨ps.length-(i+1),by lia,rfl,fx,?_,F3,h2,done++o.toList,r2,R3,g'.trans (s2.trans s3),e7,by rw[<-hd,cW],(Bm.mono (s2.trans s3)).append b3⟩
   rw[aR];cases o'<;>simp <;> lia
  ·have e:i=ps.length:=by lia
   subst e;rw[BZ]at hr;cases hr;rw[dq]at hd;subst hd;exact .inl ⟨YT (jP (ay _)),bA ha (fy eG),λD hn=>zI R'.c R1.l g' Bm hn e4 e2⟩
 | cl n =>
  obtain⟨a,hna,rfl⟩:=wk;refine⟨λi m acc bG H'=>i+m=fq/\acc.length<=i/\∃F' h' done rest,Rep X.K aa ab F' ⟨bK link bc.ρ,h'⟩ bG H'/\Gr F1 F'/\EI (bd (bK link bc.ρ)) n m i h'=some (rest,hf)/\done++rest=rs/\az X.K F' done acc,
   ⟨fq,gr _,ay _,F1,bc.h,[],rs,⟨R1.c,R1.l.gB link⟩,Gr.refl _,e3,rfl,.nil⟩,?_⟩
  rintro i m acc bG H' ⟨hm,ha,F',h',done,rest,R',g',hr,hd,Bm⟩
  cases m with
  | zero=>cases hr
  | succ m =>
   have hr:(match JU n h' i with
    | some (some p)=>(bd (bK link bc.ρ) p h').bind λr=>(EI (bd (bK link bc.ρ)) n m (i+1) r.2).map λs=>(r.1.toList++s.1,s.2)
    | some none=>some ([],h')
    | none=>none)=some (rest,hf):=hr
   have NB:i<=fq:=by lia
   cases z:JU n h' i with
   | none=>rw[z]at hr;cases hr
   | some o =>
    obtain⟨ps,vs,ho,hq,hbq⟩:=JW R' (g'.m n a hna) z;rw[z]at hr;cases o with
    | none =>
     cases hr;rw[dq]at hd;subst hd;refine .inl ⟨⟨vs,hq,?_⟩,bA ha (fy NB),λD hn=>zI R'.c R1.l g' Bm hn e4 e2⟩
     rw[<-hbq.length];exact jL.mp ho.symm
    | some p =>
     obtain⟨⟨o,h2⟩,e5,e6⟩:=aY hr;obtain⟨⟨r2,h3⟩,e7,e8⟩:=bj e6;cases e8;obtain⟨v,hv,bv⟩:=hbq.get ho.symm;refine .inr ⟨⟨vs,v,hq,hv⟩,nC (bA ha NB) (by decide),λx H2 ⟨hH,y⟩=>?_⟩
     subst hH;have:=y vs hq;rw[hv]at this;cases this;refine hb F' bc.ρ p h' h2 o v bG H2 _ e5 R' bv λo' oS H3 F3 R3 s3 b3=>⟨m,qF m,by lia,?_,F3,h2,done++o.toList,r2,R3,g'.trans s3,e7,by rw[<-hd,cW],(Bm.mono s3).append b3⟩
     rw[aR];cases o'<;>simp <;> lia
def JY(hg:KG L g)(hL:∀i∈L,link[i]?=some none)(h:tE X aa ab (da cl link fi (lM g fe)) σ H Q):vb link (HX X aa ab fi) (tb1 X aa ab g fe) σ H Q :=
 ve (λF2 ρ p h h' o x bG H2 Q' e R2 b2 k=>by
  obtain⟨bc,e1,e⟩:=aY e;obtain⟨r,e2,e⟩:=aY e;obtain⟨⟨a,hh⟩,e3,e4⟩:=bj e;cases e4;obtain⟨M6,rfl,rfl⟩:=zD e3;obtain⟨l1,k1⟩:=hg _ _ _ e1;refine⟨F2,_,p,bc,R2,b2,e1,λoS H3 F3 R3 s3 Y hY=>⟨F3,bc,by grind,_,e2,λv H4 F4 R4 s4 b4=>?_⟩⟩
  rw[hY]at R4 b4;exact k (some v) oS H4 F4 ⟨R4.c,(R3.l.mono s4).back (l1.symm.trans R3.l.len) rfl k1 hL⟩ (s3.trans s4) (.cons b4 .nil)) h
def JZ(hg:KG L g)(hL:∀i∈L,link[i]?=some none)(h:tE X aa ab (da cl link fi (jB g ft fe)) σ H Q):vb link (HX X aa ab fi) (tb2 X aa ab g ft fe) σ H Q :=
 ve (λF2 ρ p h h' o x bG H2 Q' e R2 b2 k=>by
  obtain⟨bc,e1,e⟩:=aY e;obtain⟨r,e2,e⟩:=aY e;obtain⟨l1,k1⟩:=hg _ _ _ e1;refine⟨F2,_,p,bc,R2,b2,e1,λoS H3 F3 R3 s3 Y hY=>⟨F3,bc,by grind,r,e2,?_⟩⟩
  match r,e with
  | (.ok b,d0),e =>
   intro b' H4 F4 R4 s4 eb;cases eb;cases b with
   | true =>
    have e:=e;obtain⟨r,e5,e⟩:=aY e;obtain⟨⟨a,hh⟩,e6,e7⟩:=bj e;cases e7;obtain⟨M6,rfl,rfl⟩:=zD e6;rw[if_pos rfl];refine⟨F4,d0,R4,_,e5,λv H5 F5 R5 s5 b5=>?_⟩
    rw[hY]at R5 b5;exact k (some v) oS H5 F5 ⟨R5.c,(R3.l.mono (s4.trans s5)).back (l1.symm.trans R3.l.len) rfl k1 hL⟩ (s3.trans (s4.trans s5)) (.cons b5 .nil)
   | false =>
    have e:=e;cases e;rw[hY]at R4;exact k none oS H4 F4 ⟨R4.c,(R3.l.mono s4).back (l1.symm.trans R3.l.len) rfl k1 hL⟩ (s3.trans s4) .nil) h
end
end L2.U
namespace PySem
open PyProof.Rows
def Raw(h:Heap)(a:Addr)(es:Array DictEntry)(ep:Nat):Prop:=∃o,h.get? a=some o/\o.ExactDict/\o.data=.dict es ep
section
variable {prog:Program} {w:World} {A:Around} {E:Value->Shared->Prop} {s:Shared} {it d:Addr} {i ep:Nat} {es:Array DictEntry}
def zJ{Q:Value->Shared->Prop}(hd:(d==sysModules)=false)(hr:Raw s.heap d es ep)
  (q:Q (.ref s.heap.objs.size) {s with heap:=s.heap.push {cls:=.type "dict_keyiterator",data:=.fields #[.ref d,.int 0 0,.int es.size 0,.int ep 0]}}):wpAny (model prog w) A (pyIter (.ref d)) Q E s:=by
 obtain⟨o,ho,hc,hx⟩:=hr;have hT:s.TypeIs (.ref d) "dict":=⟨o,ho,hc.1⟩;refine BW hT F.slot_dict_iter (fN F.slot_dict_iter hT F.entry_dict_iter ?_ (F.args_dict_iter_1 _));unfold Builtin.«dict.__iter__» Builtin.Dict.dictSlotNone Builtin.Dict.showsAll;refine af (af (BH hT (show wpAny _ _ (pure (Value.ref d)) _ _ s from aj ?_)))
 show wpAny _ _ ((if(d==sysModules)=true then _ else _) >>= _) _ _ s
 rw[if_neg (by rw[hd];exact c9)]
 refine af (aj (af (qE ho hx (af (wpAny_dictEpoch ho hx ?_)))));exact af (fM (aj ⟨_,rfl,"dict_keyiterator",_,⟨_,bX _ rfl,rfl⟩,Bv.lookup,q⟩))
def mE{Q:Option Value->Shared->Prop}(hh:A.handled=none)(oZ:s.heap.IsKeyIter it d i es.size ep)(hr:Raw s.heap d es ep)
  (h1:∀e,es[i]?=some e->∀h',h'.IsKeyIter it d (i+1) es.size ep->Heap.SameBut it s.heap h'->Q (some e.key) {s with heap:=h'})
  (h2:es[i]?=none->∀h',Heap.ExtBut it s.heap h'->Q none {s with heap:=h'}):wpAny (model prog w) A (pyNext (.ref it)) Q E s:=by
 obtain⟨o,ho,hc,hx⟩:=id oZ;obtain⟨u,hu,_,hy⟩:=hr;have hT:=oZ.typeIs;unfold pyNext;refine af (wx (iV (name:=Str.ofString "__next__") hT Bv (fN Bv hT F.entry_dict_keyiterator_next ?_ (F.args_dict_keyiterator_next_1 _))));refine af (aj (af (af ?_)))
 first | refine af (Bu hT (aj ?_)) | refine af (Bz hT (aj ?_))
 refine af (wpAny_fieldsOf ho hx ?_);simp only[show Builtin.Dict_items.ownsTuple "dict_keyiterator"=false by decide,nA,gu]
 show wpAny _ _ (if(Value.ref d==Value.none)=true then _ else _) _ _ s
 rw[if_neg (show ¬((Value.ref d==Value.none)=true)from c9)]
 refine af (aj (af (qE hu hy ?_)));rw[if_neg (by simp)]
 refine af (aj (af (wpAny_dictEpoch hu hy ?_)));rw[if_neg (by simp)]
 refine aj ?_;cases he:es[i]? with
 | some e =>
  simp only[show ¬((i:Int)<0)from by lia,gu,er,he]
  refine af ?_
  first | refine af (Bu hT (aj ?_)) | refine af (Bz hT (aj ?_))
  refine af (wpAny_isOneOf_keyiter hT ?_);show wpAny _ _ (setField (.ref it) 1 (rawInt ((i:Int)+1)) >>= _) _ _ s;refine af (lA ho hx (by simp) ?_)
  have k:(s.heap.update it (Obj.mapFields (·.setIfInBounds 1 (rawInt ((i:Int)+1))))).IsKeyIter it d (i+1) es.size ep :=
   ⟨_,jO _ ho (vY (jR hx _)),(vZ ..).trans hc,by rw[jR hx];simp[rawInt]⟩
  refine af (ez (af (wpAny_isOneOf_keyiter (s:={s with heap:=s.heap.update it (Obj.mapFields (·.setIfInBounds 1 (rawInt ((i:Int)+1))))}) k.typeIs ?_)))
  exact show wpAny _ _ (pure e.key) _ _ _ from aj (aj ⟨_,rfl,aj (h1 e he _ k (iX ..))⟩)
 | none =>
  simp only[show ¬((i:Int)<0)from by lia,gu,er,he]
  refine af ?_
  first | refine af (Bu hT (aj ?_)) | refine af (Bz hT (aj ?_))
  show wpAny _ _ (setField (.ref it) 0 .none >>= _) _ _ s;refine af (lA ho hx (by simp) ?_)
  show wpAny _ _ (newExc (.type "StopIteration") [] >>= _) _ _ _;refine af ?_;simp only[newExc,newTuple];refine af (fM ?_ (by size_fits))
  refine af (m:=firstArgMember _ _) (wB (a:=Value.none) (by first | rfl | (simp only[firstArgMember];rfl)) (fM ?_ (by size_fits)))
  simp only[raiseNew];refine af (wpAny_handled ?_);rw[show A.in1.handled=none from hh]
  refine af (aj (wpAny_throw ?_));refine af (wa (T:="StopIteration") (b:=true) ⟨_,bX _ rfl,rfl⟩ isSubtype_stop ?_);exact aj (h2 he _ (((iX ..).extBut.push _).push _))
end
end PySem
namespace L2.U
open PySem PySem.Spec PyProof.Rows
abbrev EnT(P:Program)(w:World)(es:Array DictEntry)(xs:List (List bz×Addr×Value)):Prop:=es.toList=xs.map (entryOfKey (tupleKind (cf P w)))
noncomputable def HY(a:Addr)(es:Array DictEntry)(ep:Nat):HO:=.ext λh=>Raw h a es ep
def Itd(a:Addr)(es:Array DictEntry)(ep:Nat)(xs:List (List bz×Addr×Value)):It :=
 ⟨λi H=>H a=some (HY a es ep)/\i<xs.length,λi H x H'=>H'=H/\∃z,xs[i]?=some z/\x=.ref z.2.1,λi H=>H a=some (HY a es ep)/\xs.length<=i⟩
def J0{P:Program}{w:World}{K:W.Frag}{tg:Expr}(a it:Addr)(es:Array DictEntry)(ep:Nat)(hx:EnT P w es xs):Turn P w K tg (Itd a es ep xs) [it] it (λi h=>h.IsKeyIter it a i es.size ep) where
 mem:=by simp
 obj:=λi h st b hb=>by
  rw[aB]at hb;subst hb;obtain⟨o,e,c,d⟩:=st;exact⟨o,e,λv z=>by rw[d]at z;cases z⟩
 keep:=λi h h' st k=>st.at λo e=>k it (by simp) o e
 item:=by
  intro X hP hw hK hc i ae s σ H E I hf st hg;subst hP hw hK;obtain⟨ha,hi⟩:=hg;obtain⟨f0,f1,f2,f3,f4,f5⟩:=hf it (by simp)
  have ee:es[i]?=some (entryOfKey (tupleKind (cf X.prog X.w)) xs[i]):=by rw[entry_at hx,bW hi];rfl
  refine mE (I.ok.hd hc) st (I.hok a _ ha).1 (λe he h' oZ hs=>?_) λz=>by rw[ee]at z;cases z
  cases ee.symm.trans he;have I1:Inv X ae σ H {s with heap:=h'}:=I.turned (λb o hb e=>hs.extBut b o hb e) f0 f1 f3 f4 f5
  obtain⟨o,ho,Ee,hd⟩:=id oZ;exact⟨_,rfl,yW ho Ee hd (by decide) ⟨.ref xs[i].2.1,H,I1,rfl,⟨rfl,_,bW hi,rfl⟩,oZ,λb hb=>(hf b hb).1⟩⟩
 done:=by
  intro X hP hw hK hc i ae s σ H E I hf st hg;subst hP hw hK;obtain⟨ha,hi⟩:=hg;obtain⟨f0,f1,f2,f3,f4,f5⟩:=hf it (by simp)
  refine mE (I.ok.hd hc) st (I.hok a _ ha).1 (λe he h' oZ hs=>?_) λ_ h' eb=>⟨rfl,I.turned (λb o hb e=>eb b o hb e) f0 f1 f3 f4 f5⟩
  rw[entry_at hx,jP hi]at he;cases he
 self:=λ_ _ _ _ _ st h=>wpAny_pyIter_keyiter st h
section
variable {X:Cx} {tg:Expr}
abbrev DxT(X:Cx)(a:Addr)(es:Array DictEntry)(xs:List (List bz×Addr×Value)):Prop:=EnT X.prog X.w es xs/\(xs.map (·.1)).Nodup/\xs.length<=sizeLine/\(a==sysModules)=false
def ac5(X:Cx)(te:TE):TI:=λσ H R=>te σ H λx H1=>∃a xs,x=.ref a/\H1 a=some (.dT xs)/\∀es ep,DxT X a es xs->R (Itd a es ep xs) (cg H1 a (HY a es ep))
def Uv{l:Expr}{tl:TE}(hl:PE X l tl):PI X tg l (ac5 X tl):=by
 intro ae s σ H R I h;refine thn (hl ae s σ H _ I h) λv s1 z9=>?_
 obtain⟨x,H1,I1,r1,a,xs,rfl,ha,q⟩:=z9;cases r1;obtain⟨hz,hS,o,es,ep,d1,d2,d3,d4,d5⟩:=I1.hok a _ ha;have dd:Raw s1.heap a es ep:=⟨o,d1,d2,d3⟩;have I2:Inv X ae σ (cg H1 a (HY a es ep)) s1:=I1.write (e:=a) (by rw[ha];trivial) (.inl rfl) (λb u _ q=>q) ⟨o,d1⟩ ⟨dd,⟨o,d1⟩,λh1 h2 ⟨o',e1,e2⟩ k=>⟨o',k _ e1,e2⟩⟩
 refine zJ hS dd ?_;refine⟨s1.heap.objs.size,[s1.heap.objs.size],_,_,_,rfl,I2.kept λb o e=>aZ _ e,J0 a _ es ep d4,⟨_,bX _ rfl,rfl,rfl⟩,λb hb=>?_,q es ep ⟨d4,d5,hz,hS⟩⟩
 rw[aB]at hb;subst hb;exact I2.Cm (ay _) (I2.hok.fresh (ay _))
def Unl(X:Cx)(D:ub):ub:={D with nx:=λσ H=>D.nx σ H\/∃a xs es ep,DxT X a es xs/\H a=some (HY a es ep)/\D.nx σ (cg H a (.dT xs))}
def Uw{st:Stmt}{t:TS}(h:PS X st t):PS X st (λD σ H=>t (Unl X D) σ H):=by
 intro ae s σ H D I q;refine jX (h ae s σ H _ I q) (λf s1 z=>?_) λ_ _ z=>z
 cases f with
 | next =>
  obtain⟨bG,H',I',z | ⟨a,xs,es,ep,⟨r1,r2,r3,r4⟩,ha,z⟩⟩:=z
  ·exact⟨bG,H',I',z⟩
  ·obtain⟨o,d1,d2,d3⟩:Raw s1.heap a es ep:=(I'.hok a _ ha).1;have I2:Inv X ae bG (cg H' a (.dT xs)) s1:=I'.write (e:=a) (by rw[ha];trivial) (.inl rfl) (λb u _ q=>q) ⟨o,d1⟩ ⟨r3,r4,o,es,ep,d1,d2,d3,r1,r2⟩
   exact⟨bG,_,I2,z⟩
 | brk=>exact z
 | cont=>exact z
 | ret u=>exact z
end
def NE(H H':Hp):Prop:=∀c o,H c=some o->(∀φ,o≠.ext φ)->H' c=some o
section
variable {K:W.Frag} {H H' G G':Hp}
def NE.rd(e:NE H H')(h:Rd H a u)(hu:∀φ,u≠.ext φ):Rd H' a u:=by
 rcases h with h | ⟨o,h⟩
 ·exact .inl (e _ _ h hu)
 ·exact .inr ⟨o,e _ _ h λ_ z=>nomatch z⟩
def NE.ao(e:NE H H')(h:gU K H a xs):gU K H' a xs:=h.imp (λh=>e.rd h λ_ z=>nomatch z) id
def kG.ne(h:kG K G H a x k vs)(g:NE G G')(e:NE H H'):kG K G' H' a x k vs:=by
 cases k with
 | ao=>exact⟨h.1,e.ao h.2⟩
 | lst =>
  cases x with
  | true=>exact e _ _ h λ_ z=>nomatch z
  | false=>exact Or.imp (λh=>e.rd h λ_ z=>nomatch z) id h
 | oQ C ns =>
  obtain⟨Ca,dx,fs,h1,h2,h3,h4,h5⟩:=h;exact⟨Ca,dx,fs,h1,h2,h3,e _ _ h4 (λ_ z=>nomatch z),h5⟩
 | dU t ks =>
  cases t with
  | false =>
   obtain⟨kvs,h1,h2⟩:=h;exact⟨kvs,e _ _ h1 (λ_ z=>nomatch z),h2⟩
  | true =>
   obtain⟨xs,h1,h2,h3⟩:=h;exact⟨xs,e _ _ h1 (λ_ z=>nomatch z),λz hz=>g.ao (h2 z hz),h3⟩
mutual
theorem bO.ne{F F':Fz}(g:NE F.F F'.F)(m:F'.μ=F.μ):∀{p:PV} {v:V},bO K F p v->bO K F' p v
 | .bB,_,h=>h
 | .bl _,_,h=>h
 | .int _,_,h=>h
 | .str _,_,h=>h
 | .ref _,_,h=>by obtain⟨a,h1,h2⟩:=h;exact⟨a,by rw[m];exact h1,h2⟩
 | .fn _,_,h=>h
 | .nd k ps,_,h=>by obtain⟨a,vs,h1,h2,h3⟩:=h;exact⟨a,vs,h1,h2.ne g g,az.ne g m h3⟩
theorem az.ne{F F':Fz}(g:NE F.F F'.F)(m:F'.μ=F.μ):∀{ps:List PV} {vs:List V},az K F ps vs->az K F' ps vs
 | [],_,h=>h
 | _::_,_,h=>by obtain⟨v,r,h1,h2,h3⟩:=h;exact⟨v,r,h1,bO.ne g m h2,az.ne g m h3⟩
end
end
def zK:aq:=⟨.ao,[]⟩
def zL(H:Hp)(a:Addr):Hp:=λb=>if b=a then none else H b
def rP(h:b≠a):zL H a b=H b:=if_neg h
section
variable {K:W.Frag} {aa H:Hp} {ab F F':Fz} {st:cx} {σ:St} {a:Addr} {n:Nat} {c:aq}
def QY{μ:List Addr}(hd:μ.Nodup)(h1:μ[n]?=some a)(h2:μ[m]?=some b)(hm:m≠n):b≠a:=λz=>by
 subst z;exact hm ((List.getElem?_inj (bM.mp h2).1 hd).mp (h2.trans h1.symm))
def Rep.lock(R:Rep K aa ab F st σ H)(ha:F.μ[n]?=some a)(hf:F.F a=none)(u:HO):Rep K aa ab ⟨cg F.F a u,F.μ⟩ ⟨st.ρ,st.h.set n zK⟩ σ (cg H a u)/\Gr F ⟨cg F.F a u,F.μ⟩:=by
 have g:Gr F ⟨cg F.F a u,F.μ⟩:=⟨eJ hf,λ_ _ h=>h⟩
 have h0:=(R.c.new n a ha).1;refine⟨⟨⟨λb o e=>?_,λb o e=>?_,R.c.base.trans g,λb o e=>?_,λm b e=>?_,by simp[R.c.hl],R.c.nd,λm d b hd hb hl=>?_⟩,R.l.mono g⟩,g⟩
 ·have e:cg F.F a u b=some o:=e;by_cases hb:b=a
  ·subst hb;rw[aA]at e ⊢;exact e
  ·rw[aJ hb]at e ⊢;exact R.c.sub _ _ e
 ·rw[aJ (bP e h0)];exact R.c.keep _ _ e
 ·have e:cg F.F a u b=some o:=e;by_cases hb:b=a
  ·subst hb;exact .inr h0
  ·rw[aJ hb]at e;exact R.c.fresh _ _ e
 ·obtain⟨h1,o,h2⟩:=R.c.new m b e;by_cases hb:b=a
  ·subst hb;exact⟨h1,u,aA⟩
  ·exact⟨h1,o,by rw[aJ hb];exact h2⟩
 ·by_cases hm:m=n
  ·subst hm;rw[List.getElem?_set_self' ]at hd;cases z:st.h[m]? with
   | none=>rw[z]at hd;cases hd
   | some d'=>rw[z]at hd;cases hd;cases hl
  ·rw[iW (dt hm)]at hd;have jt:=QY R.c.nd ha hb hm;obtain⟨h1,vs,h2,h3⟩:=R.c.cell m d b hd hb hl;exact⟨(aJ jt).trans h1,vs,h2.to g.s (λo e=>by rw[aJ jt];exact e) (λz=>z),h3.mono g⟩
def Rep.unlock{F1:Fz}(R:Rep K aa ab F' ⟨ρ,h⟩ σ H)(ha:F'.μ[n]?=some a)(hx:F'.F a=some (.ext φ))(g1:Gr F1 F')(hf:F1.F a=none)(b0:Gr ab F1)(hn:n<h.length)(u:HO)(hc:∀G,cG F1.F G->kG K G (cg H a u) a true c.k vs)(hv:az K F1 c.ps vs) :
  Rep K aa ab ⟨zL F'.F a,F'.μ⟩ ⟨ρ,h.set n c⟩ σ (cg H a u)/\Gr F1 ⟨zL F'.F a,F'.μ⟩:=by
 have g:Gr F1 ⟨zL F'.F a,F'.μ⟩:=⟨λb o e=>(rP (bP e hf)).trans (g1.s _ _ e),g1.m⟩
 have hne:NE F'.F (zL F'.F a):=λb o e q=>by
  by_cases hb:b=a
  ·subst hb;rw[hx]at e;cases e;exact absurd rfl (q φ)
  ·rw[rP hb];exact e
 have h0:=(R.c.new n a ha).1;have hHa:H a=some (.ext φ):=R.c.sub _ _ hx;have hnH:NE H (cg H a u):=λb o e q=>by
  by_cases hb:b=a
  ·subst hb;rw[hHa]at e;cases e;exact absurd rfl (q φ)
  ·rw[aJ hb];exact e
 refine⟨⟨⟨λb o e=>?_,λb o e=>?_,b0.trans g,λb o e=>?_,λm b e=>?_,by rw[ly];exact R.c.hl,R.c.nd,λm d b hd hb hl=>?_⟩,⟨λi p e=>?_,R.l.len⟩⟩,g⟩
 ·by_cases hb:b=a
  ·subst hb;exact nomatch (show none=some o from(if_pos rfl:zL F'.F b b=none).symm.trans e)
  ·rw[aJ hb];exact R.c.sub _ _ ((rP hb).symm.trans e)
 ·rw[aJ (bP e h0)];exact R.c.keep _ _ e
 ·by_cases hb:b=a
  ·subst hb;exact .inr h0
  ·exact R.c.fresh _ _ ((rP hb).symm.trans e)
 ·obtain⟨h1,o,h2⟩:=R.c.new m b e;by_cases hb:b=a
  ·subst hb;exact⟨h1,u,aA⟩
  ·exact⟨h1,o,by rw[aJ hb];exact h2⟩
 ·by_cases hm:m=n
  ·subst hm;rw[lb hn]at hd;cases hd;cases ha.symm.trans hb;exact⟨if_pos rfl,vs,hc _ g.s,hv.mono g⟩
  ·rw[iW (dt hm)]at hd;have jt:=QY R.c.nd ha hb hm;obtain⟨h1,ws,h2,h3⟩:=R.c.cell m d b hd hb hl;exact⟨(rP jt).trans h1,ws,h2.ne hne hnH,az.ne (F:=F') (F':=⟨zL F'.F a,F'.μ⟩) hne rfl h3⟩
 ·obtain⟨v,h1,h2⟩:=R.l.av i p e;exact⟨v,h1,bO.ne (F:=F') (F':=⟨zL F'.F a,F'.μ⟩) hne rfl h2⟩
end
noncomputable def kyP:bz->PV
 | .inl i=>.int i
 | .inr x=>.str x
def ia(ks:List (List bz)):List PV:=ks.map λk=>.ao (k.map kyP)
noncomputable def unD(n:Nat)(c:aq):Rs dE×cx->Option (Rs dE×cx)
 | (.ok .nx,st)=>if n<st.h.length then some (.ok .nx,⟨st.ρ,st.h.set n c⟩)else none
 | (.ok (.rt p),st)=>some (.ok (.rt p),st)
 | _=>none
def J1:Kd->Option (List (List bz))
 | .dU true ks=>some ks
 | _=>none
def Oi(fe:Gx PV)(g:Tg)(body:Gx dE):Gx dE:=bnd fe λp st=>(mB st.h p).bind λq=>(J1 q.2.k).bind λks=>(cY g body (ia ks) ⟨st.ρ,st.h.set q.1 zK⟩).bind (unD q.1 q.2)
theorem qd{K:W.Frag}{F:Fz}:∀k:List bz,az K F (k.map kyP) (k.map kV)
 | []=>.nil
 | .inl i::k=>.cons (aG.mpr rfl) (qd k)
 | .inr x::k=>.cons (cL.mpr rfl) (qd k)
def J2{K:W.Frag}(hF:F.F a=some (HY a es ep))(hk:eX K F.F xs):Walk K F (ia (xs.map (·.1))) (Itd a es ep xs):=by
 intro aa ab F' st σ H R s i;have hH:=R.c.sub _ _ (s.s _ _ hF);unfold ia;rw[cX,bH];refine⟨λp e=>?_,λe=>⟨hH,?_⟩⟩
 ·obtain⟨y,hy,rfl⟩:=jN.mp e;refine⟨⟨hH,(bM.mp hy).1⟩,λx H' z=>?_⟩
  obtain⟨rfl,k,QZ,rfl⟩:=z;cases hy.symm.trans QZ;exact⟨F',R,Gr.refl _,cw.mpr ⟨_,_,rfl,bu s.s (hk y (dm hy)),qd _⟩⟩
 ·rw[BD]at e;exact jL.mp e
section
variable {X:Cx} {aa:Hp} {ab:Fz} {tg iter:Expr} {fe:Gx PV} {fb:Gx dE} {body:List Stmt} {pos:Pos} {D:ub}
def Ux(hp:PassesOwn (model X.prog X.w) X.A X.env X.xe)(hc:X.calm=true)(he:PE X iter (tE X aa ab fe))(hg:PG X tg (tG X.K aa ab g))(hb:PSs X body (tS X aa ab fb))
  (hs:∀x,foldedSetIterable iter X.env x=pure x:=by intro _;rfl):PS X (.For tg iter body [] pos) (tS X aa ab (Oi fe g fb)):=(Uw (IW hp hc (Uv he) hg hb hs)).imp λD σ H h=>by
 obtain⟨F,st,R,h⟩:=h;refine⟨F,st,R,h.bnd λp v F1 bc H1 R1 g1 b1 h1=>?_⟩
 obtain⟨r,e1,e2⟩:=h1;obtain⟨⟨n,c⟩,d1,e0⟩:=aY e1;clear e1;obtain⟨rfl,hc1,hl⟩:=gG d1;obtain⟨ks,d2,e1⟩:=aY e0;obtain⟨q,d3,e1⟩:=aY e1;obtain⟨a,ha,rfl⟩:=dj.mp b1;obtain⟨ck,cp⟩:=c;have d2:J1 ck=some ks:=d2;cases ck with
 | dU t jz =>
  cases t with
  | false=>cases d2
  | true =>
   cases d2;obtain⟨hf,ws,⟨xs,k1,k2,k3,k4⟩,hv⟩:=R1.c.cell n _ a hc1 ha hl;subst k3;refine⟨a,xs,rfl,k1,λes ep hx=>?_⟩
   obtain⟨R2,g2⟩:=R1.lock ha hf (HY a es ep);have hn:n<bc.h.length:=(bM.mp hc1).1;have hF:cg F1.F a (HY a es ep) a=some (HY a es ep):=aA;have wk:Walk X.K ⟨cg F1.F a (HY a es ep),F1.μ⟩ (ia (xs.map (·.1))) (Itd a es ep xs):=J2 hF λz hz=>bu g2.s (k2 z hz)
   have h2:Sa X aa ab ⟨cg F1.F a (HY a es ep),F1.μ⟩ (Unl X D) ⟨bc.ρ,bc.h.set n zK⟩ (cY g fb (ia (xs.map (·.1)))):=by
    refine⟨q,d3,?_⟩;obtain⟨f | ⟨m,C⟩,M6⟩:=q
    ·cases f with
     | nx =>
      intro F' bG H' R' g';obtain⟨hn3,e4⟩:=b6 e1;cases e4;obtain⟨R4,g4⟩:=Rep.unlock (c:=⟨.dU true (xs.map (·.1)),cp⟩) R' (g'.m n a ha) (g'.s _ _ hF) (g2.trans g') hf R1.c.base hn3 (.dT xs) (λG g9=>⟨xs,aA,λz hz=>bu g9 (k2 z hz),rfl,k4⟩) hv
      exact .inr ⟨a,xs,es,ep,hx,R'.c.sub _ _ (g'.s _ _ hF),e2 _ bG _ R4 g4⟩
     | rt p=>cases e1;exact λv F' H' C' g' b'=>e2 v F' H' C' (g2.trans g') b'
     | bk=>cases e1
     | ct=>cases e1
    ·cases e1
   generalize hps:ia (xs.map (·.1))=ps at wk h2
   generalize hF2:(⟨cg F1.F a (HY a es ep),F1.μ⟩:Fz)=F2 at R2 wk h2
   generalize (⟨bc.ρ,bc.h.set n zK⟩:cx)=d0 at R2 h2
   refine⟨λi m bG H'=>m=ps.length-i/\i<=ps.length/\∃F' cC,Rep X.K aa ab F' cC bG H'/\Gr F2 F'/\Sa X aa ab F' (Unl X D) cC (cY g fb (ps.drop i)),⟨ps.length,by simp,dI _,F2,d0,R2,Gr.refl _,h2⟩,?_⟩
   rintro i m bG H' ⟨rfl,hi,F',cC,R',s',hr⟩
   obtain⟨wg,YT⟩:=wk aa ab F' cC bG H' R' s' i;by_cases fx:i<ps.length
   ·obtain⟨go,wy⟩:=wg ps[i] (bW fx);rw[qx fx]at hr;refine .inr ⟨go,λyY H2=>∃YV d0,Rep X.K aa ab YV d0 yY H2/\Gr F2 YV/\Sa X aa ab YV (Unl X D) d0 (cY g fb (ps.drop (i+1))),λyY H2 n2=>⟨ps.length-(i+1),by lia,rfl,fx,n2⟩,λx H2 y=>?_⟩
    obtain⟨YV,R2,s2,b2⟩:=wy x H2 y;obtain⟨r,e1,e2⟩:=At.bnd hr;obtain⟨QW,e3,e4⟩:=bj e1;subst e4;refine⟨YV,cC,ps[i],QW,R2,b2,e3,λoS H3 F3 R3 s3=>⟨F3,QW,R3,?_⟩⟩
    exact Sa.lG _ (λF4 HV NQ H4 R4 g4 z=>⟨F4,HV,R4,(s'.trans (s2.trans s3)).trans g4,z⟩) (Sa.mono (e2) (s2.trans s3))
   ·have e:i=ps.length:=by lia
    subst e;rw[BZ]at hr;exact .inl ⟨YT (jP (ay _)),At.aX hr F' bG H' R' (Gr.refl _)⟩
 | _=>cases d2
end
def EJ{P:Program}{w:World}{H':Hp}{h1 h5 B:Heap}(x:lF P w H' h1)(hB:∀b o,H' b=some o->∃ob,B.get? b=some ob)(k1:B.StaysIn h1)(k5:B.StaysIn h5):lF P w H' h5:=λa o e=>by
 have keep:∀b u o',H' b=some o'->h1.get? b=some u->h5.get? b=some u:=λb u o' eb q=>by
  obtain⟨ob,hob⟩:=hB b o' eb;have:=k1 b ob hob;rw[q]at this;cases this;exact k5 b _ hob
 refine(x a o e).wG (λb u hb q=>?_) (λ_ q=>q) (λ_ _ q=>q) λ_ _ _ q=>q
 rcases hb with rfl | hb
 ·exact keep _ _ _ e q
 ·exact keep _ _ _ hb q
def J3{l:List Env}{H H':Hp}{h h1 h5 B B':Heap}(u:Un (nW l) [] H H' h h1)(sm:Dm H H')(hB:∀b o,H' b=some o->∃ob,B.get? b=some ob)(hU:∀b ob,h.get? b=some ob->H b=none->b∉nW l->B.get? b=some ob)
  (k5:B.StaysIn h5) (fr:h1.FunFrames B' l) (up:h1.UpToSlots h5):Un (nW l) [] H H' h h5:=by
 have slot:∀b o,h.get? b=some o->H b=none->b∈nW l->∃sl,h5.get? b=some {o with slots:=sl}:=λb o q n hb=>by
  obtain⟨sl,e⟩:=u.slot b o q n hb (by simp)
  obtain⟨_,o',nh,hd⟩:=fr.mem hb;rw[e]at nh;cases nh;obtain⟨Xi,e'⟩:=up b _ e hd;exact⟨Xi,e'⟩
 refine⟨λb o q n hb _=>k5 b o (hU b o q n hb),λb o q n hb _=>slot b o q n hb,u.free,λb o q hx=>?_,u.tups,u.frzs,u.tbls⟩
 cases z:H b with
 | none =>
  by_cases hb:b∈nW l
  ·grind
  ·exact⟨o,k5 b o (hU b o q z hb)⟩
 | some v =>
  obtain⟨v',z'⟩:=sm b v z;obtain⟨ob,hob⟩:=hB b v' z';exact⟨ob,k5 b ob hob⟩
def GS{P:Program}{w:World}{H:Hp}{h:Heap}{a:Addr}{o:HO}(x:fG P w H h a o):∃ob,h.get? a=some ob:=by
 cases o with
 | lst xs=>obtain⟨_,_,_,_,e⟩:=x;exact⟨_,e⟩
 | ao xs=>obtain⟨_,_,_,ob,e,_⟩:=x;exact⟨_,e⟩
 | dK kvs=>obtain⟨_,_,_,_,o,_,_,e,_⟩:=x;exact⟨_,e⟩
 | dT kvs=>obtain⟨_,_,o,_,_,e,_⟩:=x;exact⟨_,e⟩
 | set S n=>obtain⟨o,_,_,_,e,_⟩:=x;exact⟨_,e⟩
 | oQ C dx fs=>obtain⟨_,_,_,e,_⟩:=x;exact⟨_,e⟩
 | own y=>obtain⟨_,e⟩:=x;exact⟨_,e⟩
 | xd fs=>obtain⟨_,⟨_,_,_,e,_⟩,_⟩:=x;exact⟨_,e⟩
 | rng lo hi=>obtain⟨_,_,_,e⟩:=x;exact⟨_,e⟩
 | oR ob u=>obtain⟨e,_⟩:=x;exact⟨_,e⟩
 | Cd q=>obtain⟨_,e,_⟩:=x;exact⟨_,e⟩
 | met f y=>exact⟨_,show h.get? a=some _ from x⟩
 | ext φ=>obtain⟨_,⟨_,e⟩,_⟩:=x;exact⟨_,e⟩
section
variable {P:Program} {w:World} {K:W.Frag} {mg:Str->Option Value} {base:Heap} {N:List Str} {qual:Str} {scope:Scope} {f:Addr} {cd:Value} {A:Around} {ax:List Env} {s:Shared} {H:Hp} {E E1:XK} {ae:List (Addr×Obj)} {σ:St} {H1:Hp} {s1 s':Shared} {e:Value}
def EK(I:Inv (fg (iH P w) P w K mg base N qual scope f cd A ax s H E) ae σ H1 s1){b:Addr}{ob:Obj}(q:s.heap.get? b=some ob)(hb:b∉nW ax):b∉nW (envOfC qual scope s.heap.objs.size f cd::ax):=λhm=>by
 rcases aD.mp (I.wH b hm)with z | z
 ·exact absurd (aW q) (by rw[z];exact gK _)
 ·exact hb z
def zM(I:Inv (fg (iH P w) P w K mg base N qual scope f cd A ax s H E) ae σ H1 s1)(h:iH P w (envOfC qual scope s.heap.objs.size f cd::ax) H1 s1 E1 e s')(hE:∀cls H2,E1 cls none H2->Dm H H2/\E cls none H2) :
  (fg (iH P w) P w K mg base N qual scope f cd A ax s H E).xe e s':=by
 obtain⟨a,cls,a0,B,H2,rfl,Mr,hb,un,hok,sm,he,Uy,hB,hU⟩:=h;obtain⟨YW,hE⟩:=hE cls H2 he;have I2:=I.P7 Mr un hok hb (λb z=>absurd z (by simp))
 refine wpAny_leaves_onW I.ok.frames rfl Uy λh' Uz up=>?_
 have hU':∀b ob,s.heap.get? b=some ob->H b=none->b∉nW ax->B.get? b=some ob:=λb ob q n hb=>hU b ob (I.base.keep b ob q n hb (by simp[fg])) (I.base.free b ob q n (by simp[fg])) (EK I q hb)
 exact⟨a,cls,a0,B,H2,rfl,Mr.trans I.os,hb,J3 I2.base YW hB hU' Uz.1 Uy.2.2.1.2.2 up,EJ hok hB Uy.1 Uz.1,YW,hE,Uz,hB,hU'⟩
def EL{h1:Heap}{a:Addr}{cls:Value}{vs:List Value}(I:Inv (fg (iH P w) P w K mg base N qual scope f cd A ax s H E) ae σ H1 s1)(hm:Heap.MadeExcOf s1.heap h1 a cls vs)(YW:Dm H H1)(hE:E cls none H1) :
  (fg (iH P w) P w K mg base N qual scope f cd A ax s H E).xe (.ref a) {s1 with heap:=h1}:=by
 have hB:∀b o,H1 b=some o->∃ob,(W.hideAll s1.heap (nW (envOfC qual scope s.heap.objs.size f cd::ax))).get? b=some ob:=λb o e=>by
  obtain⟨ob,q⟩:=GS (I.hok b o e);exact⟨ob,W.hideAll_get _ q λhb=>by
   have:=I.wI b hb;rw[e]at this;cases this⟩
 have hU:∀b ob,s.heap.get? b=some ob->H b=none->b∉nW ax->(W.hideAll s1.heap (nW (envOfC qual scope s.heap.objs.size f cd::ax))).get? b=some ob:=λb ob q n hb =>
  W.hideAll_get _ (I.base.keep b ob q n hb (by simp[fg])) (EK I q hb)
 refine wpAny_leaves_madeW I.ok.frames rfl (λb o q=>W.of_hideAll _ q) (W.funFrames_hide I.stack λenv he b hb=>qC.mpr ⟨env,he,hb⟩) hm λh' t Uy ao tn up=>?_
 refine⟨a,cls,.ref t,_,H1,rfl,I.os,I.bare,J3 (I.base.trans (Un.kept hm.keeps)) YW hB hU Uy.1 (I.funs.of_keeps λb o q _=>⟨o,hm.keeps b o q,rfl⟩) up,EJ (I.hok.kept hm.keeps) hB (λb o q=>hm.keeps b o (W.of_hideAll _ q)) Uy.1,YW,hE,Uy,hB,hU⟩
end
def CZ(K:W.Frag)(f:Addr)(cS:Value):Prop:=∃oc od fd yB,K.lookup f=some ⟨oc,od,.func fd,yB⟩/\fd.code=cS
def Oj{P:Program}{w:World}{K:W.Frag}{mg:Str->Option Value}{base:Heap}{x qual:Str}{st:Stmt}{f:Addr}{fd:FuncData}{N ps:List Str}{k:Nat}{sp:Sp}(F:Cf K x qual st f fd)(S:dD N ps (aw st))(len:∀vs H Q E,sp vs H Q E->vs.length=ps.length)
  (hbody:∀(cS:Value) (A:Around) (ax:List Env) (s:Shared) (H:Hp) (vs:List V) (Q:VK) (E:XK),CZ K f cS->dG k (A.deeper (envOfC qual (aw st) s.heap.objs.size f cS))->sp vs H Q E ->
   ∃t,PSs (fg (iH P w) P w K mg base N qual (aw st) f cS A ax s H E) (dh st) t/\t {nx:=λ_ H'=>Q .bB H',rt:=Q} (start N vs) H):FnOk P w K mg base (iH P w) (k+1) f fd ps sp:=by
 obtain⟨oc,od,kV,doc,pm,an,cS,ct,yB,rfl,lk,Eb⟩:=F.ex;exact Jg lk Eb S len λA ax s H vs Q E hr Nq=>hbody cS A ax s H vs Q E ⟨oc,od,_,yB,lk,rfl⟩ hr Nq
def pO(H:Hp)(μ:List Addr):Hp:=λb=>if b∈μ then none else H b
section
variable {K:W.Frag} {aa H H':Hp} {ab F F':Fz} {h h':List aq}
def GU{μ:List Addr}{b:Addr}{o:HO}(e:pO H μ b=some o):H b=some o/\b∉μ:=by
 unfold pO at e;split at e
 ·cases e
 ·grind
def GV{μ:List Addr}{b:Addr}(e:pO H μ b=none):H b=none\/b∈μ:=by
 unfold pO at e;split at e
 ·grind
 ·grind
def kx.enter(C:kx K aa ab F h H):kx K (pO H F.μ) F F h H/\∀b o,H b=some o->pO H F.μ b=some o\/∃n:Nat,F.μ[n]?=some b:=by
 refine⟨⟨C.sub,λb o e=>(GU e).1,Gr.refl F,λa o e=>.inl e,λn a e=>⟨if_pos (dm e),(C.new n a e).2⟩,C.hl,C.nd,C.cell⟩,λb o e=>?_⟩
 by_cases hb:b∈F.μ
 ·obtain⟨n,hn⟩:=qz.mp hb;exact .inr ⟨n,hn⟩
 ·exact .inl (by unfold pO;rw[if_neg hb];exact e)
def kx.leave(C:kx K aa ab F h H)(D:kx K (pO H F.μ) F F' h' H'):kx K aa ab F' h' H':=by
 have none_of:∀a,pO H F.μ a=none->aa a=none:=λa e=>by
  rcases GV e with z | z
  ·exact C.keep.free z
  ·obtain⟨n,hn⟩:=qz.mp z;exact(C.new n a hn).1
 refine⟨D.sub,λb o e=>D.keep b o ?_,C.base.trans D.base,λa o e=>?_,λn a e=>⟨none_of a (D.new n a e).1,(D.new n a e).2⟩,D.hl,D.nd,D.cell⟩
 ·unfold pO;rw[if_neg λhb=>?_]
  ·exact C.keep b o e
  ·obtain⟨n,hn⟩:=qz.mp hb;rw[(C.new n b hn).1]at e;cases e
 ·rcases D.fresh a o e with z | z
  ·exact C.fresh a o z
  ·grind
end
abbrev oi:=List PV->List aq->Option (Rs PV×List aq)
def UA(K:W.Frag)(aa:Hp)(F:Fz)(h':List aq)(Q:VK)(E:XK):Rs PV->Prop
 | .ok p=>∀v F' H',kx K aa F F' h' H'->bO K F' p v->Q v H'
 | .ex _ C=>∀cls F' H',kx K aa F F' h' H'->ClsAt K C cls->E cls none H'
def GW(K:W.Frag)(n:Nat)(f:oi):Sp:=λvs H Q E=>∃aa F h ps r h',kx K aa F F h H/\(∀b o,H b=some o->aa b=some o\/∃n:Nat,F.μ[n]?=some b)/\az K F ps vs/\ps.length=n/\f ps h=some (r,h')/\UA K aa F h' Q E r
noncomputable def gy(n:Nat)(ps:List PV):List (Option PV):=ps.map some++List.replicate (n-ps.length) none
noncomputable def YX:Rs dE×cx->Option (Rs PV×List aq)
 | (.ok (.rt p),st)=>some (.ok p,st.h)
 | (.ok .nx,st)=>some (.ok .bB,st.h)
 | (.ex m C,st)=>some (.ex m C,st.h)
 | _=>none
def dQ(fb:Gx dE)(n:Nat):oi:=λps h=>(fb ⟨gy n ps,h⟩).bind YX
def zN{K:W.Frag}{F:Fz}{ps:List PV}{vs:List V}{N:List Str}(b:az K F ps vs):Lc K F (gy N.length ps) (start N vs) where
 av:=λi p e=>by
  unfold gy at e;unfold start;by_cases hi:i<ps.length
  ·rw[fJ (by simpa using hi),bH]at e
   cases z:ps[i]? with
   | none=>rw[z]at e;cases e
   | some q =>
    rw[z]at e;cases e;obtain⟨v,h1,h2⟩:=b.get z;refine⟨v,?_,h2⟩;rw[fJ (by simpa using (b.length▸hi)),bH,h1]
    rfl
  ·rw[iU (by simpa using hi),List.getElem?_replicate]at e
   split at e<;>cases e
 len:=by unfold gy start;simp[b.length]
def EM{K:W.Frag}{aa H H':Hp}{F F':Fz}{h':List aq}(full:∀b o,H b=some o->aa b=some o\/∃n:Nat,F.μ[n]?=some b)(D:kx K aa F F' h' H'):Dm H H':=λb o e=>by
 rcases full b o e with z | ⟨n,hn⟩
 ·exact⟨o,D.keep b o z⟩
 ·exact(D.new n b (D.base.m n b hn)).2
def J4{P:Program}{w:World}{K:W.Frag}{mg:Str->Option Value}{base:Heap}{x qual:Str}{st:Stmt}{f:Addr}{fd:FuncData}{N ps:List Str}{k:Nat}{fb:Gx dE}(F:Cf K x qual st f fd)(S:dD N ps (aw st))
  (hbody:∀(cS:Value) (A:Around) (ax:List Env) (s:Shared) (H:Hp) (E:XK),CZ K f cS->dG k (A.deeper (envOfC qual (aw st) s.heap.objs.size f cS))->∀(aa:Hp) (ab:Fz),
   PSs (fg (iH P w) P w K mg base N qual (aw st) f cS A ax s H E) (dh st) (tS (fg (iH P w) P w K mg base N qual (aw st) f cS A ax s H E) aa ab fb)):FnOk P w K mg base (iH P w) (k+1) f fd ps (GW K ps.length (dQ fb N.length)):=by
 refine Oj F S (by rintro vs H Q E ⟨_,_,_,_,_,_,_,_,b,hl,_⟩;rw[<-b.length];exact hl) λcS A ax s H vs Q E TK hr z9=>?_
 obtain⟨aa,F,h,as,r,h',C,full,b,hl,hf,res⟩:=z9;refine⟨_,hbody cS A ax s H E TK hr aa F,F,⟨gy N.length as,h⟩,⟨C,zN b⟩,?_⟩;obtain⟨q,e1,e2⟩:=aY hf;refine⟨q,e1,?_⟩;rcases q with⟨f | ⟨m,c⟩,st⟩
 ·cases f with
  | rt=>cases e2;exact λv F' H' C' g b'=>res v F' H' C' b'
  | nx=>cases e2;exact λF' bG H' R g=>res .bB F' H' R.c (di.mpr rfl)
  | _=>cases e2
 ·cases e2;cases m with
  | true=>exact λF' bG H' ae s1 h1 a cls vs R sf I hc hm=>EL I hm (EM full R.c) (res cls F' H' R.c hc)
  | false=>exact λbG ae H1 s1 e s' I h=>zM I h (by rintro cls H2 ⟨hc,F',R,sf⟩;exact⟨EM full R.c,res cls F' H2 R.c hc⟩)
mutual
def noRef:PV->Bool
 | .ref _=>false
 | .nd _ ps=>ai ps
 | _=>true
def ai:List PV->Bool
 | []=>true
 | p::ps=>noRef p&&ai ps
end
section
variable {K:W.Frag} {F:Fz} {μ:List Addr}
mutual
theorem bO.any:∀{p:PV} {v:V},noRef p=true->bO K F p v->bO K ⟨F.F,μ⟩ p v
 | .bB,_,_,b=>di.mpr (di.mp b)
 | .bl _,_,_,b=>bZ.mpr (bZ.mp b)
 | .int _,_,_,b=>aG.mpr (aG.mp b)
 | .str _,_,_,b=>cL.mpr (cL.mp b)
 | .fn _,_,_,b=>rj.mpr (rj.mp b)
 | .ref _,_,h,_=>by simp[noRef]at h
 | .nd k ps,_,h,b=>by
  obtain⟨a,vs,h1,h2,h3⟩:=jc.mp b;exact jc.mpr ⟨a,vs,h1,h2,az.any h h3⟩
theorem az.any:∀{ps:List PV} {vs:List V},ai ps=true->az K F ps vs->az K ⟨F.F,μ⟩ ps vs
 | [],_,_,b=>by rw[b.cO];exact .nil
 | _::_,_,h,b=>by
  simp only[ai,aV]at h;obtain⟨v,r,rfl,b1,b2⟩:=b.cj;exact .cons (b1.any h.1) (az.any h.2 b2)
end
end
def o8(h:List aq):Nat->PV->Option PV
 | 0,p=>if noRef p=true then some p else none
 | n+1,p=>if noRef p=true then some p else match p with
  | .ref m=>(h[m]?).bind λc=>if live c=true then(cJ (o8 h n) c.ps).map (.nd c.k)else none
  | .nd k ps=>(cJ (o8 h n) ps).map (.nd k)
  | _=>none
open Classical in
noncomputable def kN (F:Fz) (h:List aq) (H:Hp):Hp:=λa=>match F.F a with
 | some o=>some o
 | none=>if(∃(n:Nat) (c:aq),F.μ[n]?=some a/\h[n]?=some c/\live c=true)then H a else none
section
variable {K:W.Frag} {aa H:Hp} {ab F:Fz} {h:List aq}
def iK{a:Addr}{o:HO}(e:F.F a=some o):kN F h H a=some o:=by unfold kN;rw[e]
def GX{a:Addr}{n:Nat}{c:aq}(e:F.F a=none)(h1:F.μ[n]?=some a)(h2:h[n]?=some c)(h3:live c=true):kN F h H a=H a:=by
 unfold kN;rw[e];exact if_pos ⟨n,c,h1,h2,h3⟩
def zO{a:Addr}{o:HO}(e:kN F h H a=some o):F.F a=some o\/(H a=some o/\∃n:Nat,F.μ[n]?=some a):=by
 unfold kN at e;split at e
 ·grind
 ·split at e
  ·grind
  ·cases e
def kx.o8(C:kx K aa ab F h H)(μ:List Addr):∀(n:Nat) (p q:PV) (v:V),o8 h n p=some q->bO K F p v->bO K ⟨kN F h H,μ⟩ q v:=by
 have keep:∀{p:PV} {v:V},noRef p=true->bO K F p v->bO K ⟨kN F h H,μ⟩ p v:=λhn b =>
  bO.mono (F:=⟨F.F,μ⟩) (F':=⟨kN F h H,μ⟩) ⟨λb o e=>iK e,λ_ _ e=>e⟩ (b.any hn)
 intro n;induction n with
 | zero =>
  intro p q v e b;obtain⟨hn,rfl⟩:=aN e;exact keep hn b
 | succ n ih =>
  intro p q v e b;unfold U.o8 at e;split at e
  ·grind
  ·have list:∀(ps qs:List PV) vs,cJ (U.o8 h n) ps=some qs->az K F ps vs->az K ⟨kN F h H,μ⟩ qs vs:=by
    intro ps;induction ps with
    | nil=>intro qs vs e b;cases e;rw[b.cO];exact .nil
    | cons p ps ih2 =>
     intro qs vs e b;obtain⟨y,r,e1,e2,rfl⟩:=fP e;obtain⟨v,w,rfl,b1,b2⟩:=b.cj;exact .cons (ih p y v e1 b1) (ih2 r w e2 b2)
   split at e
   ·obtain⟨c,e1,e⟩:=aY e;obtain⟨hl,e⟩:=b6 e;obtain⟨qs,e2,rfl⟩:=bj e;obtain⟨a,h1,h2⟩:=dj.mp b;obtain⟨hF,vs,h3,h4⟩:=C.cell _ c a e1 h1 hl;exact jc.mpr ⟨a,vs,h2,h3.to (λb o e=>iK e) (λo e=>by rw[show(Fz.mk (kN F h H) μ).F a=kN F h H a from rfl,GX hF h1 e1 hl];exact e) (λz=>by cases z),list _ _ _ e2 h4⟩
   ·obtain⟨qs,e2,rfl⟩:=bj e;obtain⟨a,vs,h1,h2,h3⟩:=jc.mp b;exact jc.mpr ⟨a,vs,h1,h2.to (λb o e=>iK e) (λo e=>iK e) id,list _ _ _ e2 h3⟩
   ·cases e
end
section
variable {X:Cx} {aa:Hp} {ab:Fz} {e:Expr} {es:List Expr} {ts:Gx (List PV)} {pos p:Pos} {k n:Nat} {f:Addr} {fd:FuncData} {ps:List Str} {x:Str} {g:oi}
def qe{CX:HS}{sp:Sp}{E:XK}{ae:List (Addr×Obj)}{σ:St}{H:Hp}{s:Shared}{Q:VK}{us:List Value}{vs:List V}(F:FnOk X.prog X.w X.K X.mg X.base CX k f fd ps sp)(hr:dG k X.A)(hb:gz X.K fd ps [])(hx:∀e s',CX X.stack H s E e s'->X.xe e s')
  (I:Inv X ae σ H s) (r:Vals vs us) (h:sp vs H Q E):wpAny (model X.prog X.w) X.A (call (.ref f) us) (EP X ae σ Q) X.xe s:=by
 have hbb:=hb s us I.qS (by rw[dq,<-r.length];exact F.len _ _ _ _ h)
 rw[dq]at hbb;refine qL (jV (F.run X.A X.stack s H ⟨us,[]⟩ us vs Q E hr I.Nl hbb r h) λr s' hq=>?_)
 cases r with
 | error e=>exact hx e s' hq
 | ok fl =>
  cases fl with
  | ret u=>exact I.after hq
  | next=>exact False.elim hq
  | brk=>exact False.elim hq
  | cont=>exact False.elim hq
noncomputable def YY:Rs PV->Rs PV
 | .ok p=>.ok p
 | .ex _ C=>.ex false C
def kO(h:List aq)(p:PV):Option PV:=if h.isEmpty=true then some p else o8 h 4 p
def UB(st:cx):Rs PV×List aq->Option (Rs PV×cx)
 | (.ok p,h)=>(kO h p).map λq=>(.ok q,st)
 | (.ex _ C,_)=>some (.ex false C,st)
def C4(n:Nat)(g:oi)(as:List PV):Gx PV:=λst=>if as.length=n then(g as st.h).map λr=>(YY r.1,⟨st.ρ,r.2⟩)else none
def oj(n:Nat)(g:oi)(as:List PV):Gx PV:=λst=>if as.length=n/\(st.h.isEmpty || ai as)=true then(g as []).bind (UB st)else none
def Ra(n:Nat)(g:oi)(ts:Gx (List PV)):Gx PV:=bnd ts (oj n g)
def Ol(X:Cx)(f:Addr)(w:List PV->Gx PV):Prop:=∀(aa H:Hp) (ab F:Fz) (st:cx) (σ:St) (ae:List (Addr×Obj)) (s:Shared) (Q:VK) (as:List PV) (us:List Value) (vs:List V),Inv X ae σ H s->Rep X.K aa ab F st σ H->az X.K F as vs->Vals vs us->Tx X aa ab (bO X.K) F st (w as) σ Q ->
 wpAny (model X.prog X.w) X.A (call (.ref f) us) (EP X ae σ Q) X.xe s
def ac6(G:FnOk X.prog X.w X.K X.mg X.base (iH X.prog X.w) k f fd ps (GW X.K n g))(hr:dG k X.A)(hb:gz X.K fd ps []):Ol X f (C4 n g):=by
 rintro aa H ab F st σ ae s Q as us vs I R b r ⟨q,e1,e2⟩
 obtain⟨hl,e1⟩:=b6 e1;obtain⟨⟨rs,h'⟩,e3,e4⟩:=bj e1;subst e4;obtain⟨C,full⟩:=R.c.enter;cases rs with
 | ok p'=>exact qe G hr hb (λe s' hx=>zf ae σ H s e s' I hx) I r ⟨_,F,st.h,as,_,h',C,full,b,hl,e3,λv F' H' D b'=>e2 v H' F' ⟨R.c.leave D,R.l.mono D.base⟩ D.base b'⟩
 | ex m c=>exact thn (qe (Q:=λ_ _=>False) G hr hb (λe s' hx=>e2 σ ae H s e s' I hx) I r ⟨_,F,st.h,as,_,h',C,full,b,hl,e3,λcls F' H' D hc=>⟨hc,F',⟨R.c.leave D,R.l.mono D.base⟩,D.base⟩⟩) (by rintro v s3 ⟨_,_,_,_,z⟩;exact z.elim)
def Rep.back{K:W.Frag}{aa H H1 H':Hp}{ab F F':Fz}{μ:List Addr}{st:cx}{σ:St}{h':List aq}(R:Rep K aa ab F st σ H)(hH:cG H H1)(D:kx K H1 ⟨F.F,μ⟩ F' h' H'):Rep K aa ab ⟨kN F' h' H',F.μ⟩ st σ H'/\Gr F ⟨kN F' h' H',F.μ⟩:=by
 have g:cG F.F (kN F' h' H'):=λb o e=>iK (D.base.s b o e)
 refine⟨R.after (hH.trans D.keep) g rfl (λb o e=>?_) (λa o e=>?_),g,λ_ _ z=>z⟩
 ·rcases zO e with z | ⟨z,_⟩
  ·exact D.sub b o z
  ·exact z
 ·rcases zO e with z | ⟨_,n,z⟩
  ·exact(D.fresh a o z).imp_right hH.free
  ·exact .inr (hH.free (D.new n a z).1)
def kx.pure{K:W.Frag}{aa H:Hp}{ab F:Fz}{h:List aq}(C:kx K aa ab F h H):kx K H ⟨F.F,[]⟩ ⟨F.F,[]⟩ [] H :=
 ⟨C.sub,cG.refl H,Gr.refl _,λa o e=>.inl e,λn a e=>by simp at e,rfl,lz,λn c a e=>by simp at e⟩
def J5{K:W.Frag}{H H':Hp}{G F':Fz}{h':List aq}{p q:PV}{v:V}(μ:List Addr)(D:kx K H G F' h' H')(e:kO h' p=some q)(b:bO K F' p v):bO K ⟨kN F' h' H',μ⟩ q v:=by
 unfold kO at e;split at e
 ·rename_i z;cases e;have e0:F'.μ=[]:=k9 (by rw[<-D.hl,v3.mp z];rfl)
  exact b.mono ⟨λb o e=>iK e,λn a e=>by rw[e0]at e;simp at e⟩
 ·exact D.o8 μ _ _ _ _ e b
def vf{K:W.Frag}{aa H:Hp}{ab F:Fz}{st:cx}{σ:St}{as:List PV}{vs:List V}(R:Rep K aa ab F st σ H)(hn:(st.h.isEmpty || ai as)=true)(b:az K F as vs)(μ:List Addr):az K ⟨F.F,μ⟩ as vs:=by
 rcases Cc _ _▸hn with z | z
 ·have e0:F.μ=[]:=k9 (by rw[<-R.c.hl,v3.mp z];rfl)
  exact az.mono (F:=F) (F':=⟨F.F,μ⟩) ⟨cG.refl _,λn a e=>by rw[e0]at e;simp at e⟩ b
 ·exact b.any z
def YZ(G:FnOk X.prog X.w X.K X.mg X.base (iH X.prog X.w) k f fd ps (GW X.K n g))(hr:dG k X.A)(hb:gz X.K fd ps []):Ol X f (oj n g):=by
 rintro aa H ab F st σ ae s Q as us vs I R b r ⟨q,e1,e2⟩
 obtain⟨⟨hl,hn⟩,e1⟩:=b6 e1;obtain⟨⟨rs,h'⟩,e3,e4⟩:=aY e1;have full:∀b o,H b=some o->H b=some o\/∃n:Nat,(Fz.mk F.F []).μ[n]?=some b:=by grind
 have b3:=vf R hn b [];cases rs with
 | ok p' =>
  obtain⟨p2,e5,e6⟩:=bj e4;subst e6;refine qe G hr hb (λe s' hx=>zf ae σ H s e s' I hx) I r ⟨H,⟨F.F,[]⟩,[],as,_,h',R.c.pure,full,b3,hl,e3,λv F' H' D b'=>?_⟩
  obtain⟨R3,g3⟩:=R.back (cG.refl _) D;exact e2 v H' _ R3 g3 (J5 F.μ D e5 b')
 | ex m c =>
  cases e4;refine thn (qe (Q:=λ_ _=>False) G hr hb (λe s' hx=>e2 σ ae H s e s' I hx) I r ⟨H,⟨F.F,[]⟩,[],as,_,h',R.c.pure,full,b3,hl,e3,λcls F' H' D hc=>?_⟩) (by rintro v s3 ⟨_,_,_,_,z⟩;exact z.elim)
  obtain⟨R3,g3⟩:=R.back (cG.refl _) D;exact⟨hc,_,R3,g3⟩
def UC{w:List PV->Gx PV}(G:Ol X f w)(hg:Gl X x)(hm:X.mg x=some (.ref f))(hk:W.keepIn X.K (.ref f)=true)(ha:PA X (e::es) (tA X aa ab ts))(Np:(x==("__debug__":Str))=false)
  (he:starEach (e::es) X.env=(false,eval e X.env)::starEach es X.env) (l8:(backTo pos (starEach es X.env)).any (·.1)=false):PE X (.Call (.Name x p) (e::es) [] pos) (tE X aa ab (bnd ts w)):=by
 rintro ae s σ H Q I ⟨F1,st,R,h⟩
 refine iY (ld_glob I hg hm ?_ Np);exact W.callWith_K I.ok.mod.kin hk (thn (ha pos ae s σ H (λvs H2=>∃F2 d0 as,Rep X.K aa ab F2 d0 σ H2/\az X.K F2 as vs/\Tx X aa ab (bO X.K) F2 d0 (w as) σ Q) I
  ⟨F1,st,R,h.bnd λas vs F2 d0 H2 R2 g2 b2 h2=>⟨F2,d0,as,R2,b2,h2⟩⟩) (by rintro us s1 ⟨vs,H2,I2,r,F2,d0,as,R2,b2,z⟩;exact⟨I2.qS,G _ _ _ _ _ _ _ _ _ _ _ _ I2 R2 b2 r z⟩)) he l8
end
end L2.U
namespace L2
open PySem PySem.Spec PyProof.Rows
section
variable {X:Cx} {ae:List (Addr×Obj)} {σ:St} {H:Hp} {s:Shared} {a b:Addr} {k:List bz} {xs:List (List bz×Addr×Value)}
theorem iL{α β:Type}(f:α->β):∀(l:List α) (i:Nat),(l.eraseIdx i).map f=(l.map f).eraseIdx i
 | [],_=>rfl
 | _::_,0=>rfl
 | x::l,i+1=>dB (f x::·) (iL f l i)
def Y0(K:W.Frag):V->List V->Hp->VK->Prop:=λx vs H Q=>∃a b xs k j p y,x=.ref a/\vs=[.ref b]/\H a=some (.dT xs)/\eX K H xs/\gU K H b (k.map kV)/\xs[j]?=some (k,p)/\RelV y p.2/\Q y (cg H a (.dT (xs.eraseIdx j)))
def UD{α β:Type}{xs:List (α×β)}{i j:Nat}{k:α}{p q:β}(hn:(xs.map (·.1)).Nodup)(h1:xs[i]?=some (k,p))(h2:xs[j]?=some (k,q)):i=j:=by
 refine(List.getElem?_inj (l:=xs.map (·.1)) ?_ hn).mp ?_
 ·rw[ak];exact(bM.mp h1).1
 ·rw[bH,bH,h1,h2];rfl
def UE(hu:X.A.units+1150<cLine):XX X "dict.pop" (Y0 X.K):=by
 intro ae s σ H x vs v us Q I rx rv h;obtain⟨a,b,xs,k,j,p,y,rfl,rfl,e,hk,eb,hj,ry,q⟩:=h;cases rx;obtain⟨u1,rfl,r1⟩:=rv.one;cases r1;obtain⟨z,hd,dd⟩:=u3 I (.inl e) hk;have hT:=dd.typeIs;obtain⟨o,es,ep,h1,h2,h3,h4,h5,h6⟩:=dd;have hes:es[j]?=some (entryOfKey (tupleKind (cf X.prog X.w)) (k,p)):=by rw[entry_at h4,hj];rfl
 have ky:=key_is I eb;have hu1:(tupleKind (cf X.prog X.w)).room X.A.in1:=qD (by lia)
 refine fN PySem.F.slot_dict_pop hT PySem.F.entry_dict_pop ?_ (PySem.F.args_dict_pop_2 _ _);unfold Builtin.«dict.pop» Builtin.Dict.keyAndDefault;refine af (af (BH hT ?_));show wpAny _ _ (pure (a,Value.ref b,none)) _ _ s;refine aj ?_;simp only[show(keyPart (Value.ref b)).isSome=false from rfl,nA,gu]
 refine af (qE h1 h3 (af (aj ?_)));have hne:es.isEmpty=false:=by
  rw[Array.isEmpty_eq_false_iff]
  rintro rfl
  simp at hes
 rw[hne];simp only[nA,gu];refine af ?_;unfold Builtin.Dict.takeOut
 try with_reducible refine ez ?_
 refine af ((tupleKind (cf X.prog X.w)).pyHash hu1 ky (af (wpAny_dictFind_heap (s:={s with toks:=s.toks+(tupleKind (cf X.prog X.w)).draws k}) hu1 ky h1 h3 h4 h5 h6 (λXT=>absurd hj (XT j p)) λj' p' hj'=>?_)))
 cases UD h6 hj hj';refine af (qE (s:={s with toks:=s.toks+(tupleKind (cf X.prog X.w)).draws k}) h1 h3 ?_)
 rw[hes];refine af (wpAny_updateDictKeys (hz:=by rw[size_of_entries h4];exact z) (s:={s with toks:=s.toks+(tupleKind (cf X.prog X.w)).draws k}) h1 h3 (aj ?_))
 simp only[Option.isNone_some,nA,gu];refine af (wpAny_letGo (aj ⟨_,rfl,y,_,I.write (x:=a) (e:=a) (o:=.dT (xs.eraseIdx j)) (by rw[e];exact True.intro) (.inl rfl) (λc q' hc z=>((iX ..).2 c hc).trans z) ⟨_,jO _ h1 (Obj.isFreed_of_dict (BN h3 _))⟩ ⟨?_,hd,_,_,_,jO _ h1 (Obj.isFreed_of_dict (BN h3 _)),h2.mapDictKeys _,BN h3 _,?_,?_⟩,ry,q⟩))
 ·exact bA (List.length_eraseIdx_le ..) z
 ·rw[iL,<-h4];obtain⟨l⟩:=es;simp
 ·rw[iL];exact h6.sublist (List.eraseIdx_sublist ..)
end
end L2
namespace L2.U
open PySem PySem.Spec PyProof.Rows
def J6:MG:=λc as=>match c.k,as with
 | .dU true ks,[kp]=>(gA true kp).bind λk=>(ks.findIdx? λx=>decide (x=k)).bind λj=>(c.ps[j]?).map λp=>(⟨.dU true (ks.eraseIdx j),c.ps.eraseIdx j⟩,p)
 | _,_=>none
section
variable {X:Cx}
def Om:zA X.K (Y0 X.K) J6:=by
 intro aa H ab F st σ n c c' a as ws q Q R hc hl ha hg hb k;unfold J6 at hg;split at hg
 ·rename_i ks kp hk;obtain⟨kk,e1,e2⟩:=aY hg;obtain⟨j,e5,e3⟩:=aY e2;obtain⟨p,e6,e4⟩:=bj e3;cases e4;obtain⟨w1,rfl,b1⟩:=dN hb;obtain⟨cc,rfl,WG⟩:=j8 e1 b1;obtain⟨_,vs,h2,h3⟩:=R.c.cell n c a hc ha hl;rw[hk]at h2;obtain⟨xs,g1,g2,g3,g4⟩:=h2;obtain⟨f1,f2,_⟩:=vR.mp e5;have f2:=fL f2;subst g3;rw[ak]at f1;rw[List.getElem_map]at f2;have hx:xs[j]?=some (kk,xs[j].2):=by rw[bW f1,<-f2]
  obtain⟨y,hy,by1⟩:=h3.get e6;obtain⟨u,hu,ry⟩:=g4.get hy;rw[bH,bW f1]at hu;cases hu;refine⟨a,cc,xs,kk,j,xs[j].2,y,rfl,rfl,g1,λz hz=>bu R.sub (g2 z hz),bu R.sub WG,hx,ry,k y F _ (R.put (vs:=vs.eraseIdx j) hc hl ha ⟨xs.eraseIdx j,aA,λz hz=>g2 z (List.mem_of_mem_eraseIdx hz),iL _ _ _,by rw[iL];exact g4.eraseIdx j⟩ ?_) (Gr.refl _) ?_⟩
  ·show az _ _ (c.ps.eraseIdx j) (vs.eraseIdx j);rw[Ie,Ie];exact(h3.take _).append (h3.drop _)
  ·exact by1
 ·cases hg
end
def Y1(T:String):Kd->Bool
 | .lst=>T=="list"
 | .dU _ _=>T=="dict"
 | _=>false
def tyG(T:String)(p:PV):Gx Unit:=hp λh=>(cm h p).bind λq=>if Y1 T q.1=true then some ()else none
section
variable {X:Cx} {aa:Hp} {ab:Fz} {e o:Expr} {es:List Expr} {fo fe:Gx PV} {ts:Gx (List PV)} {pos qN kH:Pos} {T id:String} {name:Str} {r:V->List V->Hp->VK->Prop}
def Rep.tyV{K:W.Frag}{st:cx}(R:Rep K aa ab F st σ H)(e:cm st.h p=some (k,ps))(ht:Y1 T k=true)(b:bO K F p v):L2.tyV K T v H:=by
 obtain⟨a,vs,rfl,h2,h3⟩:=R.at e b
 match k,ht,h2 with
 | .lst,ht,h2=>exact .inl ⟨bf ht,vs,kF.sq h2⟩
 | .dU false ks,ht,⟨kvs,h2,_⟩=>exact .inr (.inr (.inl ⟨bf ht,.inl ⟨kvs,h2⟩⟩))
 | .dU true ks,ht,⟨xs,h2,_⟩=>exact .inr (.inr (.inl ⟨bf ht,.inr ⟨xs,h2⟩⟩))
def C5(T:String)(w:PV->List PV->Gx PV)(fo:Gx PV)(ts:Gx (List PV)):Gx PV:=bnd fo λp=>bnd (tyG T p) λ_=>bnd ts λas=>w p as
def WdT(X:Cx)(r:V->List V->Hp->VK->Prop)(w:PV->List PV->Gx PV):Prop:=∀(aa H:Hp) (ab F:Fz) (st:cx) (σ:St) (p:PV) (as:List PV) (v:V) (ws:List V) (Q:VK),Tx X aa ab (bO X.K) F st (w p as) σ Q->Rep X.K aa ab F st σ H->bO X.K F p v->az X.K F as ws->r v ws H Q
def rQ(hw:WdT X r w)(h:tE X aa ab (C5 T w fo ts) σ H Q):tBM X.K T r (tE X aa ab fo) (tA X aa ab ts) σ H Q:=by
 obtain⟨F,st,R,h⟩:=h;refine⟨F,st,R,h.bnd λp v F1 bc H1 R1 g1 b1 h1=>?_⟩
 obtain⟨u,e,z⟩:=At.hp (At.bnd h1);obtain⟨⟨k,ps⟩,e1,e2⟩:=aY e;obtain⟨hk,_⟩:=aN e2;refine⟨R1.tyV e1 hk b1,F1,bc,R1,Tx.bnd z λas ws F2 d0 H2 R2 g2 b2 h2=>hw aa H2 ab F2 d0 σ p as v ws Q h2 R2 (b1.mono g2) b2⟩
def Oo(hw:WdT X r w)(h:tE X aa ab (C5 T w fo (aX [])) σ H Q):XZ X.K T r (tE X aa ab fo) σ H Q:=by
 obtain⟨F,st,R,h⟩:=h;refine⟨F,st,R,h.bnd λp v F1 bc H1 R1 g1 b1 h1=>?_⟩
 obtain⟨u,e,z⟩:=At.hp (At.bnd h1);obtain⟨⟨k,ps⟩,e1,e2⟩:=aY e;obtain⟨hk,_⟩:=aN e2;exact⟨R1.tyV e1 hk b1,hw aa H1 ab F1 bc σ p [] v [] Q (At.aX (At.bnd z)) R1 b1 .nil⟩
def rR(hg:zA X.K r g):WdT X r (jA g):=λ_ _ _ _ _ _ _ _ _ _ _ h R bp ba=>Tx.mut hg h R bp ba
def UG:WdT X (Uo X.K) zB:=λ_ _ _ _ _ _ _ _ _ _ _ h R bp ba=>Tx.ext h R bp ba
def EN(m:Str):Option (String×(PV->List PV->Gx PV)) :=
 if m==("append":Str)then some ("list",jA (gW xh))
 else if m==("extend":Str)then some ("list",zB)
 else if m==("insert":Str)then some ("list",jA (gW JG))
 else if m==("setdefault":Str)then some ("dict",jA GO)
 else if m==("pop":Str)then some ("dict",jA J6)
 else none
def C6(m:Str):Option (String×(PV->List PV->Gx PV)) :=
 if m==("reverse":Str)then some ("list",jA (gW N4))
 else if m==("pop":Str)then none
 else if m==("clear":Str)then none
 else none
def ac7(hu:X.A.units+1150<cLine)(ht:EN name=some (T,w))(ho:PE X o (tE X aa ab fo))(ha:PA X (e::es) (tA X aa ab ts))(j3:attributeBase o name X.env (eval o X.env)=eval o X.env)
  (CG:((backTo kH (starEach (e::es) X.env)).all (λx=>!x.1)&&(backToKw kH (keywordEach [] X.env)).all (λx=>x.1.isSome)&&decide ((e::es).length+([]:List Keyword).length+(if([]:List Keyword).isEmpty then 0 else 1)<30))=true)
  (iG:(qN.endLine==kH.line)=true) (qU:starEach (e::es) X.env=(false,eval e X.env)::starEach es X.env) (l8:(backTo kH (starEach es X.env)).any (·.1)=false):PE X (.Call (.Attribute o name qN) (e::es) [] kH) (tE X aa ab (C5 T w fo ts)):=by
 unfold EN at ht;split at ht
 ·rename_i hx;cases ht;have hx:=bf hx;subst hx;exact(za vV PySem.F.slot_list_append PySem.F.type_list_append Gn ho ha j3 CG iG qU l8).imp λ_ _ _ h=>rQ (rR N3) h
 ·split at ht
  ·rename_i hx;cases ht;have hx:=bf hx;subst hx;exact(za vV PySem.F.slot_list_extend PySem.F.type_list_extend Up ho ha j3 CG iG qU l8).imp λ_ _ _ h=>rQ UG h
  ·split at ht
   ·rename_i hx;cases ht;have hx:=bf hx;subst hx;exact(za vV PySem.F.slot_list_insert PySem.F.type_list_insert GN ho ha j3 CG iG qU l8).imp λ_ _ _ h=>rQ (rR N6) h
   ·split at ht
    ·rename_i hx;cases ht;have hx:=bf hx;subst hx;exact(za PySem.F.plainAttrs_dict Ij PySem.F.type_dict_setdefault Ul ho ha j3 CG iG qU l8).imp λ_ _ _ h=>rQ (rR N7) h
    ·split at ht
     ·rename_i hx;cases ht;have hx:=bf hx;subst hx;exact(za PySem.F.plainAttrs_dict PySem.F.slot_dict_pop PySem.F.type_dict_pop (UE hu) ho ha j3 CG iG qU l8).imp λ_ _ _ h=>rQ (rR Om) h
     ·cases ht
def Y2(ht:C6 name=some (T,w))(ho:PE X o (tE X aa ab fo))(j3:attributeBase o name X.env (eval o X.env)=eval o X.env)(iG:(qN.endLine==kH.line)=true) :
  PE X (.Call (.Attribute o name qN) [] [] kH) (tE X aa ab (C5 T w fo (aX []))):=by
 unfold C6 at ht;split at ht
 ·rename_i hx;cases ht;have hx:=bf hx;subst hx;exact(Jl vV PySem.F.slot_list_reverse PySem.F.type_list_reverse CH ho j3 iG).imp λ_ _ _ h=>Oo (rR N5) h
 ·grind
def zP(po pi pv:PV):cx->Option cx:=λst=>(mB st.h po).bind λc=>match c.2.k with
 | .lst=>(kM pi).bind λi=>(Ms c.2.ps.length i).map λj=>⟨st.ρ,st.h.set c.1 ⟨.lst,c.2.ps.set j pv⟩⟩
 | .dU t ks=>(gA t pi).bind λk=>if ks.length<fq then some ⟨st.ρ,st.h.set c.1 (lL t k pv ks c.2.ps)⟩else none
 | _=>none
def ac8(K:W.Frag):IP:=λo i v H Q=>∃aa ab F st τ po pi pv cC,zP po pi pv st=some cC/\Rep K aa ab F st τ H/\bO K F po o/\bO K F pi i/\bO K F pv v/\∀H' F',Rep K aa ab F' cC τ H'->Gr F F'->Q H'
def Y3(hu:X.A.units+1150<cLine):IQ X (ac8 X.K):=by
 rintro ae s σ H o i v ov iv u Q I ro ri rv ⟨aa,ab,F,st,τ,po,pi,pv,cC,e,R,bo,bi,bv,k⟩
 obtain⟨⟨n,c⟩,e1,e0⟩:=aY e;clear e;have e:=e0;clear e0;obtain⟨rfl,hc,hl⟩:=gG e1;obtain⟨a,ha,rfl⟩:=dj.mp bo;obtain⟨_,vs,h2,h3⟩:=R.c.cell n c a hc ha hl;split at e
 ·rename_i hk;obtain⟨j,e2,e⟩:=aY e;obtain⟨m,e3,rfl⟩:=bj e;rw[fU e2]at bi;have hk:=hk;rw[hk]at h2;refine Jj ae s σ H _ _ v ov iv u Q I ro ri rv ⟨a,vs,j,m,rfl,aG.mp bi,h2,by rw[<-h3.length];exact e3,k _ F (R.put hc hl ha aA (h3.set bv m)) (Gr.refl _)⟩
 ·rename_i t ks hk;have hk:=hk;obtain⟨kk,e2,e⟩:=aY e;obtain⟨hz,rfl⟩:=aN e;rw[hk]at h2;cases t with
  | false =>
   obtain⟨kvs,g1,g2,g3⟩:=h2;obtain⟨j,rfl,rfl⟩:=j7 e2 bi;rw[<-g3]at h3;obtain⟨jz,oX,p1,p2,p3⟩:=JE (j:=j) bv h3;have eG:kvs.length<sizeLine:=by
    have:ks.length=kvs.length:=by grind
    exact bY (by grind) (fy (ay _))
   rw[g2]at p1;refine Uq ae s σ H _ _ v ov iv u Q I ro ri rv ⟨a,kvs,j,rfl,rfl,g1,eG,k _ F ?_ (Gr.refl _)⟩;simp only[p1];exact R.put hc hl ha ⟨_,aA,p2,rfl⟩ p3
  | true =>
   obtain⟨xs,g1,g2,g3,g4⟩:=h2;obtain⟨cc,rfl,WG⟩:=j8 e2 bi;refine Ur (by lia) ae s σ H _ _ v ov iv u Q I ro ri rv ⟨a,cc,xs,kk,rfl,rfl,g1,λz hz=>bu R.sub (g2 z hz),bu R.sub WG,(by
    have:ks.length=xs.length:=by grind
    exact bY (by grind) (fy (ay _))),λr hr=>?_⟩
   obtain⟨jz,oX,wU,p1,p2,p3,p4,p5⟩:=Ui bv hr WG g2 h3 g4;rw[g3]at p1;refine k _ F ?_ (Gr.refl _);simp only[p1];exact R.put hc hl ha ⟨_,aA,p3,p2,p5⟩ p4
 ·cases e
def Oq(fv fo fi:Gx PV):Gx dE:=bnd fv λv=>bnd fo λo=>bnd fi λi=>stp (zP o i v)
def Y4(hu:X.A.units+1150<cLine)(he:PE X e (tE X aa ab fv))(ho:PE X o (tE X aa ab fo))(hi:PE X k (tE X aa ab fi))
  (ha:∀v,assign (.Subscript o k GQ) X.env v=(do
   let ov <-holding [v] (eval o X.env)
   let iv <-holding [v,ov] (eval k X.env)
   standAt GQ
   holding [v,ov,iv] (setItem ov iv v)
   release [v,ov,iv] []))
  (hs:swapsWithSole [.Subscript o k GQ] e pos.line X.env=pure false) (hw:swappedStores [.Subscript o k GQ] e X.env=pure none):PS X (.Assign [.Subscript o k GQ] e pos) (tS X aa ab (Oq fv fo fi)) :=
 (IT he (S3 ho hi (Y3 hu) ha) hs hw rfl).imp λD σ H ⟨F,st,R,h⟩=>⟨F,st,R,h.bnd λpv v F1 bc H1 R1 g1 b1 h1=>⟨F1,bc,R1,h1.bnd λpo o F2 d0 H2 R2 g2 b2 h2=>⟨F2,d0,R2,h2.bnd λpi i F3 M6 H3 R3 g3 b3 h3=>by
  obtain⟨cC,e,z⟩:=h3.stp;exact⟨aa,ab,F3,M6,σ,po,pi,pv,cC,e,R3,b2.mono g3,b3,b1.mono (g2.trans g3),λH' F' R' g'=>z F' σ H' R' g'⟩⟩⟩⟩
def J7(t:Bool):Gx PV:=kJ ⟨.dU t [],[]⟩
def Y5(t:Bool):PE X (.Dict [] [] pos) (tE X aa ab (J7 t)):=by
 cases t with
 | false=>exact JF.imp (by rintro σ H Q ⟨F,st,R,h⟩ p hp;exact Tx.kJ h R hp ⟨[],aA,rfl,rfl⟩ .nil)
 | true=>exact NC.imp (by rintro σ H Q ⟨F,st,R,h⟩ p hp;exact Tx.kJ h R hp ⟨[],aA,(λ_ z=>nomatch z),rfl,.nil⟩ .nil)
end
def EO(K:W.Frag)(mg:Str->Option Value)(P:Params)(T:Str)(rows:List (Str×Str)):Prop :=
 ∃a es n,mg T=some (.ref a)/\K.lookup a=some ⟨.type "dict",none,.dict es n,#[]⟩/\W.KeysLit P es.toList/\∀k fn,rows.lookup k=some fn->∃f,W.nsIn K a k=some (some (.ref f))/\mg fn=some (.ref f)/\W.nsIn K mainGlobals fn=some (some (.ref f))
def ac9(K:W.Frag)(a:Addr):R2:=λx y H Q=>∃k u v,x=.ref a/\y=.str k/\W.nsIn K a k=some (some u)/\RelV v u/\Q v H
def UH:PV->Option Str | .str x=>some x | _=>none
def GY(h:UH p=some i):p=.str i:=by
 cases p<;>first | (cases h;rfl) | cases h
section
variable {X:Cx} {aa:Hp} {ab:Fz} {e ke:Expr} {es:List Expr} {fk fe ff:Gx PV} {ts:Gx (List PV)} {pos p sp:Pos} {T:Str}
def UI{es:Array DictEntry}(hl:X.K.lookup a=some ⟨.type "dict",none,.dict es n,#[]⟩)(hk:W.KeysLit X.w.params es.toList):WJ X (ac9 X.K a):=by
 rintro value slice ae s σ H x y v u Q I rx ry ⟨k,u',v',ex,ey,e,rv,q⟩ hs
 subst ex ey;cases rx;obtain⟨t,rfl⟩:=ry;have hm:=W.mapOf_K (prog:=X.prog) I.qS hl hk;exact tail_any hm.typeIs slot_dict_getitem.lookup (wpAny_getItem_of (strKind_is X.prog X.w k t) hm (W.find_K hl e) ⟨v',H,I.tok _,rv,q⟩) hs
def J8(Ng:Str->Option PV)(fk:Gx PV):Gx PV:=bnd fk λq=>jK ((UH q).bind Ng)
def Y6(ht:EO X.K X.mg X.w.params T rows)(hg:Gl X T)(hk:PE X ke (tE X aa ab fk))(hs:p8 ke)(Np:(T==("__debug__":Str))=false):PE X (.Subscript (.Name T p) ke sp) (tE X aa ab (J8 (λk=>(rows.lookup k).map .fn) fk)):=by
 obtain⟨a,Xl,n,t1,t2,t3,t4⟩:=ht;refine(QG (UI t2 t3) (Ef (v:=.ref a) hg t1 rfl Np) hk hs).imp λσ H Q ⟨F,st,R,h⟩=>?_
 refine⟨F,st,R,h.bnd λpk v F1 bc H1 R1 g1 b1 h1=>?_⟩
 obtain⟨q,e1,z⟩:=h1.jK;obtain⟨k,e2,e3⟩:=aY e1;obtain⟨fn,e4,rfl⟩:=bj e3;rw[GY e2]at b1;obtain⟨f,n1,n2,n3⟩:=t4 k fn e4;exact⟨k,.ref f,.ref f,rfl,cL.mp b1,n1,rfl,z _ H1 F1 R1 (Gr.refl _) (rj.mpr ⟨f,rfl,n3⟩)⟩
def Rb(X:Cx)(fns:List (Str×Nat))(call:Str->oi):Prop:=∀x n,fns.lookup x=some n->∃k f fd ps,FnOk X.prog X.w X.K X.mg X.base (iH X.prog X.w) k f fd ps (GW X.K n (call x))/\dG k X.A/\X.mg x=some (.ref f)/\W.keepIn X.K (.ref f)=true/\gz X.K fd ps []
def fnP:PV->Option Str | .fn x=>some x | _=>none
def J9{p:PV}(h:fnP p=some i):p=.fn i:=by
 cases p<;>first | (cases h;rfl) | cases h
def zQ(fns:List (Str×Nat))(call:Str->oi)(ff:Gx PV)(ts:Gx (List PV)):Gx PV:=bnd ff λq=>bnd (jK ((fnP q).bind λx=>(fns.lookup x).map λn=>(x,n))) λx=>Ra x.2 (call x.1) ts
def xk(v k:Expr)(sp:Pos)(args:List Expr)(pos:Pos)(env:Env):eval (.Call (.Subscript v k sp) args [] pos) env=(do callWith pos (<-eval (.Subscript v k sp) env) [] (backTo pos (starEach args env)) (backToKw pos (keywordEach [] env))):=rfl
def Ot{call:Str->oi}(Ed:Rb X fns call)(Jp:∀x a,W.nsIn X.K mainGlobals x=some (some (.ref a))->X.mg x=some (.ref a))(hf:PE X (.Subscript v k sp) (tE X aa ab ff))(ha:PA X (e::es) (tA X aa ab ts))
  (he:starEach (e::es) X.env=(false,eval e X.env)::starEach es X.env) (l8:(backTo pos (starEach es X.env)).any (·.1)=false):PE X (.Call (.Subscript v k sp) (e::es) [] pos) (tE X aa ab (zQ fns call ff ts)):=by
 rintro ae s σ H Q I ⟨F,st,R,h⟩
 rw[xk];refine af (thn (hf ae s σ H (λv H1=>∃F1 bc q,Rep X.K aa ab F1 bc σ H1/\bO X.K F1 q v/\Tx X aa ab (bO X.K) F1 bc (bnd (jK ((fnP q).bind λx=>(fns.lookup x).map λn=>(x,n))) λx=>Ra x.2 (call x.1) ts) σ Q) I
  ⟨F,st,R,h.bnd λq v F1 bc H1 R1 g1 b1 h1=>⟨F1,bc,q,R1,b1,h1⟩⟩) λu s1 ⟨x,H1,I1,rx,F1,bc,q,R1,b1,h1⟩=>?_)
 obtain⟨⟨y,n⟩,e1,z⟩:=At.jK (At.bnd h1);obtain⟨y',e2,e3⟩:=aY e1;obtain⟨n',e4,e5⟩:=bj e3;simp only[qJ]at e5;obtain⟨rfl,rfl⟩:=e5;rw[J9 e2]at b1;obtain⟨a,rfl,Yy⟩:=rj.mp b1;obtain⟨j,f',fd,ps,G,hr,m1,m2,m3⟩:=Ed _ _ e4;have:=cz ((Jp _ a Yy).symm.trans m1);cases this;cases rx;exact W.callWith_K I.ok.mod.kin m2 (thn (ha pos ae s1 σ H1 (λvs H2=>∃F2 d0 as,Rep X.K aa ab F2 d0 σ H2/\az X.K F2 as vs/\Tx X aa ab (bO X.K) F2 d0 (oj _ _ as) σ Q) I1
  ⟨F1,bc,R1,Tx.bnd z λas vs F2 d0 H2 R2 g2 b2 h2=>⟨F2,d0,as,R2,b2,h2⟩⟩) (by rintro us s2 ⟨vs,H2,I2,r,F2,d0,as,R2,b2,z⟩;exact⟨I2.qS,YZ G hr m3 _ _ _ _ _ _ _ _ _ _ _ _ I2 R2 b2 r z⟩)) he l8
noncomputable def ER(f:Str):List Str->List PV->Option PV
 | g::ns,p::ps=>if g=f then some p else ER f ns ps
 | _,_=>none
def UJ(f:Str)(fe:Gx PV):Gx PV:=bnd fe λp=>hp λh=>match cm h p with
 | some (.oQ _ ns,ps)=>ER f ns ps
 | _=>none
theorem zR{K:W.Frag}:∀{fs:List (Str×V)} {ps:List PV} {p:PV},ER f (fs.map (·.1)) ps=some p->az K F ps (fs.map (·.2))->f∈fs.map (·.1)/\∃v,fs.lookup f=some v/\bO K F p v
 | [],_,_,h,_=>by cases h
 | (g,v)::r,[],_,h,_=>by cases h
 | (g,v)::r,q::ps,p,h,b=>by
  obtain⟨v',w,e,b1,b2⟩:=b.cj;cases e;have h:(if g=f then some q else ER f (r.map (·.1)) ps)=some p:=h
  by_cases hg:g=f
  ·grind
  ·rw[if_neg hg]at h;obtain⟨h1,v2,h2,h3⟩:=zR h b2;have hgf:(f==g)=false:=by grind
   exact⟨aF _ h1,v2,by grind,h3⟩
def Y7(he:PE X e (tE X aa ab fe))(hb:attributeBase e f X.env (eval e X.env)=eval e X.env):PE X (.Attribute e f pos) (tE X aa ab (UJ f fe)):=(To he hb).imp λσ H Q ⟨F,st,R,h⟩=>⟨F,st,R,h.bnd λq v F1 bc H1 R1 g1 b1 h1=>by
 obtain⟨o,e,z⟩:=h1.hp;split at e
 ·rename_i C ns ps hd;obtain⟨a,vs,rfl,⟨Ca,dx,fs,h2,h3,h4,h5,h6,h7⟩,h8⟩:=R1.at hd b1;subst h6 h7;obtain⟨hm,w,hl,bw⟩:=zR e h8;exact⟨a,Ca,dx,fs,w,rfl,h5,h3,h4 f hm,hl,z _ H1 F1 R1 (Gr.refl _) bw⟩
 ·cases e⟩
noncomputable def pP(f:Str)(q:PV):List Str->List PV->List Str×List PV
 | g::ns,p::ps=>if g=f then(g::ns,q::ps)else(g::(pP f q ns ps).1,p::(pP f q ns ps).2)
 | _,_=>([f],[q])
theorem ES{K:W.Frag}(bq:bO K F q v):∀{fs:List (Str×V)} {ps:List PV},az K F ps (fs.map (·.2))->(iD f v fs).map (·.1)=(pP f q (fs.map (·.1)) ps).1/\az K F (pP f q (fs.map (·.1)) ps).2 ((iD f v fs).map (·.2))/\∀g∈(pP f q (fs.map (·.1)) ps).1,g=f\/g∈fs.map (·.1)
 | [],ps,b=>by
  have e:=k9 b.length;subst e;exact⟨rfl,.cons bq .nil,λg hg=>.inl (by simpa[pP]using hg)⟩
 | (g,w)::r,[],b=>by have:=b.length;simp at this
 | (g,w)::r,p::ps,b=>by
  obtain⟨v',w',e,b1,b2⟩:=b.cj;cases e;obtain⟨h1,h2,h3⟩:=ES bq b2;by_cases hg:g=f
  ·subst hg;have e1:iD g v ((g,w)::r)=(g,v)::r:=if_pos rfl;have e2:pP g q (((g,w)::r).map (·.1)) (p::ps)=(g::r.map (·.1),q::ps):=if_pos rfl;rw[e1,e2];exact⟨rfl,.cons bq b2,λy hy=>.inr hy⟩
  ·have e1:iD f v ((g,w)::r)=(g,w)::iD f v r:=if_neg hg;have e2:pP f q (((g,w)::r).map (·.1)) (p::ps)=(g::(pP f q (r.map (·.1)) ps).1,p::(pP f q (r.map (·.1)) ps).2):=if_neg hg;rw[e1,e2];refine⟨by rw[aI,h1],.cons b1 h2,λy hy=>?_⟩
   rcases aD.mp hy with rfl | hy
   ·grind
   ·grind
def Ka(K:W.Frag)(cls:List Str)(flds:List Str):Prop:=∀C,cls.contains C=true->∃Ca,ClsAt K C (.ref Ca)/\FX K Ca/\∀f,flds.contains f=true->jb K Ca f
def adb(cls flds:List Str)(f:Str)(po pv:PV):cx->Option cx:=λst=>(mB st.h po).bind λc=>match c.2.k with
 | .oQ C ns=>if(cls.contains C&&flds.contains f&&decide (ns.length<900))=true then some ⟨st.ρ,st.h.set c.1 ⟨.oQ C (pP f pv ns c.2.ps).1,(pP f pv ns c.2.ps).2⟩⟩else none
 | _=>none
def UK(cls flds:List Str)(f:Str)(fv fo:Gx PV):Gx dE:=bnd fv λv=>bnd fo λo=>stp (adb cls flds f o v)
def Y8{cls flds:List Str}(hc:Ka X.K cls flds)(ho:PE X o (tE X aa ab fo))(he:PE X e (tE X aa ab fv))(hs:swapsWith e (some (.Attribute o f ue)) pos.line X.env=pure false):PS X (.Assign [.Attribute o f ue] e pos) (tS X aa ab (UK cls flds f fv fo)) :=
 (Tp ho he hs).imp λD σ H ⟨F,st,R,h⟩=>⟨F,st,R,h.bnd λpv v F1 bc H1 R1 g1 b1 h1=>⟨F1,bc,R1,h1.bnd λpo o F2 d0 H2 R2 g2 b2 h2=>by
  obtain⟨cC,e,z⟩:=h2.stp;obtain⟨⟨n,c⟩,e1,e0⟩:=aY e;clear e;have e:=e0;clear e0;obtain⟨rfl,Ee,hl⟩:=gG e1;obtain⟨a,ha,rfl⟩:=dj.mp b2;obtain⟨_,vs,g2',g3⟩:=R2.c.cell n c a Ee ha hl;split at e
  ·rename_i C ns hk;have hk:=hk;obtain⟨hq,rfl⟩:=aN e;rw[aV,aV]at hq;rw[hk]at g2';obtain⟨Ca,dx,fs,k1,k2,k3,k4,rfl,rfl⟩:=g2';obtain⟨Cb,m1,m2,m3⟩:=hc C hq.1.1;have eC:Ca=Cb:=by
    have:=k1.symm.trans m1;cases this;rfl
   subst eC;have eG:=fL hq.2;rw[ak]at eG;obtain⟨p1,p2,p3⟩:=ES (b1.mono g2) g3;refine⟨a,Ca,dx,fs,rfl,k4,k2,m3 f hq.1.2,(Nat.le_add_left_of_le ‹_›),z F2 σ _ (R2.put Ee hl ha ⟨Ca,dx,_,k1,k2,λg hg=>?_,aA,p1,rfl⟩ p2) (Gr.refl _)⟩
   rcases p3 g hg with rfl | hg
   ·exact m3 _ hq.1.2
   ·exact k3 g hg
  ·cases e⟩⟩
def ade(st:cx):Rs PV×List aq->Option (Rs PV×cx)
 | (.ok .bB,h)=>(o8 h 4 (.ref 0)).map λq=>(.ok q,st)
 | _=>none
def mkP(C:Str)(n:Nat)(g:oi)(ts:Gx (List PV)):Gx PV:=bnd ts λas st=>if as.length+1=n/\(st.h.isEmpty || ai as)=true then(g (.ref 0::as) [⟨.oQ C [],[]⟩]).bind (ade st)else none
section
variable {C:Str} {Ca f:Addr} {fd:FuncData} {ps:List Str} {g:oi} {k n:Nat}
def Ou(hC:ClsAt X.K C (.ref Ca))(c:FX X.K Ca)(h:tE X aa ab (mkP C n g ts) σ H Q):QE Ca (GW X.K n g) [] E0 (tA X aa ab ts) σ H Q:=by
 obtain⟨F,st,R,h⟩:=h;refine⟨F,st,R,h.bnd λas vs F1 bc H1 R1 g1 b1 h1 y dx hy hdx hne=>?_⟩
 obtain⟨q,e1,e2⟩:=h1;obtain⟨⟨hl,hn⟩,e1⟩:=b6 e1;obtain⟨r,e3,e4⟩:=aY e1;have hyd:cg H1 dx (.own y) y=none:=by rw[aJ hne.symm];exact hy
 have up:cG H1 (cg H1 dx (.own y)):=eJ hdx;have b2:az X.K ⟨F1.F,[y]⟩ (.ref 0::as) (.ref y::vs):=.cons (dj.mpr ⟨y,rfl,rfl⟩) (vf R1 hn b1 [y]);have C0:kx X.K (cg H1 dx (.own y)) ⟨F1.F,[y]⟩ ⟨F1.F,[y]⟩ [⟨.oQ C [],[]⟩] (cg (cg H1 dx (.own y)) y (.oQ Ca dx [])):=by
  refine⟨λb o e=>eJ hyd _ _ (up _ _ (R1.sub _ _ e)),eJ hyd,Gr.refl _,λa o e=>.inl e,λm a e=>?_,rfl,by simp,λm d a e1 e2 e3=>?_⟩
  ·cases m with
   | zero=>cases e;exact⟨hyd,_,aA⟩
   | succ m=>simp at e
  ·cases m with
   | zero=>cases e1;cases e2;exact⟨R1.sub.free hy,[],⟨Ca,dx,[],hC,c,(λ_ z=>nomatch z),aA,rfl,rfl⟩,.nil⟩
   | succ m=>simp at e1
 match r,e4 with
 | (.ok .bB,h'),e4 =>
  obtain⟨p,e5,rfl⟩:=bj e4;refine⟨_,_,_,.ref 0::as,_,h',C0,λb o e=>?_,by grind,by grind,e3,λv F' H' D b'=>⟨di.mp b',?_⟩⟩
  ·by_cases hb:b=y
   ·subst hb;exact .inr ⟨0,rfl⟩
   ·rw[aJ hb]at e;exact .inl e
  ·obtain⟨R3,g3⟩:=R1.back up D;exact e2 _ H' _ R3 g3 (D.o8 F1.μ _ _ _ _ e5 (dj.mpr ⟨y,D.base.m 0 y rfl,rfl⟩))
end
end
def Y9(X:Cx)(aa:Hp)(ab:Fz)(fa:Addr)(ω:PV->Gx PV):Prop:=∀(H:Hp) (F:Fz) (st:cx) (σ:St) (ae:List (Addr×Obj)) (s:Shared) (Q:VK) (p:PV) (u:Value) (v:V),Inv X ae σ H s->Rep X.K aa ab F st σ H->bO X.K F p v->RelV v u->Tx X aa ab (bO X.K) F st (ω p) σ Q ->
 wpAny (model X.prog X.w) X.A (call (.ref fa) [u]) (EP X ae σ Q) X.xe s
structure zS (X:Cx) (aa:Hp) (ab:Fz) (n:Nat) (ω:PV->Gx PV):Prop where
 ex:∃fa o u Za,ab.μ[n]?=some fa/\X.aa fa=some (.oR o u)/\o.data=.func Za/\Y9 X aa ab fa ω
def Zb(n:Nat):PV->Option Unit
 | .ref m=>if m=n then some ()else none
 | _=>none
def Kb(i n:Nat)(ω:PV->Gx PV)(fe:Gx PV):Gx PV:=bnd (rd i) λq=>bnd (jK (Zb n q)) λ_=>bnd fe ω
section
variable {X:Cx} {aa:Hp} {ab:Fz} {e:Expr} {fe:Gx PV} {pos p:Pos} {i n:Nat} {ω:PV->Gx PV} {y:Str}
def Zc(L:zS X aa ab n ω)(hy:PE X (.Name y p) (MP i))(ha:PE X e (tE X aa ab fe))(he:starEach [e] X.env=(false,eval e X.env)::starEach [] X.env):PE X (.Call (.Name y p) [e] [] pos) (tE X aa ab (Kb i n ω fe)):=by
 rintro ae s σ H Q I ⟨F,st,R,h⟩
 obtain⟨fa,o,u,Za,hm,hfr,hfd,L⟩:=L;refine iY (thn (QO i hy ae s σ H (λv H1=>v=.ref fa/\∃F1 bc,Rep X.K aa ab F1 bc σ H1/\Tx X aa ab (bO X.K) F1 bc (bnd fe ω) σ Q) I ⟨F,st,R,h.bnd λq v F1 bc H1 R1 g1 b1 h1=>?_⟩) λv s1 z9=>?_)
 ·obtain⟨_,e1,z⟩:=At.jK (At.bnd h1);cases q with
  | ref m =>
   obtain⟨rfl,_⟩:=aN e1;obtain⟨a,ha,rfl⟩:=dj.mp b1;have:=R1.c.base.m _ _ hm;rw[ha]at this;cases this;exact⟨rfl,F1,bc,R1,z⟩
  | _=>cases e1
 ·obtain⟨z,H1,I1,rx,rfl,F1,bc,R1,h1⟩:=z9;cases rx;have hP:∀{bG:St} {H':Hp} {s':Shared},Inv X ae bG H' s'->s'.heap.get? fa=some o:=λ{bG H' s'} J=>(J.hok fa _ (J.base.frzs fa o u hfr)).1
  have hk:∀h:Heap,h.get? fa=some o->∃k,(k=Keeper.frame\/k=Keeper.machine\/k=Keeper.boundFrame)/\W.Looks (model X.prog X.w) h (keeperOf (.ref fa)) k:=λh ho=>by
   obtain⟨c1,c2,c3,c4⟩:=o;cases hfd;exact⟨.frame,.inl rfl,(W.Looks.ld ho).andThen .now⟩
  have Rc:wpAny (model X.prog X.w) X.A (spliced (backTo pos (starEach [e] X.env))) (λus s2=>s2.heap.get? fa=some o/\wpAny (model X.prog X.w) X.A (call (.ref fa) ([]++us)) (EP X ae σ Q) X.xe s2) X.xe s1 :=
   thn ((hJ ha nZ he) pos ae s1 σ H1 (λvs H2=>∃v F2 d0 p,vs=[v]/\Rep X.K aa ab F2 d0 σ H2/\bO X.K F2 p v/\Tx X aa ab (bO X.K) F2 d0 (ω p) σ Q) I1 ⟨F1,bc,R1,h1.bnd λp v F2 d0 H2 R2 g2 b2 h2=>⟨v,F2,d0,p,rfl,R2,b2,h2⟩⟩)
    λus s2 z9=>by
     obtain⟨vs,H2,I2,r,v,F2,d0,p,rfl,R2,b2,h2⟩:=z9;obtain⟨u2,rfl,ru⟩:=js r;exact⟨hP I2,L H2 F2 d0 σ ae s2 Q p u2 v I2 R2 b2 ru h2⟩
  rw[he]at Rc ⊢;exact W.callWith_of rfl hk (PySem.Calls.evalArgs_plain Rc)
end
noncomputable def adh(ρ:List (Option PV)):Rs PV×cx->Option (Rs PV×cx)
 | (.ok p,st)=>some (.ok p,⟨ρ,st.h⟩)
 | _=>none
def Ov(fb:Gx PV)(Zd:List (Option PV)):PV->Gx PV:=λp st=>(fb ⟨some p::Zd,st.h⟩).bind (adh st.ρ)
def UL(hex:X.ex=[])(hL:Jr X.aa fa qual pq9 body scope cl)(hC:lI X.s₀.heap X.aa scope cl N τ)(hF:Lc X.K rV Zd τ)(adi:Gr rV ab)(hr:dG (k+1) X.A)
  (hb:∀(pm cS HU u:Value),bindArgs (W.kla_fn "<lambda>" qual pq9 body scope cl pm cS HU) ⟨[u],[]⟩=pure [(x,u)]) (hk:scope.kind=.function) (TK:scope.isCoroutine=false) (TL:scope.isGenerator=false) (hx:scope.names.lookup x=some .local) (nc:∀y∈scope.names,y.2≠.cell)
  (hbody:∀(cS:Value) (s:Shared) (H aa:Hp) (ab:Fz),dG k (X.A.deeper (W.envX qual scope s.heap.objs.size fa cS cl))->PE (QK (iH X.prog X.w) X.prog X.w X.K X.mg X.base (x::N) qual scope fa cS cl X.A X.stack s H E0) body (tE (QK (iH X.prog X.w) X.prog X.w X.K X.mg X.base (x::N) qual scope fa cS cl X.A X.stack s H E0) aa ab fb)):Y9 X aa ab fa (Ov fb Zd):=by
 rintro H F st σ ae s Q p u v I R b ru ⟨q,e1,e2⟩
 obtain⟨r,e3,e4⟩:=aY e1;obtain⟨o,u',pm,cS,HU,c,oc,uc,vs,t,k1,k2,rfl,k3,k4,k5⟩:=hL;have g1:=(I.hok fa _ (I.base.frzs fa o u' k1)).1;have g2:=(I.hok c _ (I.base.frzs c oc uc k3)).1;have C:=hC.un (by have:=I.base;rw[hex]at this;exact this)
 match r,e4 with
 | (.ok p',cC),e4 =>
  cases e4;have L:Lc X.K F (some p::Zd) (some v::τ):=⟨λi y e=>by
   cases i with
   | zero=>cases e;exact⟨v,rfl,b⟩
   | succ i =>
    obtain⟨z,h1,h2⟩:=hF.av i y (by grind)
    exact⟨z,by grind,h2.mono (adi.trans R.c.base)⟩,by simp[hF.len]⟩
  obtain⟨C0,_⟩:=R.c.enter;refine qL (jV (NF g1 k2 ⟨c,oc,vs,t,rfl,g2,k4,k5⟩ hr I.Nl (hb _ _ _ _) ru hk TK TL hx nc C ⟨_,hbody (.ref c) s H _ F (hr.deeper _),F,⟨some p::Zd,st.h⟩,⟨C0,L⟩,_,e3,λv' H' F' R' g' b'=>e2 v' H' F' ⟨R.c.leave R'.c,R.l.mono g'⟩ g' b'⟩) λr s' hq=>?_)
  cases r with
  | error e=>exact zf ae σ H s e s' I hq
  | ok fl =>
   cases fl with
   | ret u=>exact I.after hq
   | next=>exact False.elim hq
   | brk=>exact False.elim hq
   | cont=>exact False.elim hq
structure rW (X:Cx) (x:Str) (N:List Str) (link:List (Option Nat)) (scope:Scope):Prop where
 kind:scope.kind=.function
 co:scope.isCoroutine=false
 gen:scope.isGenerator=false
 par:scope.names.lookup x=some .local
 cell:∀y∈scope.names,y.2≠.cell
 free:∀y∈scope.names,y.2=.free->(X.env.kindOf y.1=some .cell\/X.env.kindOf y.1=some .free)
 len:link.length=N.length
 link:∀(i j:Nat) (y:Str),link[i]?=some (some j)->N[i]?=some y->X.N[j]?=some y/\scope.names.lookup y=some .free
def Ow(I:Inv X ae σ H s)(S:rW X x N link scope):lI s.heap H scope (j9 X.env scope.names []) N (gB link σ) where
 inj:=λy z c h1 h2=>I.ok.inj y z c (b7 h1) (b7 h2)
 has:=λy hy=>by
  have hm:=ej hy;obtain⟨c,hc⟩:=I.ok.has y (S.free _ hm rfl);obtain⟨c',h'⟩:=ka scope.names [] hm ⟨c,hc⟩;cases z:(j9 X.env scope.names []).lookup y with
  | some c2=>exact⟨c2,rfl⟩
  | none=>exact absurd h' (by intro hh;have:=List.lookup_eq_none_iff.mp z (y,c') hh;simp at this)
 cell:=λy c h=>I.cell y c (b7 h)
 free:=λy c h=>I.freeC y c (b7 h)
 val:=λi y v h1 h2=>by
  unfold L2.U.gB at h2;rw[bH]at h2;cases z:link[i]? with
  | none=>rw[z]at h2;cases h2
  | some o =>
   rw[z]at h2;cases o with
   | none=>cases h2
   | some j =>
    have h2:(σ[j]?).join=some v:=cz h2;obtain⟨g1,g2⟩:=S.link i j y z h1;have hm:=ej g2;obtain⟨m,_,hl⟩:=I.loc;have hfk:=S.free _ hm rfl;obtain⟨u,ru,lk⟩:=hl j y v g1 (by
     cases w:σ[j]? with
     | none=>rw[w]at h2;cases h2
     | some q=>rw[w]at h2;exact dB some h2) (by
     rcases hfk with q | q
     ·exact .inr (.inl q)
     ·exact .inr (.inr q))
    rcases lk with⟨q,_⟩ | ⟨_,c,hc,hi⟩
    ·rcases hfk with q' | q'<;>rw[q]at q'<;>cases q'
    ·obtain⟨c',h'⟩:=ka scope.names [] hm ⟨c,hc⟩;cases zz:(j9 X.env scope.names []).lookup y with
     | none=>exact absurd h' (by intro hh;have:=List.lookup_eq_none_iff.mp zz (y,c') hh;simp at this)
     | some c2 =>
      have:=b7 zz;rw[hc]at this;cases this;exact⟨c,u,g2,rfl,hi,ru⟩
 len:=by unfold L2.U.gB;rw[ak];exact S.len
structure Rf (X:Cx):Prop where
 ex:∃x c T,x∈du/\W.tabIn X.K x=some (c,T)/\W.codeHdIn X.K c T=true/\X.env.code=.ref c/\X.env.qual++"<lambda>"=yS x
 blt:zd X.mg X.base
def oneArg(x:Str)(ap:Pos):Arguments:={posonlyargs:=[],args:=[{arg:=x,annotation:=none,pos:=ap}],vararg:=none,kwonlyargs:=[],kw_defaults:=[],kwarg:=none,defaults:=[]}
def GZ(pm cS HU u:Value):bindArgs (W.kla_fn "<lambda>" qual (oneArg x ap) body scope cl pm cS HU) ⟨[u],[]⟩=pure [(x,u)]:=by
 have hs:seqItems? Value.none=pure none:=rfl;unfold bindArgs;simp only[oneArg,hs,B3];simp[List.lookup]
def mF:aq:=⟨.ao,[]⟩
def Ze(rs:(PV->Gx PV)->Nat->oi)(fb:Gx PV)(link:List (Option Nat)):PV->Gx PV:=λp st =>
 (rs (Ov fb (bK link st.ρ)) st.h.length [p,.ref st.h.length] (st.h++[mF])).map λr=>(YY r.1,⟨st.ρ,r.2⟩)
def Kc(rs:(PV->Gx PV)->Nat->oi)(fe fb:Gx PV)(link:List (Option Nat)):Gx PV:=bnd fe (Ze rs fb link)
section
variable {K:W.Frag} {aa H H':Hp} {ab F:Fz} {h:List aq}
def kx.adj(C:kx K aa ab F h H)(hp:F.F p=none)(h0:aa p=none)(hH:∃o,H p=some o)(hn:p∉F.μ):kx K aa ab ⟨F.F,F.μ++[p]⟩ (h++[mF]) H/\Gr F ⟨F.F,F.μ++[p]⟩/\(F.μ++[p])[h.length]?=some p:=by
 have g:Gr F ⟨F.F,F.μ++[p]⟩:=⟨cG.refl _,λn a q=>by
  grind⟩
 have Yd:∀n a,(F.μ++[p])[n]?=some a->F.μ[n]?=some a\/n=F.μ.length/\a=p:=λn a q=>by
  grind
 refine⟨⟨C.sub,C.keep,C.base.trans g,C.fresh,λn a q=>?_,by simp[C.hl],?_,λn d a hd ha hk=>?_⟩,g,by rw[C.hl];simp⟩
 ·rcases Yd n a q with z | ⟨_,rfl⟩
  ·exact C.new n a z
  ·grind
 ·rw[nE];exact⟨C.nd,by grind⟩
 ·rcases Yd n a ha with z | ⟨rfl,rfl⟩
  ·rw[fJ (by rw[C.hl];exact(bM.mp z).1)]at hd
   obtain⟨h1,ws,h2,h3⟩:=C.cell n d a hd z hk;exact⟨h1,ws,h2,h3.mono g⟩
  ·rw[<-C.hl,iU (ay _),wA]at hd;cases hd;cases hk
end
section
variable {X:Cx} {aa:Hp} {ab:Fz} {e body:Expr} {fe fb:Gx PV} {scope:Scope} {x:Str} {ap lp p1 pos:Pos} {N Ns:List Str} {link:List (Option Nat)} {fs:Addr} {Rg:FuncData} {k:Nat} {st:Stmt} {pr:List Str} {rb:(PV->Gx PV)->Nat->Gx dE}
def Ke(D:Cf X.K "spread" "spread" st fs Rg)(mS:X.mg "spread"=some (.ref fs))(bS:gz X.K Rg pr [])(scS:dD Ns pr (aw st))(hpr:pr.length=2)(L:Rf X)(hg:Gl X "spread")(hr:dG (k+2) X.A)(he:PE X e (tE X aa ab fe))(l8:starEach [e,.Lambda (oneArg x ap) body scope lp] X.env=(false,eval e X.env)::starEach [.Lambda (oneArg x ap) body scope lp] X.env)(S:rW X x N link scope)
  (Kf:∀(cS:Value) (A:Around) (ax:List Env) (s:Shared) (H:Hp) (E:XK) (aa:Hp) (ab:Fz) (n:Nat) (ω:PV->Gx PV),dG (k+1) (A.deeper (envOfC "spread" (aw st) s.heap.objs.size fs cS))->zS (fg (iH X.prog X.w) X.prog X.w X.K X.mg X.base Ns "spread" (aw st) fs cS A ax s H E) aa ab n ω ->
   PSs (fg (iH X.prog X.w) X.prog X.w X.K X.mg X.base Ns "spread" (aw st) fs cS A ax s H E) (dh st) (tS (fg (iH X.prog X.w) X.prog X.w X.K X.mg X.base Ns "spread" (aw st) fs cS A ax s H E) aa ab (rb ω n)))
  (hbody:∀(qual:Str) (fa:Addr) (cS:Value) (cl:List (Str×Addr)) (A:Around) (stack:List Env) (s:Shared) (H xl:Hp) (rV:Fz),dG k (A.deeper (W.envX qual scope s.heap.objs.size fa cS cl)) ->
   PE (QK (iH X.prog X.w) X.prog X.w X.K X.mg X.base (x::N) qual scope fa cS cl A stack s H E0) body (tE (QK (iH X.prog X.w) X.prog X.w X.K X.mg X.base (x::N) qual scope fa cS cl A stack s H E0) xl rV fb)) :
  PE X (.Call (.Name "spread" p1) [e,.Lambda (oneArg x ap) body scope lp] [] pos) (tE X aa ab (Kc (λω n=>dQ (rb ω n) Ns.length) fe fb link)):=by
 rintro ae s σ H Q I ⟨F,st0,R,h⟩
 obtain⟨⟨xn,c,T,l1,l2,l3,l4,l5⟩,hB⟩:=L;have hcl:=rL λy hy hy2=>I.ok.has y.1 (S.free y hy hy2)
 refine iY (ld_glob I hg mS ?_ rfl);refine W.callWith_K I.ok.mod.kin D.kp (thn ((hJ he (hJ (TM l1 l2 l3 l4 l5 hB rfl hcl) nZ rfl) l8) pos ae s σ H
  (λvs H2=>∃v fa F1 bc p H1,vs=[v,.ref fa]/\Rep X.K aa ab F1 bc σ H1/\bO X.K F1 p v/\Tx X aa ab (bO X.K) F1 bc (Ze (λω n=>dQ (rb ω n) Ns.length) fb link p) σ Q/\H1 fa=none/\cG H1 H2/\(∀b o,H2 b=some o->H1 b=some o\/H1 b=none)/\Jr H2 fa (yS xn) (oneArg x ap) body scope (j9 X.env scope.names [])) I
  ⟨F,st0,R,h.bnd λp v F1 bc H1 R1 g1 b1 h1 fa H2 hn sm fr hL=>⟨v,fa,F1,bc,p,H1,rfl,R1,b1,h1,hn,sm,fr,hL⟩⟩) λus s1 z9=>?_) l8 rfl
 obtain⟨vs,H2,I2,r,v,fa,F1,bc,p,H1,rfl,R1,b1,z,hn,sm,fr,hL⟩:=z9;refine⟨I2.qS,?_⟩;obtain⟨q,e1,e2⟩:=z;obtain⟨⟨rs,h'⟩,e3,e4⟩:=bj e1;subst e4;obtain⟨o,u,pm,ag4,HU,c',oc,uc,wU,t,k1,k2,k3⟩:=id hL;have C1:=R1.c.after sm (cG.refl _) rfl (R1.sub.trans sm) λ_ _ e=>.inl e
 have nfa:fa∉F1.μ:=λhm=>by
  obtain⟨n,Xp⟩:=qz.mp hm;obtain⟨_,o',nh⟩:=R1.c.new n fa Xp;rw[hn]at nh;cases nh
 obtain⟨C2,g2,hm⟩:=C1.adj (R1.sub.free hn) (R1.c.keep.free hn) ⟨_,k1⟩ nfa;obtain⟨C3,full⟩:=C2.enter;have b2:az X.K ⟨F1.F,F1.μ++[fa]⟩ [p,.ref bc.h.length] [v,.ref fa]:=.cons (b1.mono g2) (.cons (dj.mpr ⟨fa,hm,rfl⟩) .nil);obtain⟨q2,e5,e6⟩:=aY e3;have run:∀Q' E',UA X.K (pO H2 (F1.μ++[fa])) ⟨F1.F,F1.μ++[fa]⟩ h' Q' E' rs->codeAny (model X.prog X.w) X.A (.call (.ref fs) ⟨us,[]⟩) (CR (iH X.prog X.w) X.stack X.prog X.w H2 s1 Q' E') s1:=λQ' E' res=>by
  refine Yb D scS hr I2.Nl (bS s1 us I2.qS (by rw[dq,<-r.length,hpr];rfl)) (by rw[dq];exact r) (by rw[hpr];rfl) λcS=>⟨_,Kf cS X.A X.stack s1 H2 E' _ _ bc.h.length _ (hr.deeper _) ⟨fa,o,u,_,hm,k1,k2,?_⟩,_,⟨gy Ns.length [p,.ref bc.h.length],_⟩,⟨C3,zN b2⟩,q2,e5,?_⟩
  ·exact UL rfl hL (Ow I2 S) (R1.l.gB link) g2 (hr.deeper _) GZ S.kind S.co S.gen S.par S.cell λcS s H xl rV Mv=>hbody _ _ _ _ _ _ _ _ _ _ Mv
  ·rcases q2 with⟨f | ⟨m,c⟩,st⟩
   ·cases f with
    | rt=>cases e6;exact λv F' H' C' g b'=>res v F' H' C' b'
    | nx=>cases e6;exact λF' bG H' R g=>res .bB F' H' R.c (di.mpr rfl)
    | _=>cases e6
   ·cases e6;cases m with
    | true=>exact λF' bG H' ae s1 h1 a cls vs R sf I hc hm=>EL I hm (EM full R.c) (res cls F' H' R.c hc)
    | false=>exact λbG ae H1 s1 e s' I h=>zM I h (by rintro cls H2 ⟨hc,F',R,sf⟩;exact⟨EM full R.c,res cls F' H2 R.c hc⟩)
 have done:∀Q' E',(∀e s',iH X.prog X.w X.stack H2 s1 E' e s'->X.xe e s')->UA X.K (pO H2 (F1.μ++[fa])) ⟨F1.F,F1.μ++[fa]⟩ h' Q' E' rs->wpAny (model X.prog X.w) X.A (call (.ref fs) us) (EP X ae σ Q') X.xe s1:=λQ' E' hx res=>by
  refine qL (jV (run Q' E' res) λr s' wL=>?_)
  cases r with
  | error e=>exact hx e s' wL
  | ok fl =>
   cases fl with
   | ret u=>exact I2.after wL
   | next=>exact False.elim wL
   | brk=>exact False.elim wL
   | cont=>exact False.elim wL
 cases rs with
 | ok p'=>exact done Q E0 (λe s' hx=>zf ae σ H2 s1 e s' I2 hx) λv F' H' D' b'=>e2 v H' F' ⟨C2.leave D',R1.l.mono (g2.trans D'.base)⟩ (g2.trans D'.base) b'
 | ex m c=>exact thn (done (λ_ _=>False) _ (λe s' hx=>e2 σ ae H2 s1 e s' I2 hx) λcls F' H' D' hc=>⟨hc,F',⟨C2.leave D',R1.l.mono (g2.trans D'.base)⟩,g2.trans D'.base⟩) (by rintro v s3 ⟨_,_,_,_,z⟩;exact z.elim)
end
end L2.U
namespace PySem
open Sem (wp)
def pQ:entryFor table "set.__iter__"=some Builtin.«frozenset.__iter__» := entryFor_alias (id':="frozenset.__iter__") (by kernel_rfl) rfl (by decide +kernel) (by kernel_rfl)
def dY:Slot "set_iterator" "__next__" "set_iterator.__next__" :=
 .of (owner:="set_iterator") (n:="__next__") (by rw[B7,BL];kernel_rfl) (by decide +kernel) (by decide +kernel) (by decide +kernel)
  (by first | exact .inl (by decide +kernel) | exact .inr (by decide +kernel)) (by rw[isSubtype_type];kernel_rfl)
def kU:entryFor table "set_iterator.__next__"=some Builtin.«set_iterator.__next__» := entryFor_of_tree (by kernel_rfl)
def mG(a:Value):argsOk "set_iterator.__next__" ⟨[a],[]⟩:=by unfold argsOk;kernel_rfl
def mH:Slot "set_iterator" "__iter__" "set_iterator.__iter__" :=
 .of (owner:="set_iterator") (n:="__iter__") (by rw[B7,BL];kernel_rfl) (by decide +kernel) (by decide +kernel) (by decide +kernel)
  (by first | exact .inl (by decide +kernel) | exact .inr (by decide +kernel)) (by rw[isSubtype_type];kernel_rfl)
def uk:entryFor table "set_iterator.__iter__"=some Builtin.«dict_keyiterator.__iter__» := entryFor_alias (id':="dict_keyiterator.__iter__") (by kernel_rfl) rfl (by decide +kernel) (by kernel_rfl)
def xm(a:Value):argsOk "set_iterator.__iter__" ⟨[a],[]⟩:=by unfold argsOk;kernel_rfl
def dJ(es:Array (Int×Value))(ep:Nat)(t:SetTable):Obj:={cls:=.type "set",dict:=none,data:=.set es ep t,slots:=#[]}
noncomputable abbrev BT(w:World):Bool:=w.params.followText "set-order"
section
variable {prog:Program} {w:World} {A:Around} {E:Value->Shared->Prop} {s:Shared} {a:Addr} {es:Array (Int×Value)} {ep:Nat} {t:SetTable}
def lN(h:Q (BT w) s):wpAny (model prog w) A setsByText Q E s:=by
 unfold setsByText;exact af (B4 (aj h))
def xo(hS:s.heap.get? a=some (dJ es ep t))(hf:t.fits es.size=true)(hg:BT w=true\/t.plain=true)(h:Q false s):wpAny (model prog w) A (setDrawn a) Q E s:=by
 unfold setDrawn;refine af (jS hS rfl hf ?_);refine af (lN ?_);refine aj ?_;have e:(!BT w&&(!t.plain&&decide (es.size>1)))=false:=by
  grind
 show Q (!BT w&&(!t.plain&&decide (es.size>1))) s;rw[e];exact h
def C7(hS:s.heap.get? a=some (dJ es ep t))(hf:t.fits es.size=true)(hg:BT w=true\/t.plain=true)
  (hQ:Q (.ref s.heap.objs.size) {s with heap:=s.heap.push {cls:=.type "set_iterator",data:=.fields #[.int 0 0,.int 0 0,.ref a,.int es.size 0,.int ep 0]}}):wpAny (model prog w) A (pyIter (.ref a)) Q E s:=by
 have hT:s.TypeIs (.ref a) "set":=⟨_,hS,rfl⟩;refine BW hT F.slot_set_iter (fN F.slot_set_iter hT pQ ?_ (F.args_set_iter_1 _));unfold Builtin.«frozenset.__iter__» Builtin.Frozenset.slot0;refine af (af (aj ?_));refine aj ?_;unfold Builtin.Frozenset.sizeOf setEntries;refine af (af (af (jS hS rfl hf (aj (aj ?_)))));refine af (xo hS hf hg ?_);rw[if_neg c9];refine af (aj ?_);refine af (wpAny_setEpoch_of hS rfl hf ?_);unfold newFields;refine af (fM (aj ⟨_,rfl,"set_iterator",_,⟨_,bX _ rfl,rfl⟩,dY.lookup,?_⟩));simpa[rawInt]using hQ
end
section
variable {prog:Program} {w:World} {A:Around} {E:Value->Shared->Prop} {s:Shared} {a:Addr} {es:Array (Int×Value)} {ep:Nat} {t:SetTable}
noncomputable def ET(t:SetTable):Nat->Nat
 | 0=>0
 | i+1=>t.place.getD i 0+1
def d9(w:World)(t:SetTable)(i:Nat):Nat:=if BT w=true then 0 else ET t i
def lO(w:World)(a:Addr)(ep:Nat)(es:Array (Int×Value)):Array (Int×Value):=if BT w=true then pickOrder (w.params.setOrder a ep) es else es
structure fz (w:World) (a:Addr) (ep:Nat) (es:Array (Int×Value)) (t:SetTable):Prop where
 fits:t.fits es.size=true
 size:(lO w a ep es).size=es.size
 led:BT w=false->t.led=true/\t.plain=true/\∀i,i<=es.size->SetTable.below t.place (ET t i)=i
def fz.ok(g:fz w a ep es t):BT w=true\/t.plain=true:=by
 cases h:BT w with
 | true=>exact .inl rfl
 | false=>exact .inr (g.led h).2.1
def fz.place(g:fz w a ep es t):t.place.size=es.size:=by
 have:=g.fits;simp only[SetTable.fits,aV,qM]at this;exact this.1
def zT(hS:s.heap.get? a=some (dJ es ep t))(g:fz w a ep es t)(i:Nat)(hi:i<=es.size)
  (h:Q (((lO w a ep es)[i]?).map λe=>(e.2,d9 w t (i+1))) s):wpAny (model prog w) A (setNext a (d9 w t i) i ep) Q E s:=by
 unfold setNext;refine af (jS hS rfl g.fits ?_);refine af (lN ?_);cases hb:BT w with
 | true =>
  rw[if_pos rfl];dsimp only
  rw[if_neg (by simp)]
  unfold setWalk;refine af (af (jS hS rfl g.fits ?_));refine af (lN ?_);rw[hb,if_pos rfl];refine af (B4 ?_);refine aj (aj ?_);unfold lO d9 at h;rw[hb]at h;simp only[jY]at h;unfold d9;rw[hb];exact h
 | false =>
  obtain⟨hl,hp,hw⟩:=g.led hb;rw[if_neg c9];refine af (aj ?_);show wpAny _ _ (if(!t.plain&&decide (es.size>1))=true then _ else _) _ _ s
  rw[hp];rw[if_neg (by simp)]
  refine af ?_;show wpAny _ _ (if(!t.led&&!es.isEmpty)=true then _ else _) _ _ s
  rw[hl,if_neg (by simp)]
  refine aj ?_;refine aj ?_;unfold lO d9 at h;rw[hb]at h;simp only[nA,gu]at h;have e:SetTable.below t.place (d9 w t i)=i:=by unfold d9;rw[hb,if_neg c9];exact hw i hi
  rw[e];have l8:=g.place;by_cases fx:i<es.size
  ·have h1:es[i]?=some es[i]:=by simp[fx]
   have h2:t.place[i]?=some (t.place[i]'(by lia)):=by grind
   rw[h1,h2];rw[h1]at h;have h3:ET t (i+1)=t.place[i]'(by lia)+1:=by
    show t.place.getD i 0+1=_;simp[show i<t.place.size by lia]
   rw[h3]at h;exact h
  ·grind
end
section
variable {prog:Program} {w:World} {A:Around} {E:Value->Shared->Prop} {s:Shared} {a it:Addr} {es:Array (Int×Value)} {ep:Nat} {t:SetTable}
def eZ(h:Heap)(it a:Addr)(sl i n ep:Nat):Prop:=∃o,h.get? it=some o/\o.cls=.type "set_iterator"/\o.data=.fields #[.int sl 0,.int i 0,.ref a,.int n 0,.int ep 0]
def eZ.typeIs(x:eZ s.heap it a sl i n ep):s.TypeIs (.ref it) "set_iterator":=let ⟨o,ho,hc,_⟩:=x;⟨o,ho,hc⟩
def Kg(oZ:eZ s.heap it a (d9 w t i) i es.size ep)(hS:s.heap.get? a=some (dJ es ep t))(g:fz w a ep es t)(hi:i<es.size)
  (hQ:∀v h',(∃e,(lO w a ep es)[i]?=some e/\v=e.2)->eZ h' it a (d9 w t (i+1)) (i+1) es.size ep->Heap.SameBut it s.heap h'->Q (some v) {s with heap:=h'}):wpAny (model prog w) A (pyNext (.ref it)) Q E s:=by
 obtain⟨o,ho,hc,hd⟩:=id oZ;unfold pyNext;refine af (wx (iV oZ.typeIs dY (fN dY oZ.typeIs kU ?_ (mG _))));unfold Builtin.«set_iterator.__next__»;refine af (aj ?_);refine af (wpAny_fieldsOf ho hd ?_);dsimp only
 unfold setEntries;refine af (af (jS hS rfl g.fits (aj ?_)));dsimp only
 rw[if_neg (by simp)]
 have h1:(lO w a ep es)[i]?=some ((lO w a ep es)[i]'(by rw[g.size];exact hi)):=by simp[hi]
 refine af ?_;rw[show((d9 w t i:Nat):Int).toNat=d9 w t i from er _,show((i:Nat):Int).toNat=i from er _,show((ep:Nat):Int).toNat=ep from er _]
 refine zT hS g i (i9 hi) ?_;rw[h1];dsimp only[Option.map]
 refine af (lA ho hd (by simp) ?_)
 obtain⟨o1,g1,c1,d1⟩:∃o1,(s.heap.update it (Obj.mapFields (·.setIfInBounds 0 (rawInt (d9 w t (i+1):Nat))))).get? it=some o1/\o1.cls=.type "set_iterator"/\o1.data=.fields #[.int (d9 w t (i+1):Nat) 0,.int i 0,.ref a,.int es.size 0,.int ep 0] :=
  ⟨_,jO _ ho (vY (jR hd _)),(vZ ..).trans hc,by rw[jR hd];simp[rawInt]⟩
 have b1:Heap.SameBut it s.heap (s.heap.update it (Obj.mapFields (·.setIfInBounds 0 (rawInt (d9 w t (i+1):Nat))))):=iX ..
 generalize (s.heap.update it (Obj.mapFields (·.setIfInBounds 0 (rawInt (d9 w t (i+1):Nat)))))=H1 at g1 b1 ⊢
 refine af (lA g1 d1 (by simp) ?_)
 have UM:eZ (H1.update it (Obj.mapFields (·.setIfInBounds 1 (rawInt (i+1))))) it a (d9 w t (i+1)) (i+1) es.size ep :=
  ⟨_,jO _ g1 (vY (jR d1 _)),(vZ ..).trans c1,by rw[jR d1];simp[rawInt]⟩
 exact aj ⟨_,rfl,aj (hQ _ _ ⟨_,h1,rfl⟩ UM (b1.trans (iX ..)))⟩
def Ox(hh:A.handled=none)(oZ:eZ s.heap it a (d9 w t es.size) es.size es.size ep)(hS:s.heap.get? a=some (dJ es ep t))(g:fz w a ep es t)
  (hQ:∀h',Heap.ExtBut it s.heap h'->Q none {s with heap:=h'}):wpAny (model prog w) A (pyNext (.ref it)) Q E s:=by
 obtain⟨o,ho,hc,hd⟩:=id oZ;unfold pyNext;refine af (wx (iV oZ.typeIs dY (fN dY oZ.typeIs kU ?_ (mG _))));unfold Builtin.«set_iterator.__next__»;refine af (aj ?_);refine af (wpAny_fieldsOf ho hd ?_);dsimp only
 unfold setEntries;refine af (af (jS hS rfl g.fits (aj ?_)));dsimp only
 rw[if_neg (by simp)]
 have h1:(lO w a ep es)[es.size]?=none:=by simp[g.size]
 refine af ?_;rw[show((d9 w t es.size:Nat):Int).toNat=d9 w t es.size from er _,show((es.size:Nat):Int).toNat=es.size from er _,show((ep:Nat):Int).toNat=ep from er _]
 refine zT hS g es.size (ay _) ?_;rw[h1];dsimp only[Option.map]
 refine af (lA ho hd (by simp) ?_)
 refine af ?_;simp only[newExc,newTuple];refine af (fM ?_ (by size_fits))
 refine af (wB (by first | rfl | (simp only[firstArgMember];rfl)) ?_)
 refine fM ?_ (by size_fits)
 simp only[raiseNew];refine af (wpAny_handled ?_);rw[show A.in1.handled=none from hh]
 refine af (aj (wpAny_throw ?_));refine af (wa ⟨_,bX _ rfl,rfl⟩ isSubtype_stop ?_);exact aj (hQ _ (((iX ..).extBut.push _).push _))
def Kh(oZ:eZ s.heap it a sl i n ep)(h:Q (.ref it) s):wpAny (model prog w) A (pyIter (.ref it)) Q E s:=by
 refine BW oZ.typeIs mH (fN mH oZ.typeIs uk ?_ (xm _));exact aj ⟨_,rfl,"set_iterator",_,oZ.typeIs,dY.lookup,h⟩
def Walks.adl(hh:A.handled=none)(I a:Addr)(hne:a≠I)(g:fz w a ep es t) :
  Walks prog w A I [I,a] [I] es.size (λi v=>∃e,(lO w a ep es)[i]?=some e/\v=e.2) (λi h=>eZ h I a (d9 w t i) i es.size ep/\h.get? a=some (dJ es ep t)) where
 sub:=λb hb=>by grind
 frame:=λ_ _ _ st hk=>⟨let ⟨o,ho,r⟩:=st.1;⟨o,hk I (by simp) o ho,r⟩,hk a (by simp) _ st.2⟩
 item:=λi s Q E hi st hQ=>Kg st.1 st.2 g hi λv h' hv UM YI=>hQ v h' s.toks hv ⟨UM,YI.extBut a _ hne st.2⟩ λb o hb e=>YI.extBut b o (λh=>hb (by simp[h])) e
 done:=λs Q E st hQ=>Ox hh st.1 st.2 g λh' he'=>hQ h' s.toks λb o hb e=>he' b o (λh=>hb (by simp[h])) e
 self:=λ_ _ _ _ st hQ=>Kh st.1 hQ
def Ki(hT:s.TypeIs (.ref r) "set")(h:Q false s):wpAny (model prog w) A (Builtin.List.listLengthHint (.ref r)) Q E s:=by
 unfold Builtin.List.listLengthHint;refine af (wpAny_specialOf hT F.slot_set_len.lookup ?_)
 generalize hid:("set.__len__":String)=id0
 wp_delta
 rw[show splitId id0=some ("set","__len__")from by subst hid;decide +kernel]
 subst hid;refine af (wa (b:=true) hT (by rw[isSubtype_type];kernel_rfl) ?_)
 refine B8 (λhab=>absurd hab (by decide)) (λ_=>?_)
 refine B8 (λ_=>?_) (λhab=>absurd (by decide +kernel) hab)
 refine af (nM hT ?_);exact aj h
def Oy(g:fz w a ep es t):W.KdlSrc prog w "set" a a es.size (λi v=>∃e,(lO w a ep es)[i]?=some e/\v=e.2) (λh=>h.get? a=some (dJ es ep t)) where
 type:=λ_ hm=>⟨_,hm,rfl⟩
 there:=λ_ hm=>⟨aW hm,aW hm⟩
 keep:=λ_ _ hm hk=>hk a (.inl rfl) _ hm
 notList:=by decide
 notTuple:=by decide
 hint:=λ_ _ _ _ hm hq=>Ki ⟨_,hm,rfl⟩ hq
 iter:=λA s hh hm=>⟨_,_,(λ_ _ hq=>C7 hm g.fits g.ok hq),Walks.adl hh _ a (bI (aW hm)) g,⟨⟨_,bX _ rfl,rfl,by
  have:d9 w t 0=0:=by unfold d9 ET;split<;>rfl
  rw[this];rfl⟩,aZ _ hm⟩⟩
end
section
open PyProof.Rows
theorem rX:∀(l:List α) (i:Nat) (h:i<l.length),([l[i]]++l.eraseIdx i).Perm l
 | [],i,h=>absurd h (by simp)
 | x::l,0,_=>.refl _
 | x::l,i+1,h=>by
  have h':i<l.length:=by simpa using h
  have ih:=rX l i h';rw[List.getElem_cons_succ,List.eraseIdx_cons_succ];exact(List.Perm.swap x l[i] (l.eraseIdx i)).trans (ih.cons x)
theorem EU(nx:Nat->Nat):∀(jh k:Nat) (left:List α) (gk:Array α),jh=left.length->(pickOrder.go nx jh k left gk).toList.Perm (gk.toList++left)
 | 0,k,left,gk,h=>by
  have:=k9 h.symm;subst this;rw[dq];exact .refl _
 | jh+1,k,left,gk,h=>by
  have hl:nx k%left.length<left.length:=Nat.mod_lt _ (by lia)
  unfold pickOrder.go;rw[bW hl];refine(EU nx jh (k+1) (left.eraseIdx (nx k%left.length)) (gk.push left[nx k%left.length]) (by grind)).trans ?_
  rw[Array.toList_push,cW];refine List.Perm.append_left _ ?_;exact rX left _ hl
def G0(nx:Nat->Nat)(xs:Array α):(pickOrder nx xs).toList.Perm xs.toList:=by
 unfold pickOrder;have:=EU nx xs.size 0 xs.toList #[] (by simp)
 simpa using this
def zU(w:World)(a:Addr)(ep:Nat)(es:Array (Int×Value)):(lO w a ep es).toList.Perm es.toList:=by
 unfold lO;split
 ·exact G0 _ _
 ·exact .refl _
def Kj(w:World)(a:Addr)(ep:Nat)(es:Array (Int×Value)):(lO w a ep es).size=es.size:=by
 have:=(zU w a ep es).length_eq;simpa using this
def intOf:Value->Int
 | .int n _=>n
 | _=>0
theorem zV:∀(l:List (Int×Value)),(∀e∈l,∃n t,e.2=.int n t)->IntsAre (l.map (·.2)) (l.map λe=>intOf e.2)
 | [],_=>.nil
 | e::l,h=>by
  obtain⟨n,t,q⟩:=h e aE;have ih:=zV l λx hx=>h x (aF _ hx)
  rw[aI,aI,q];exact .cons n t ih
def iM(place:Array Nat)(led:Bool):SetTable:={mask:=7,place:=place,dummies:=#[],finger:=0,led:=led,moves:=0,plain:=true}
def C8:∀k:_root_.Fin 64,hashInt ((k:Nat):Int)=((k:Nat):Int):=by decide +kernel
def UO:∀(k:_root_.Fin 64) (led:Bool),(iM #[] led).freeSlot ((k:Nat):Int)=some ((k:Nat)%8,false):=by decide +kernel
def UP:∀(p:_root_.Fin 8) (k:_root_.Fin 64) (led:Bool),∃q:_root_.Fin 8,(iM #[(p:Nat)] led).freeSlot ((k:Nat):Int)=some ((q:Nat),false)/\q≠p:=by decide +kernel
def Oz:∀p:_root_.Fin 8,SetTable.below #[(p:Nat)] 0=0/\SetTable.below #[(p:Nat)] ((p:Nat)+1)=1:=by decide +kernel
def OA:∀p q:_root_.Fin 8,p<q->SetTable.below #[(p:Nat),(q:Nat)] 0=0/\SetTable.below #[(p:Nat),(q:Nat)] ((p:Nat)+1)=1/\SetTable.below #[(p:Nat),(q:Nat)] ((q:Nat)+1)=2:=by decide +kernel
def OB:∀p q:_root_.Fin 8,q≠p->SetTable.below #[(p:Nat)] (q:Nat)=if p<q then 1 else 0:=by decide +kernel
def Zf(k:_root_.Fin 64)(led:Bool)(h:Int)(x:Value)(hh:h=((k:Nat):Int)):layNew (iM #[] led) #[] h x=(#[(h,x)],iM #[(k:Nat)%8] led,false,false):=by
 subst hh;unfold layNew;rw[UO k led];rfl
def Zg(p:_root_.Fin 8)(k:_root_.Fin 64)(led:Bool)(h:Int)(x:Value)(hh:h=((k:Nat):Int))(e:Int×Value) :
  ∃q:_root_.Fin 8,q≠p/\layNew (iM #[(p:Nat)] led) #[e] h x=if p<q then(#[e,(h,x)],iM #[(p:Nat),(q:Nat)] led,false,false)else(#[(h,x),e],iM #[(q:Nat),(p:Nat)] led,false,false):=by
 subst hh;obtain⟨q,hq,hne⟩:=UP p k led;refine⟨q,hne,?_⟩;have hb:=OB p q hne;unfold layNew;rw[hq];dsimp only
 unfold SetTable.put;have jt:SetTable.below (iM #[p] led).place q=if p<q then 1 else 0:=hb
 rw[jt];by_cases fx:p<q
 ·rw[if_pos fx,if_pos fx];rfl
 ·rw[if_neg fx,if_neg fx];rfl
end
section
open PyProof.Rows
section
variable {prog:Program} {w:World} {A:Around} {E:Value->Shared->Prop} {s:Shared} {a:Addr} {es um:Array (Int×Value)} {ep:Nat} {t t1:SetTable}
def zW(h:∀e∈es.toList,∃k tk,e.2=.int k tk/\e.1=hashInt k):ElemsOf (intKind prog w) es.toList:=λe he=>by
 obtain⟨k,tk,h1,h2⟩:=h e he;exact⟨⟨k,by rw[h1];exact intKind_is _ _ _ _,h2⟩,by rw[h1];rfl⟩
def OC(hS:s.heap.get? a=some (dJ es ep t))(um:Array (Int×Value))(t1:SetTable):(s.heap.update a (Obj.putSet um t1)).get? a=some (dJ um (ep+1) t1):=by
 have:=jO (Obj.putSet um t1) hS (by rw[putSet_of um t1 (rfl)];rfl)
 rw[putSet_of um t1 (rfl)]at this;exact this
def C9(hS:s.heap.get? a=some (dJ es ep t))(hf:t.fits es.size=true)(Rh:∀e∈es.toList,∃k tk,e.2=.int k tk/\e.1=hashInt k)(hb:es.size+1<scanBound)
  (UQ:es.toList.findIdx? (λe=>(intKind prog w).is k e.2)=none) (hL:layNew t es (hashInt k) (.int k tk)=(um,t1,false,false)) (hp:t1.plain=true) (TN:t1.tooFull=false) (hz:um.size<=sizeLine)
  (h:Q true {s with heap:=s.heap.update a (Obj.putSet um t1)}):wpAny (model prog w) A (setAddHashed a (.int k tk) (hashInt k)) Q E s:=by
 have hE:=zW (prog:=prog) (w:=w) Rh;unfold setAddHashed setAddHashedIn;refine ez (af (jS hS rfl hf ?_));dsimp only
 rw[byScan_of rfl (i9 ‹_›) hE];simp only[↓reduceIte];unfold setAddByScan;refine af ?_;refine af (nQ ?_);refine af (wpAny_setScan_of (intKind_is _ _ _ _) hS rfl hf hE ?_);rw[UQ];dsimp only
 rw[hL];dsimp only
 refine af ?_;refine aj ?_;rw[hp,if_pos rfl];refine af ?_;rw[hashByValue_scannable 8 rfl];refine aj ?_;have e:(if plainKind (Value.int k tk)=true then t1 else {t1 with plain:=false})=t1:=if_pos rfl
 rw[e];refine af (wpAny_storeSet_of hS rfl ?_ hz);rw[TN,if_neg (by simp)]
 exact aj (aj h)
def Dc(hS:s.heap.get? a=some (dJ es ep t))(hf:t.fits es.size=true)(Rh:∀e∈es.toList,∃k tk,e.2=.int k tk/\e.1=hashInt k)(hb:es.size+1<scanBound)
  (hj:es.toList.findIdx? (λe=>(intKind prog w).is k e.2)=some j) (h:Q false s):wpAny (model prog w) A (setAddHashed a (.int k tk) (hashInt k)) Q E s:=by
 have hE:=zW (prog:=prog) (w:=w) Rh;unfold setAddHashed setAddHashedIn;refine ez (af (jS hS rfl hf ?_));dsimp only
 rw[byScan_of rfl (i9 ‹_›) hE];simp only[↓reduceIte];unfold setAddByScan;refine af ?_;refine af (nQ ?_);refine af (wpAny_setScan_of (intKind_is _ _ _ _) hS rfl hf hE ?_);rw[hj];dsimp only
 exact aj (aj h)
end
def eY(led:Bool)(xs:List Int)(es:Array (Int×Value))(t:SetTable):Prop :=
 (∀e∈es.toList,∃k tk,e.2=.int k tk/\e.1=hashInt k)/\(es.toList.map λe=>intOf e.2).Perm xs /\
 ((xs=[]/\es=#[]/\t=iM #[] led)\/(∃(p:_root_.Fin 8) (x:Int),xs=[x]/\t=iM #[(p:Nat)] led)\/∃(p q:_root_.Fin 8) (x y:Int),xs=[x,y]/\p<q/\t=iM #[(p:Nat),(q:Nat)] led)
def eY.fits(h:eY led xs es t):t.fits es.size=true/\es.size=xs.length/\es.size<=2:=by
 obtain⟨_,hp,hc⟩:=h;have hl:=hp.length_eq;simp at hl;rcases hc with⟨rfl,rfl,rfl⟩ | ⟨p,x,rfl,rfl⟩ | ⟨p,q,x,y,rfl,_,rfl⟩
 ·exact⟨rfl,hl,by decide⟩
 ·simp at hl;exact⟨by rw[hl];rfl,hl,by lia⟩
 ·simp at hl;exact⟨by rw[hl];rfl,hl,(ja ‹_›)⟩
def eY.good(h:eY (!BT w) xs es t):fz w a ep es t:=by
 obtain⟨f1,f2,f3⟩:=h.fits;refine⟨f1,Kj w a ep es,λhb=>?_⟩
 obtain⟨_,hp,hc⟩:=h;rw[hb]at hc;rcases hc with⟨rfl,rfl,rfl⟩ | ⟨p,x,rfl,rfl⟩ | ⟨p,q,x,y,rfl,fx,rfl⟩
 ·refine⟨rfl,rfl,λi hi=>?_⟩
  have:i=0:=by grind
  subst this;rfl
 ·obtain⟨b1,b2⟩:=Oz p;refine⟨rfl,rfl,λi hi=>?_⟩
  have:es.size=1:=f2;have:i=0\/i=1:=by lia
  rcases this with rfl | rfl
  ·exact b1
  ·exact b2
 ·obtain⟨b1,b2,b3⟩:=OA p q fx;refine⟨rfl,rfl,λi hi=>?_⟩
  have:=f2;have:i=0\/i=1\/i=2:=by lia
  rcases this with rfl | rfl | rfl
  ·exact b1
  ·exact b2
  ·exact b3
section
variable {prog:Program} {w:World} {A:Around} {E:Value->Shared->Prop} {s:Shared} {a:Addr} {es:Array (Int×Value)} {ep:Nat} {t:SetTable}
noncomputable def kW(xs:List Int)(k:Int):List Int:=if k∈xs then xs else xs++[k]
def Dd(hS:s.heap.get? a=some (dJ es ep t))(h2:eY led xs es t)(hk:0<=k/\k<64)(hx:xs.length<=1)
  (h:∀b h' um ep1 t1,Heap.SameBut a s.heap h'->h'.get? a=some (dJ um ep1 t1)->eY led (kW xs k) um t1->Q b {s with heap:=h'}):wpAny (model prog w) A (setAddHashed a (.int k tk) (hashInt k)) Q E s:=by
 obtain⟨f1,f2,f3⟩:=h2.fits;obtain⟨Rh,hp,hc⟩:=id h2;have hb:es.size+1<scanBound:=by
  have:scanBound=4096:=rfl
  lia
 have G1:∀e∈es.toList,(intKind prog w).is k e.2=true↔intOf e.2=k:=λe he=>by
  obtain⟨n,Mw,q,_⟩:=Rh e he;rw[q];show Value.isInt k (.int n Mw)=true↔n=k;simp[Value.isInt]
 cases hr:es.toList.findIdx? (λe=>(intKind prog w).is k e.2)with
 | some j =>
  obtain⟨hj,hpj,_⟩:=vR.mp hr;have G3:k∈xs:=by
   grind
  refine Dc hS f1 Rh hb hr ?_;have:=h false s.heap es ep t (Heap.SameBut.refl a s.heap) hS (by unfold kW;rw[if_pos G3];exact h2)
  exact this
 | none =>
  have UQ:k∉xs:=λG3=>by
   grind
  have QZ:hashInt k=k:=by
   have:=C8 ⟨k.toNat,by lia⟩
   rw[show(⟨k.toNat,by lia⟩:_root_.Fin 64)=k from lg hk.1]at this
   exact this
  have hkc:hashInt k=(⟨k.toNat,by lia⟩:_root_.Fin 64):=by
   grind
  have jI:∀um t1,layNew t es (hashInt k) (.int k tk)=(um,t1,false,false)->t1.plain=true->t1.tooFull=false->um.size<=2->eY led (kW xs k) um t1->wpAny (model prog w) A (setAddHashed a (.int k tk) (hashInt k)) Q E s:=λum t1 hL q1 q2 q3 q4 =>
   C9 hS f1 Rh hb hr hL q1 q2 (bA q3 (by decide)) (h true _ um (ep+1) t1 (iX ..) (OC hS um t1) q4)
  have UR:kW xs k=xs++[k]:=by unfold kW;rw[if_neg UQ]
  rcases hc with⟨rfl,rfl,rfl⟩ | ⟨p,x,rfl,rfl⟩ | ⟨p,q,x,y,rfl,fx,rfl⟩
  ·refine jI _ _ (Zf ⟨k.toNat,by lia⟩ led _ _ hkc) rfl rfl (by simp) ?_
   rw[UR];refine⟨λe he=>?_,.refl _,.inr (.inl ⟨⟨(⟨k.toNat,by lia⟩:_root_.Fin 64).val%8,Nat.mod_lt _ (by decide)⟩,k,rfl,rfl⟩)⟩
   have he:=he;have he:=aB.mp he;subst he;exact⟨k,tk,rfl,rfl⟩
  ·have hs1:=f2;obtain⟨e0,rfl⟩:∃e0,es=#[e0]:=Array.size_eq_one_iff.mp hs1
   obtain⟨q,hne,hL⟩:=Zg p ⟨k.toNat,by lia⟩ led (hashInt k) (.int k tk) hkc e0
   have hq:(intOf e0.2)=x:=by
    have hm:=hp.mem_iff.mp (aM.mpr ⟨e0,by simp,rfl⟩)
    simpa using hm
   have h0:=Rh e0 (by simp)
   by_cases fx:p<q
   ·rw[if_pos fx]at hL;refine jI _ _ hL rfl rfl (by simp) ?_
    rw[UR];refine⟨λe he=>?_,?_,.inr (.inr ⟨p,q,x,k,rfl,fx,rfl⟩)⟩
    ·have he:=he;simp only[aD,eu,eA]at he;rcases he with rfl | rfl
     ·exact h0
     ·exact⟨k,tk,rfl,rfl⟩
    ·show [intOf e0.2,k].Perm ([x]++[k]);rw[hq];exact .refl _
   ·rw[if_neg fx]at hL;refine jI _ _ hL rfl rfl (by simp) ?_
    rw[UR];refine⟨λe he=>?_,?_,.inr (.inr ⟨q,p,x,k,rfl,?_,rfl⟩)⟩
    ·have he:=he;simp only[aD,eu,eA]at he;rcases he with rfl | rfl
     ·exact⟨k,tk,rfl,rfl⟩
     ·exact h0
    ·show [k,intOf e0.2].Perm ([x]++[k]);rw[hq];exact .swap x k []
    ·have h3:q≠(p:Nat):=λe=>hne (_root_.Fin.ext e)
     have h4:¬(p:Nat)<(q:Nat):=fx;show(q:Nat)<(p:Nat)
     lia
  ·simp at hx
end
end
end PySem
namespace PySem
open PyProof.Rows
def om(val:Nat->Int):Nat->List Int
 | 0=>[]
 | i+1=>kW (om val i) (val i)
theorem rY(val:Nat->Int):∀i,(om val i).length<=i
 | 0=>ay _
 | i+1=>by
  have:=rY val i;unfold om kW;split
  ·lia
  ·simp;lia
section
variable {prog:Program} {w:World} {A:Around} {R:Result->Shared->Prop} {I:Addr} {fp wr:List Addr} {G:Array GenState->Array GenState->Prop} {n:Nat} {P:Nat->Value->Prop} {St:Nat->Shared->Prop}
def zX(W:WalksS prog w A.in1 I fp wr G n P St)(S:Addr)(hSf:S∉fp)(val:Nat->Int)(De:∀i v,P i v->∃t,v=.int (val i) t)(Zh:∀i,i<n->0<=val i/\val i<64)(hn:n<=2)(led:Bool) :
  ∀(k i:Nat) (s:Shared),n-i=k->i<=n->St i s->(∃es ep t,s.heap.get? S=some (dJ es ep t)/\eY led (om val i) es t) ->
   (∀s',Moved (S::wr) G s s'->(∃es ep t,s'.heap.get? S=some (dJ es ep t)/\eY led (om val n) es t)->R (.ok (.ret .none)) s') ->
   codeAny (model prog w) A (.builtin "set.update.loop" ⟨[.ref S,.ref I],[]⟩) R s:=by
 have Zi:S∉wr:=λh=>hSf (W.sub _ h)
 have zE:∀b∈wr,b∈S::wr:=by grind
 intro k;induction k with
 | zero =>
  intro i s hk hi qU hS hR;have G3:i=n:=by lia
  subst G3;refine nI F.entry_set_update_loop ?_;rw[qA BB _];refine af (W.done s _ _ qU λs' hm=>?_)
  exact aj (hR s' (hm.mono zE) (by
   obtain⟨es,ep,t,ho,rest⟩:=hS;exact⟨es,ep,t,hm.heap S _ Zi ho,rest⟩))
 | succ k ih =>
  intro i s hk hi qU hS hR;have fx:i<n:=by lia
  refine nI F.entry_set_update_loop ?_;rw[qA BB _];refine af (W.item i s _ _ fx qU λv s' hP US hm=>?_)
  obtain⟨t,rfl⟩:=De i v hP;obtain⟨es,ep,tb,ho,h2⟩:=hS;have nh:=hm.heap S _ Zi ho;refine af (ez ?_);unfold setAdd;refine ez ?_;refine af ((intKind prog w).pyHash (intKind_is _ _ _ _) ?_);have hl1:=rY val i;refine Dd nh h2 (Zh i fx) (by lia) λb h' um ep1 t1 hsb hS2 h2'=>?_
  refine aj ⟨wz BB _,ih (i+1) _ (by lia) fx (W.frame _ s' _ _ US (Nat.le_succ _) λb hb o e=>?_) ⟨um,ep1,t1,hS2,h2'⟩ λJf UT UU=>?_⟩
  ·rw[hsb.2 b (λh:b=S=>hSf (by grind))];exact e
  ·refine hR Jf (Moved.trans W.gtrans ((hm.mono zE).then_heap (Nat.le_succ _) λb o hb e=>?_) UT) UU
   rw[hsb.2 b (λh:b=S=>hb (by grind))];exact e
end
section
variable {prog:Program} {w:World} {A:Around} {E:Value->Shared->Prop} {s:Shared}
def uo(a:Value)
  (h:Q₁ (.ref s.heap.objs.size) {s with heap:=s.heap.push {cls:=.type "set",dict:=none,data:=.set #[] 0 (.fresh 0 0 (!BT w))}}) :
  codeAny (model prog w) A (.call (.builtin "set.__new__") ⟨[.type "set",a],[]⟩) (wants Q₁ E) s:=by
 refine codeAny_of_tree ?_;refine af (wB (F.newCall_set_1 a) (aj ⟨wz F.plain_set_new _,nI F.entry_set_new ?_⟩));rw[qA F.plain_set_new _];unfold Builtin.«set.__new__» Builtin.Frozenset.newClass;have zE:=sub_set_self;obtain⟨hp,g,d,tk,os⟩:=s;dsimp only
 wp_walk
 refine B4 (aj ?_);dsimp only
 simp only[newObj];refine af (wpAny_alloc (aj ?_));exact aj h
end
def eY.nil(led:Bool):eY led [] #[] (iM #[] led):=by
 refine⟨λe he=>?_,List.Perm.refl _,.inl ⟨rfl,rfl,rfl⟩⟩
 cases he
section
variable {prog:Program} {w:World} {A:Around} {E:Value->Shared->Prop} {s:Shared}
set_option maxHeartbeats 3200000 in
theorem zY(hh:A.handled=none)(hl:s.heap.IsList l items)(hi:IntsAre items.toList ns)(hb:items.size<=2)(Zh:∀i,i<items.size->0<=ns.getD i 0/\ns.getD i 0<64)
  (h:∀(h':Heap) (tk:Nat) es ep t,h'.get? s.heap.objs.size=some (dJ es ep t)->eY (!BT w) (om (λi=>ns.getD i 0) items.size) es t->(∀b o,b<s.heap.objs.size->s.heap.get? b=some o->h'.get? b=some o)->Q (.ref s.heap.objs.size) {s with heap:=h',toks:=tk}) :
  wpAny (model prog w) A (call (.type "set") [.ref l]) Q E s:=by
 obtain⟨c,tl,ag9⟩:=F.called_set.mro;have ae4:=F.called_set.made;have zE:=F.called_set.sub;refine qL (codeAny_of_tree ?_);refine aj ⟨Code.quiet_builtin _ (by decide +kernel),nI F.entry_type_call ?_⟩
 rw[Around.under_plain (weight_type_call_type "set" [.ref l] []) rfl];have h1:=F.called_set.notType;have h2:=F.called_set.canCreate;have hct:=F.typeCall_set_1 (.ref l)
 repeat (any_goals (first | assumption | wp_step))
 refine jV (uo (.ref l) (E:=E) (Q₁:=λobj s₁=>obj=.ref s.heap.objs.size/\s₁={s with heap:=s.heap.push {cls:=.type "set",dict:=none,data:=.set #[] 0 (.fresh 0 0 (!BT w))}}) ⟨rfl,rfl⟩) λr s₁ hr=>?_
 cases r with
 | error e=>exact hr
 | ok fl =>
  cases fl with
  | ret obj =>
   obtain⟨rfl,rfl⟩:=hr;obtain⟨led,adp⟩:∃led,led = !BT w:=⟨_,rfl⟩
   rw[<-adp];have hS:(s.heap.push {cls:=.type "set",dict:=none,data:=.set #[] 0 (.fresh 0 0 led)}).get? s.heap.objs.size=some {cls:=.type "set",dict:=none,data:=.set #[] 0 (.fresh 0 0 led)}:=bX _ rfl
   have hT:Shared.TypeIs {s with heap:=s.heap.push {cls:=.type "set",dict:=none,data:=.set #[] 0 (.fresh 0 0 led)}} (.ref s.heap.objs.size) "set":=⟨_,hS,rfl⟩
   have hli:=F.called_set.init.lookup;have hbi:=F.called_set.init.bind (.ref s.heap.objs.size)
   repeat (any_goals (first | assumption | wp_step))
   refine jV (codeAny_call_builtin (R:=wants (λr Gb=>r=.none/\∃h' tk,Gb={s with heap:=h',toks:=tk} /\
     (∃es ep t,h'.get? s.heap.objs.size=some (dJ es ep t)/\eY led (om (λi=>ns.getD i 0) items.size) es t) /\
     (∀b o,b<s.heap.objs.size->s.heap.get? b=some o->h'.get? b=some o)) E) F.called_set.init.plain F.entry_set_init (check_set_init_1 hT ?_)) λadq Gb Kk=>?_
   ·obtain⟨ol,WM,hcl,nl,QS⟩:=hl;obtain⟨ads,Ri,Zj,Kl⟩:=ol;simp only at hcl QS;subst hcl;subst QS;have adt:(s.heap.push {cls:=.type "set",dict:=none,data:=.set #[] 0 (.fresh 0 0 led)}).get? l=some {cls:=.type "list",dict:=Ri,data:=.seq items nl,slots:=Kl}:=aZ _ WM
    have aha:=F.sub_list_set;have ahb:=F.sub_list_frozenset;have hne:(Value.type "list"==Value.type "dict")=false:=by decide
    have hl1:(s.heap.push {cls:=.type "set",dict:=none,data:=.set #[] 0 (.fresh 0 0 led)}).IsList l items:=⟨_,adt,rfl,nl,rfl⟩
    unfold Builtin.«set.__init__» noKeywords Builtin.Frozenset.updateFrom
    generalize hPI:pyIter=PI
    wp_walk
    subst hPI;refine BY hl1 ?_;refine af (wpAny_runValue ?_);have hlS:l<s.heap.objs.size:=aW WM;have De:∀(i:Nat) (v:Value),items[i]?=some v->∃t,v=.int ((λi=>ns.getD i 0) i) t:=λi v hv =>
     PyProof.Rows.IntsAre.int_at hi i v (by grind)
    refine zX ((Walks.list (by simp[hh]) _ l (by rw[nJ];exact bI (BU hlS)) items).toS) s.heap.objs.size (by
     rw[nJ];simp only[aD,aB,eu,eA,not_or];exact⟨bI (qF _),qK hlS⟩) (λi=>ns.getD i 0) De Zh hb led (items.size-0) 0 _ (by lia) (dI _)
     ⟨⟨_,bX _ rfl,rfl,rfl⟩,(hl1.push _)⟩ ?hS0 ?hR
    case hS0 =>
     exact⟨#[],0,iM #[] led,aZ _ hS,eY.nil led⟩
    case hR =>
     intro s' hm Zk;obtain⟨h',g',d',Mw,Ts⟩:=s';have eg:g'=s.gens:=hm.gens;have ed:d'=s.drawn:=hm.drawn;have eo:Ts=s.os:=hm.os;subst eg;subst ed;subst eo;show wpAny _ _ _ _ _ _;refine aj ?_;show wpAny _ _ (ret Value.none) _ _ _;refine aj ⟨rfl,h',Mw,rfl,Zk,λb o hb e=>?_⟩
     have hb1:b≠s.heap.objs.size:=by grind
     have hb2:b≠(s.heap.push {cls:=.type "set",dict:=none,data:=.set #[] 0 (.fresh 0 0 led)}).objs.size:=by
      rw[nJ];exact bI (BU hb)
     exact hm.heap b o (by grind) (aZ _ (aZ _ e))
   ·cases adq with
    | error e=>exact Kk
    | ok Zl =>
     cases Zl with
     | ret r =>
      obtain⟨rfl,h',tk,rfl,⟨es,ep,t,Zk,h2'⟩,QZ⟩:=Kk
      repeat (any_goals (first | assumption | wp_step))
      exact h _ _ es ep t Zk (by grind) QZ
     | _=>exact Kk.elim
  | _=>exact hr.elim
end
section
variable {prog:Program} {w:World} {A:Around} {E:Value->Shared->Prop} {s:Shared} {a:Addr} {es:Array (Int×Value)} {ep:Nat} {t:SetTable}
def uq(hh:A.handled=none)(hS:s.heap.get? a=some (dJ es ep t))(h2:eY (!BT w) xs es t)
  (h:∀(h1 h':Heap) (tk:Nat) (D:Addr) (gk:Array Value) (WN:List Int) (e:Nat),(∀b o,s.heap.get? b=some o->h1.get? b=some o)->(∀b o,h1.get? b=some o->h'.get? b=some o)->h1.objs.size<=D->h'.get? D=some (seqObj "list" gk e)->IntsAre gk.toList WN->WN.Perm xs->WN.Pairwise (· <= ·)->Q (.ref D) {s with heap:=h',toks:=tk}) :
  wpAny (model prog w) A (call (.builtin "sorted") [.ref a]) Q E s:=by
 have g:fz w a ep es t:=h2.good;obtain⟨f1,f2,f3⟩:=h2.fits;refine Calls.call_function_entry kind_sorted plain_sorted entry_sorted (args_sorted1 _) ?_;unfold Builtin.«sorted»;refine af (aj ?_);refine af (W.kdu_collect (Oy g) (by simp[hh]) hS (bA f3 (by decide)) λh' tk acc hk oo=>?_)
 have adu:acc.toList=(lO w a ep es).toList.map (·.2):=by
  refine List.ext_getElem? λj=>?_
  rw[bH,vX,vX];by_cases hj:j<es.size
  ·have h1:j<acc.size:=by rw[oo.1];exact hj
   obtain⟨e,he,hv⟩:=oo.2 j acc[j] (by simp[h1])
   rw[he];simp[h1,hv]
  ·have h1:acc[j]?=none:=by
    have:=oo.1;simp;lia
   have h2:(lO w a ep es)[j]?=none:=by
    have:=g.size;simp;lia
   rw[h1,h2];rfl
 have hop:=zU w a ep es;have Zm:=(hop.map _).trans h2.2.1;have eG:acc.toList.length<=2:=by
  rw[jQ,oo.1];exact f3
 refine af (wpAny_newList ?_ (bA eG (by decide)))
 have Xq:(h'.push (seqObj "list" acc.toList.toArray 0)).get? h'.objs.size=some (seqObj "list" acc.toList.toArray 0):=bX _ rfl;show wpAny _ _ _ _ _ {s with heap:=h'.push (seqObj "list" acc.toList.toArray 0),toks:=tk}
 refine af (ez (fN slot_list_sort ⟨_,Xq,rfl⟩ entry_list_sort (list_sort_tree Xq (by
  rw[adu];exact zV _ λe he=>by
   obtain⟨k,tk,q,_⟩:=h2.1 e (hop.mem_iff.mp he);exact⟨k,tk,q⟩) (by lia) λgk WN a1 a2 a3=>⟨_,rfl,?_⟩) (args_list_sort _)))
 obtain⟨e,xp⟩:=sortedHeap_at Xq;refine aj ⟨_,rfl,h h' _ tk h'.objs.size gk WN e hk (λb o hb=>?_) (ay _) xp a1 (a2.trans Zm) a3⟩
 have fx:=aW hb;rw[sortedHeap_old (bI fx) (by rw[size_push'];exact BU fx)]
 exact aZ _ hb
end
end PySem
namespace L2.U
open PySem PySem.Spec PyProof.Rows
noncomputable def insI(x:Int):List Int->List Int
 | []=>[x]
 | y::r=>if x<=y then x::y::r else y::insI x r
def mI:List Int->List Int
 | []=>[]
 | x::r=>insI x (mI r)
theorem oq(x:Int):∀l:List Int,(insI x l).Perm (x::l)
 | []=>.refl _
 | y::r=>by
  unfold insI;split
  ·exact .refl _
  ·exact((oq x r).cons y).trans (.swap x y r)
theorem lP:∀l:List Int,(mI l).Perm l
 | []=>.refl _
 | x::r=>(oq x (mI r)).trans ((lP r).cons x)
theorem EV(x:Int):∀l:List Int,l.Pairwise (· <= ·)->(insI x l).Pairwise (· <= ·)
 | [],_=>List.pairwise_singleton _ _
 | y::r,h=>by
  obtain⟨h1,h2⟩:=BS.mp h;unfold insI;split
  ·rename_i hx;refine BS.mpr ⟨λz hz=>?_,h⟩
   rcases aD.mp hz with rfl | hz
   ·exact hx
   ·exact Int.le_trans hx (h1 z hz)
  ·rename_i hx;refine BS.mpr ⟨λz hz=>?_,EV x r h2⟩
   rcases aD.mp ((oq x r).mem_iff.mp hz)with rfl | hz
   ·lia
   ·exact h1 z hz
theorem zZ:∀l:List Int,(mI l).Pairwise (· <= ·)
 | []=>.nil
 | x::r=>EV x _ (zZ r)
def Df:∀{us:List Value} {ns:List Int},IntsAre us ns->Vals (ns.map V.int) us:=by
 intro us ns h;induction h with
 | nil=>exact .nil
 | cons a t _ ih=>exact .cons ⟨t,rfl⟩ ih
theorem ou{K:W.Frag}:∀ns:List Int,az K F (ns.map .int) (ns.map V.int)
 | []=>.nil
 | n::r=>.cons (aG.mpr rfl) (ou r)
section
variable {X:Cx} {aa:Hp} {ab:Fz} {e o:Expr} {fe fo:Gx PV} {pos p Dg zp ap cp:Pos}
def Aa(h:starEach [e] X.env=(false,eval e X.env)::starEach [] X.env)(hq:wpAny M A (eval e X.env) (λv s1=>Q [v] s1) E s):wpAny M A (spliced (backTo pos (starEach [e] X.env))) Q E s:=by
 rw[h];exact Calls.spliced_cons (thn hq λv s1 q=>Calls.spliced_nil q)
def Ab:bootBuiltins "sorted"=some (.builtin "sorted"):=by kernel_rfl
def Km:bootBuiltins "set"=some (.type "set"):=by kernel_rfl
def Zn(h:List aq)(p:PV):Option PV:=(CM h p).bind λqs=>(rG qs).bind λns=>if(ns.length<=2/\ns.all (λn=>decide (0<=n/\n<64))=true)then some (.lst ((mI (om (λi=>ns.getD i 0) ns.length)).map .int))else none
def Ko(fe:Gx PV):Gx PV:=bnd fe λp=>hp λh=>Zn h p
def UW(hh:X.A.handled=none)(Zo:Gl X "sorted")(Zp:X.mg "sorted"=none)(hg:Gl X "set")(hm:X.mg "set"=none)(he:PE X e (tE X aa ab fe))(hs:starEach [e] X.env=[(false,eval e X.env)]) :
  PE X (.Call (.Name "sorted" p) [.Call (.Name "set" zp) [e] [] Dg] [] pos) (tE X aa ab (Ko fe)):=by
 rintro ae s σ H Q I ⟨F,st,Rp,h⟩
 have hA:=he ae s σ H (λv H1=>∃F1 bc q,Rep X.K aa ab F1 bc σ H1/\bO X.K F1 q v/\Tx X aa ab (bO X.K) F1 bc (hp λh=>Zn h q) σ Q) I ⟨F,st,Rp,h.bnd λq v F1 bc H1 R1 g1 b1 h1=>⟨F1,bc,q,R1,b1,h1⟩⟩
 refine iY (ld_blt I Zo Zp Ab ?_ (by decide) (by decide))
 refine Ig (Aa rfl ?_) rfl rfl;refine Call_ (ld_blt I hg hm Km (il (Aa hs (thn hA λu s1 z9=>?_)) hs rfl))
 obtain⟨v,H1,I1,r1,F1,bc,q,R1,b1,h1⟩:=z9;obtain⟨o,e0,k⟩:=h1.hp;obtain⟨qs,e1,e0⟩:=aY e0;obtain⟨ns,f2,e0⟩:=aY e0;obtain⟨⟨WL,hal⟩,rfl⟩:=aN e0;obtain⟨a,vs,rfl,ha,jx⟩:=R1.at (iI e1) b1;cases r1;obtain⟨aH,r,pl,_⟩:=I1.list (kF.sq ha);have ev:=rH f2 jx;subst ev;have hi:=q8 r;have eG:aH.length=ns.length:=by rw[<-r.length,ak]
 have hsz:aH.toArray.size=ns.length:=by grind
 refine zY hh pl.isList hi (by lia) (λi hi'=>?_) λh' tk Xl ep t hS h2 hk=>?_
 ·simp_all
 ·rw[hsz]at h2;have I2:Inv X ae σ H1 {s1 with heap:=h',toks:=tk}:=I1.kept λb o e=>hk b o (aW e) e
  refine uq hh hS h2 λh1 h'' Mw D gk WN e k1 k2 hD xp hI hp hu=>?_
  have I3:=I2.kept (t':=Mw) k1;have e1:=W.ksm_same (hp.trans (lP _).symm) hu (zZ _);subst e1;have hz:=I3.hok.fresh hD;obtain⟨R2,s2⟩:=R1.laid (.lst ((mI (om (λi=>ns.getD i 0) ns.length)).map V.int)) hz
  refine⟨.ref D,cg H1 D (.lst ((mI (om (λi=>ns.getD i 0) ns.length)).map V.int)),I3.laid k2 hD ⟨?_,gk.toList,e,Df hI,xp⟩,rfl,k _ _ _ R2 s2 (fY.mpr ⟨_,_,rfl,kF.of aA,ou _⟩)⟩
  rw[ak,(lP _).length_eq];have:=rY (λi=>ns.getD i 0) ns.length
  exact bA this (bA WL (by decide))
noncomputable def adv:PV->Option PV
 | .str a=>some (.bl (Txt.isdigit a))
 | _=>none
def UX(fo:Gx PV):Gx PV:=bnd fo λp=>jK (adv p)
def G4:XX X "str.isdigit" (λx xs H Q=>∃a,x=.str a/\xs=[]/\Q (.bl (Txt.isdigit a)) H):=by
 rintro ae s σ H x xs v us Q I rx rs ⟨a,e1,e2,q⟩
 subst e1 e2;obtain⟨t,rfl⟩:=rx;have hus:=rs.zero;subst hus;exact SC.isdigit ⟨.bl _,H,I,rfl,q⟩
def Zq(ho:PE X o (tE X aa ab fo))(hb:attributeBase o "isdigit" X.env (eval o X.env)=eval o X.env)(iG:(ap.endLine==cp.line)=true):PE X (.Call (.Attribute o "isdigit" ap) [] [] cp) (tE X aa ab (UX fo)) :=
 (Jl F.plainAttrs_str F.slot_str_isdigit F.type_str_isdigit G4 ho hb iG).imp λσ H Q ⟨F,st,R,h⟩=>⟨F,st,R,h.bnd λp v F1 bc H1 R1 g1 b1 h1=>by
  obtain⟨o,e,z⟩:=h1.jK;cases p<;>cases e
  rw[cL.mp b1];exact⟨rfl,_,rfl,rfl,z _ H1 F1 R1 (Gr.refl _) (bZ.mpr rfl)⟩⟩
end
end L2.U
namespace PySem
open PyProof.Rows
namespace F
def fA:entryFor table "dict.update.loop"=some Builtin.«dict.update.loop» := entryFor_of_tree (by kernel_rfl)
def cP:plainId "dict.update.loop"=true:=by decide +kernel
end F
section
variable {prog:Program} {w:World} {K:Type} [DecidableEq K] {knd:KeyKind prog w K} {A:Around} {R:Result->Shared->Prop} {I:Addr} {fp wr:List Addr} {G:Array GenState->Array GenState->Prop} {n:Nat} {P:Nat->Value->Prop} {St:Nat->Shared->Prop}
def Ac(h:Heap)(b:Addr)(key v:Value):Prop:=∃o m,h.get? b=some o/\o.cls=.type "tuple"/\o.data=.seq #[key,v] m
def pT(hp:Ac s.heap b key v)(h:Q [key,v] s):wpAny (model prog w) A (Builtin.Dict.pairItems (.ref b)) Q E s:=by
 obtain⟨o,m,h1,h2,h3⟩:=hp;unfold Builtin.Dict.pairItems;refine af (nM ⟨o,h1,h2⟩ ?_);rw[if_pos (by decide)]
 refine af ?_;unfold seqItems?;obtain⟨ads,Ri,Zj,Kl⟩:=o;simp only at h2 h3;subst h2 h3
 wp_walk
 exact h
def G5(W:WalksS prog w A.in1 I fp wr G n P St)(S:Addr)(hSf:S∉fp)(hl:kvs.length=n)(hn:n<=sizeLine){s₀:Shared}
  (De:∀i v,P i v->∃b k key u,v=.ref b/\kvs[i]?=some (k,u)/\knd.is k key=true/\b∉S::wr/\Ac s₀.heap b key u) :
  ∀(c i:Nat) (s:Shared),n-i=c->i<=n->St i s->(∀b o,b∉S::wr->s₀.heap.get? b=some o->s.heap.get? b=some o)->s.heap.DictOf knd S (merged [] (kvs.take i)) ->
   (∀s',Moved (S::wr) G s s'->s'.heap.DictOf knd S (merged [] kvs)->R (.ok (.ret .none)) s') ->
   codeAny (model prog w) A (.builtin "dict.update.loop" ⟨[.ref S,.ref I,rawInt (i:Int),.none],[]⟩) R s:=by
 have Zi:S∉wr:=λh=>hSf (W.sub _ h)
 have zE:∀b∈wr,b∈S::wr:=by grind
 intro c;induction c with
 | zero =>
  intro i s hk hi qU ho hS hR;have G3:i=n:=by lia
  subst G3;refine nI F.fA ?_;rw[qA F.cP _];refine af (W.done s _ _ qU λs' hm=>?_)
  refine af (aj ?_);rw[qy (ja ‹_›)]at hS;refine aj (hR s' (hm.mono zE) ?_);obtain⟨o,es,ep,h1,r⟩:=hS;exact⟨o,es,ep,hm.heap S _ Zi h1,r⟩
 | succ c ih =>
  intro i s hk hi qU ho hS hR;have fx:i<n:=by lia
  refine nI F.fA ?_;rw[qA F.cP _];refine af (W.item i s _ _ fx qU λv s' hP US hm=>?_)
  obtain⟨b,k,key,u,rfl,hki,Tj,hbn,Zr⟩:=De i v hP;have nh:∀b o,b∉S::wr->s₀.heap.get? b=some o->s'.heap.get? b=some o:=λb o hb e=>hm.heap b o (λz=>hb (aF _ z)) (ho b o hb e)
  refine af (ez ?_);refine af (wpAny_tryCatch (pT (by
   obtain⟨o,m,h1,r⟩:=Zr;exact⟨o,m,nh b o hbn h1,r⟩) ?_))
  refine ez ?_;have hsz:(merged [] (kvs.take i)).length<=sizeLine:=by
   have:=merged_length_le ([]:List (K×Value)) (kvs.take i);rw[lr]at this;simp at this
   lia
  refine wpAny_dictSet_pairs Tj (by
   obtain⟨o,es,ep,h1,r⟩:=hS;exact⟨o,es,ep,hm.heap S _ Zi h1,r⟩) λh' hd hsb=>?_
  rw[<-merged_take_succ _ _ _ _ hki]at hd;have adw:∀b o,b∉S::wr->s₀.heap.get? b=some o->h'.get? b=some o:=λb o hb e=>(hsb.2 b (λh:b=S=>hb (by grind))).trans (nh b o hb e)
  refine aj ⟨wz F.cP _,ih (i+1) _ (by lia) fx (W.frame _ s' _ _ US (qG ..) λb hb o e=>?_) adw hd λJf UT UU=>?_⟩
  ·exact(hsb.2 b (λh:b=S=>hSf (by grind))).trans e
  ·refine hR Jf (Moved.trans W.gtrans ((hm.mono zE).then_heap (qG ..) λb o hb e=>?_) UT) UU
   exact(hsb.2 b (λh:b=S=>hb (by grind))).trans e
end
namespace F
def uu:typeLookup (.type "tuple") "keys"=pure none:=by rw[B7,BL];kernel_rfl
end F
section
variable {prog:Program} {w:World} {A:Around} {E:Value->Shared->Prop} {s:Shared} {a:Addr} {o:Obj} {xs:Array Value} {k:Nat} {Q:Option Value->Shared->Prop}
def pU(hx:s.heap.get? a=some o)(hc:o.cls=.type "tuple")(CN:o.data=.seq xs k)(hd:o.dict=none)(hA:A.handled=none)
  (h:∀h' tk,(∀b ob,s.heap.get? b=some ob->h'.get? b=some ob)->Q none {s with heap:=h',toks:=tk}) :
  wpAny (model prog w) A (getAttr? (.ref a) "keys") Q E s:=by
 obtain⟨c,dct,dat,sl⟩:=o;simp only at hc CN hd;subst hc CN hd;obtain⟨hp,g,d,tk,os⟩:=s;have hT:∀Mw,(⟨hp,g,d,Mw,os⟩:Shared).TypeIs (.ref a) "tuple":=λ_=>⟨_,hx,rfl⟩
 have f1:=sub_AttributeError;have f3:=By.lookup;have f4:=By.bind (.ref a);have f5:=am_tuple_getattr_none;unfold getAttr? getAttrBy? getAttrBy
 repeat (any_goals (first | assumption | exact hT _ | ((with_reducible show wpAny _ _ (call (Value.builtin "tuple.__getattribute__") _ _) _ _ _);refine lD By (hT _) am_entry_tuple_getattribute (F.args_tuple_getattribute_2 _ _) (meets_getattribute_miss_tuple a xs k sl "keys" _ F.uu (by decide +kernel) (by decide +kernel)) ⟨hx,hA,λh' Mw e CK=>?_⟩) | wp_step))
 obtain⟨t',u',he⟩:=CK.there;show wpAny _ _ (getattributeRaised _ _ _ _ _ _ _) _ _ _;unfold getattributeRaised
 repeat (any_goals (first | assumption | wp_step))
 exact h _ _ CK.keeps
end
section
variable {prog:Program} {w:World} {A:Around} {E:Value->Shared->Prop} {s:Shared} {K:Type} [DecidableEq K] {knd:KeyKind prog w K}
def Dh(hh:A.handled=none)(hx:s.heap.get? l=some ol)(hc:ol.cls=.type "tuple")(CN:ol.data=.seq items m)(hdn:ol.dict=none)
  (hi:∀(i:Nat) (v:Value),items[i]?=some v->∃b k key u,v=.ref b/\kvs[i]?=some (k,u)/\knd.is k key=true/\Ac s.heap b key u) (hlk:kvs.length=items.size) (hb:items.size<=sizeLine)
  (h:∀(h':Heap) (tk:Nat),h'.DictOf knd s.heap.objs.size (merged [] kvs)->(∀b o,b<s.heap.objs.size->s.heap.get? b=some o->h'.get? b=some o)->Q (.ref s.heap.objs.size) {s with heap:=h',toks:=tk}) :
  wpAny (model prog w) A (call (.type "dict") [.ref l]) Q E s:=by
 refine callType_codes (Q₁:=λobj s₁=>obj=.ref s.heap.objs.size/\s₁={s with heap:=s.heap.push {cls:=.type "dict",data:=.dict #[]}}) F.kt_called_dict (F.kt_typeCall_dict_1 _) F.entry_dict_init (kt_code_dict_new _ ⟨rfl,rfl⟩) ?_
 rintro obj s₁ ⟨rfl,rfl⟩
 have UY:(s.heap.push {cls:=.type "dict",data:=.dict #[]}).DictOf knd s.heap.objs.size []:=Heap.DictOf.new s.heap
 have CK:(s.heap.push {cls:=.type "dict",data:=.dict #[]}).get? l=some ol:=aZ _ hx
 have hlS:=aW hx;refine⟨UY.typeIs,F.args_dict_init_2 _ _,?_⟩;unfold Builtin.«dict.__init__»;refine af ?_;unfold Builtin.Dict.selfAndRest;refine af (BH UY.typeIs ?_);refine aj ?_;show wpAny _ _ (Builtin.Dict.updateFrom "dict.__init__" s.heap.objs.size (.ref l) [] .none) _ _ _;unfold Builtin.Dict.updateFrom;refine af (nM ⟨ol,CK,hc⟩ ?_);rw[if_pos (by decide)]
 refine af (pU CK hc CN hdn (by simp[hh]) λh2 tk2 kp=>?_)
 rw[if_pos (show(none:Option Value).isNone=true from rfl)]
 have Zs:=kp l ol CK;have Rj:h2.DictOf knd s.heap.objs.size []:=by
  obtain⟨o,es,ep,h1,r⟩:=UY;exact⟨o,es,ep,kp _ _ h1,r⟩
 have ht2:h2.IsTuple l items:=⟨ol,Zs,hc,m,CN⟩;refine af (nQ ?_);refine af ?_;refine BR ht2 ?_;refine aj ⟨wz F.cP _,?_⟩;have hSI:s.heap.objs.size<h2.objs.size:=by
  obtain⟨o,_,_,h1,_⟩:=Rj;exact aW h1
 have adz:=bI (nN hlS hSI);have De:∀i (v:Value),items[i]?=some v->∃b k key u,v=.ref b/\kvs[i]?=some (k,u)/\knd.is k key=true/\b∉[s.heap.objs.size,h2.objs.size]/\Ac s.heap b key u:=λi v hv=>by
  obtain⟨b,k,key,u,e1,e2,e3,e4⟩:=hi i v hv;refine⟨b,k,key,u,e1,e2,e3,?_,e4⟩;obtain⟨o,_,ho,_⟩:=e4;have:=aW ho;simp only[aD,eu,eA,not_or];exact⟨bI this,bI (nN this hSI)⟩
 refine G5 (knd:=knd) (s₀:=s) ((Walks.tuple (by simp[hh]) h2.objs.size l adz items).toS) s.heap.objs.size (by grind) hlk hb De (items.size-0) 0 _ (by lia) (dI _) ⟨⟨_,bX _ rfl,rfl,rfl⟩,ht2.push _⟩ (λb o _ e=>aZ _ (kp _ _ (aZ _ e))) ?_ ?_
 ·obtain⟨o,es,ep,h1,r⟩:=Rj;exact⟨o,es,ep,aZ _ h1,r⟩
 ·intro s' hm Zk;obtain⟨h',g',d',Mw,Ts⟩:=s';have eg:g'=s.gens:=hm.gens;have ed:d'=s.drawn:=hm.drawn;have eo:Ts=s.os:=hm.os;subst eg;subst ed;subst eo;refine⟨rfl,h h' Mw Zk λb o hb e=>?_⟩
  refine hm.heap b o ?_ (aZ _ (kp _ _ (aZ _ e)));simp only[aD,eu,eA,not_or];exact⟨bI hb,bI (nN hb hSI)⟩
end
end PySem
namespace L2.U
open PySem PySem.Spec PyProof.Rows
section
variable {X:Cx} {a b:Expr} {ta tb:TE} {p cp bp:Pos}
def o9(K:W.Frag)(H:Hp):List V->List (bz×V)->Prop:=Paired λv kv=>∃c,v=.ref c/\gU K H c [kV kv.1,kv.2]
def mJ(kvs:List (bz×V)):List (bz×V):=kvs.foldl (λacc kv=>putK acc kv.1 kv.2) []
def Zt(K:W.Frag):R2:=λx y H Q=>∃a b xs ys kvs,x=.ref a/\y=.ref b/\gU K H a xs/\gU K H b ys/\xs≠[]/\ys≠[]/\xs.length+ys.length<=1000/\o9 K H (xs++ys) kvs/\∀p,H p=none->Q (.ref p) (cg H p (.dK (mJ kvs)))
theorem Ad:∀{kvs:List (bz×V)} {vs:List (bz×Value)} {acc:List (bz×V)} {Zu:List (bz×Value)},L2.KV kvs vs->L2.KV acc Zu->L2.KV (kvs.foldl (λacc kv=>putK acc kv.1 kv.2) acc) (vs.foldl (λacc kv=>stored acc kv.1 kv.2) Zu)
 | _,_,_,_,.nil,h=>h
 | _,_,_,_,.cons (a:=x) r t,h=>by
  have h2:=h.put x.1 r.2;rw[B6,B6];rw[r.1]at h2 ⊢;exact Ad (t) h2
def Kp(f:List (bz×V)):∀acc:List (bz×V),(f.foldl (λacc kv=>putK acc kv.1 kv.2) acc).length<=acc.length+f.length:=by
 induction f with
 | nil=>intro acc;simp
 | cons x f ih =>
  intro acc;have:=ih (putK acc x.1 x.2);have:=EE acc x.1 x.2;rw[B6,aK]
  lia
theorem EW(I:Inv X ae σ H s):∀{vs:List V} {kvs:List (bz×V)},o9 X.K H vs kvs->∀{us:List Value},Vals vs us->∃WO:List (bz×Value),L2.KV kvs WO/\WO.length=us.length/\∀(i:Nat) (u:Value),us[i]?=some u->∃b k key w,u=.ref b/\WO[i]?=some (k,w)/\(cf X.prog X.w).is k key=true/\Ac s.heap b key w
 | _,_,.nil,us,r=>by
  cases r;exact⟨[],.nil,rfl,λi u h=>by cases h⟩
 | _,_,.cons (b:=kv) q t,us,r=>by
  cases r with
  | cons r1 r2 =>
   obtain⟨WO,g1,g2,g3⟩:=EW I t r2;obtain⟨c,rfl,hs⟩:=q;obtain⟨aH,rr,⟨o,h1,h2,n,h3⟩,_⟩:=I.tuple hs;obtain⟨key,w,e,hk,hw⟩:=rr.two;subst e;cases r1;refine⟨(kv.1,w)::WO,.cons ⟨rfl,hw⟩ g1,by rw[aK,aK,g2],λi u hu=>?_⟩
   cases i with
   | zero =>
    cases hu;exact⟨c,kv.1,key,w,rfl,rfl,rf hk,o,n,h1,h2,h3⟩
   | succ i=>exact g3 i u hu
def OD(hh:X.A.handled=none)(hg:Gl X "dict")(hm:X.mg "dict"=none)(ha:PE X a ta)(hb:PE X b tb)(hs:starEach [.BinOp a .Add b bp] X.env=[(false,eval (.BinOp a .Add b bp) X.env)]):PE X (.Call (.Name "dict" p) [.BinOp a .Add b bp] [] cp) (WH (Zt X.K) ta tb):=by
 intro ae s σ H Q I h;refine Call_ (ld_blt I hg hm (show bootBuiltins "dict"=some (.type "dict") by decide +kernel) (il (Aa hs (wpAny_BinOp (M8 ha hb I h λv u s2 x y H2 I2 rx ry q=>?_))) hs rfl))
 obtain⟨t1,t2,xs,ys,kvs,rfl,rfl,h1,h2,h3,h4,h5,h6,q⟩:=q;cases rx;cases ry;obtain⟨aH,r1,p1,_⟩:=I2.tuple h1;obtain⟨gM,r2,p2,_⟩:=I2.tuple h2;have hz:aH.length+gM.length<=1000:=by rw[<-r1.length,<-r2.length];exact h5
 have ae9:1000<=sizeLine:=by decide
 refine HT.Ei p1 p2 (λz=>h3 (r1.me.mp z)) (λz=>absurd (r2.me.mp z) h4) (λz=>?_) (bA ‹_› ‹_›)
 obtain⟨WO,g1,g2,g3⟩:=EW I2 h6 (r1.append r2);obtain⟨OF,ahh⟩:=nw (s2.heap.push {cls:=.type "tuple",data:=.seq (aH++gM).toArray})
 have hsz:(aH++gM).toArray.size=aH.length+gM.length:=by simp
 refine Dh (knd:=cf X.prog X.w) hh (bX _ rfl) rfl rfl rfl (λi v hv=>?_) (by rw[g2];simp) (by grind) λh' tk dd kp=>?_
 ·rw[List.getElem?_toArray]at hv;obtain⟨c,k,key,w,e1,e2,e3,o,n,e4,e5⟩:=g3 i v hv;exact⟨c,k,key,w,e1,e2,e3,o,n,aZ _ e4,e5⟩
 ·have hS:s2.heap.objs.size<=(s2.heap.push {cls:=.type "tuple",data:=.seq (aH++gM).toArray}).objs.size:=by simp_all
  have NA:=Ad g1 .nil;refine⟨.ref _,_,I2.laid (λb u e=>kp b u (bY (aW e) hS) (aZ _ e)) hS ?_,rfl,q _ (I2.hok.fresh hS)⟩
  refine⟨?_,fK.mpr (dt (bI (bY (rg I2) hS))),_,NA,dd⟩;have:=Kp kvs [];have e:=nK g1;rw[aR]at g2;unfold mJ;simp only[wj]at this
  lia
end
def EX:PV->Option (bz×PV)
 | .nd .ao [k,v]=>(zy k).map λj=>(j,v)
 | _=>none
def vg:List (bz×PV)->aq->aq
 | [],c=>c
 | (k,v)::r,c=>match c.k with
  | .dU t ks=>vg r (lL t [k] v ks c.ps)
  | _=>c
def G6(ps:List PV):Option aq:=if ps.length<=1000 then(cJ EX ps).map λkvs=>vg kvs ⟨.dU false [],[]⟩else none
section
variable {K:W.Frag} {F:Fz}
theorem Ae:∀{ps:List PV} {kvs:List (bz×PV)} {vs:List V},cJ EX ps=some kvs->az K F ps vs->∃ks:List (bz×V),o9 K F.F vs ks/\ks.map (·.1)=kvs.map (·.1)/\az K F (kvs.map (·.2)) (ks.map (·.2))
 | [],_,_,h,b=>by
  cases h;rw[b.cO];exact⟨[],.nil,rfl,.nil⟩
 | p::ps,kvs,vs,h,b=>by
  obtain⟨kv,r,h1,h2,rfl⟩:=fP h;obtain⟨v,w,rfl,b1,b2⟩:=b.cj;obtain⟨ks,g1,g2,g3⟩:=Ae h2 b2;unfold EX at h1;split at h1
  ·rename_i k q;obtain⟨j,e1,rfl⟩:=bj h1;obtain⟨c,ws,rfl,hs,hb⟩:=cw.mp b1;obtain⟨x,y,rfl,bx,bq⟩:=mx hb;rw[rK e1 bx]at hs;exact⟨(j,y)::ks,.cons ⟨c,rfl,hs⟩ g1,by rw[aI,aI,g2],.cons bq g3⟩
  ·cases h1
theorem EY:∀{kvs:List (bz×PV)} {ks:List (bz×V)} {acc:List (bz×V)} {ps:List PV},ks.map (·.1)=kvs.map (·.1)->az K F (kvs.map (·.2)) (ks.map (·.2))->az K F ps (acc.map (·.2)) ->
  ∃jz oX,vg kvs ⟨.dU false (acc.map λy=>[y.1]),ps⟩=⟨.dU false jz,oX⟩/\(ks.foldl (λacc kv=>putK acc kv.1 kv.2) acc).map (λy=>[y.1])=jz/\az K F oX ((ks.foldl (λacc kv=>putK acc kv.1 kv.2) acc).map (·.2))
 | [],ks,acc,ps,h1,h2,h3=>by
  have:=List.map_eq_nil_iff.mp h1;subst this;exact⟨_,_,rfl,rfl,h3⟩
 | (k,q)::kvs,[],acc,ps,h1,h2,h3=>by cases h1
 | (k,q)::kvs,(j,v)::ks,acc,ps,h1,h2,h3=>by
  simp only[aI,B9]at h1;obtain⟨rfl,h1⟩:=h1;obtain⟨v',w,e,b1,b2⟩:=h2.cj;cases e;obtain⟨jz,oX,e1,e2,e3⟩:=JE b1 h3;obtain⟨ks2,ps2,e4,e5,e6⟩:=EY h1 b2 e3;refine⟨ks2,ps2,?_,e5,e6⟩;show vg kvs (lL false [j] q (acc.map λy=>[y.1]) ps)=_
  rw[e1,<-e2];exact e4
end
def OG{K:W.Frag}(h:G6 ps=some c)(b:az K F ps vs):∃ks:List (bz×V),o9 K F.F vs ks/\ps.length<=1000/\∃jz qs,c=⟨.dU false jz,qs⟩/\(mJ ks).map (λy=>[y.1])=jz/\az K F qs ((mJ ks).map (·.2)):=by
 obtain⟨hl,h⟩:=b6 h;obtain⟨kvs,h1,rfl⟩:=bj h;obtain⟨ks,g1,g2,g3⟩:=Ae h1 b;obtain⟨jz,oX,e1,e2,e3⟩:=EY (acc:=[]) g2 g3 .nil;exact⟨ks,g1,hl,jz,oX,e1,e2,e3⟩
theorem o9.mono{K:W.Frag}(h:cG F G):∀{vs:List V} {ks:List (bz×V)},o9 K F vs ks->o9 K G vs ks
 | _,_,.nil=>.nil
 | _,_,.cons ⟨c,e,q⟩ t=>.cons ⟨c,e,bu h q⟩ (o9.mono h t)
def OH:PV->Option (List PV)
 | .nd .ao ps=>some ps
 | _=>none
def adA(p q:PV):Gx PV:=λst=>(OH p).bind λps=>(OH q).bind λqs=>if(ps.isEmpty || qs.isEmpty)=true then none else(G6 (ps++qs)).bind λc=>kJ c st
def EZ(fa fb:Gx PV):Gx PV:=bnd fa λp=>bnd fb λq=>adA p q
section
variable {X:Cx} {aa:Hp} {ab:Fz} {a b e:Expr} {fa fb fe:Gx PV} {p cp bp:Pos}
def UZ(hh:X.A.handled=none)(hg:Gl X "dict")(hm:X.mg "dict"=none)(ha:PE X a (tE X aa ab fa))(hb:PE X b (tE X aa ab fb))(hs:starEach [.BinOp a .Add b bp] X.env=[(false,eval (.BinOp a .Add b bp) X.env)]):PE X (.Call (.Name "dict" p) [.BinOp a .Add b bp] [] cp) (tE X aa ab (EZ fa fb)) :=
 (OD hh hg hm ha hb hs).imp λσ H Q ⟨F,st,R,h⟩=>⟨F,st,R,h.bnd λq v F1 bc H1 R1 g1 b1 h1=>⟨F1,bc,R1,h1.bnd λq2 v2 F2 d0 H2 R2 g2 b2 h2=>by
  obtain⟨r,e1,e2⟩:=h2;obtain⟨ps,e3,e1⟩:=aY e1;obtain⟨qs,e4,e1⟩:=aY e1;split at e1
  ·cases e1
  ·rename_i hne;obtain⟨c,e5,e1⟩:=aY e1;have t1:q=.ao ps:=by
    unfold OH at e3;split at e3
    ·grind
    ·cases e3
   have t2:q2=.ao qs:=by
    unfold OH at e4;split at e4
    ·grind
    ·cases e4
   subst t1 t2;obtain⟨a1,vs,rfl,hs1,hb1⟩:=cw.mp (b1.mono g2);obtain⟨a2,ws,rfl,Mq,hb2⟩:=cw.mp b2;obtain⟨ks,k1,hl,jz,oX,rfl,e6,e7⟩:=OG e5 (hb1.append hb2);simp only[Cc,v3,not_or]at hne;rw[aR]at hl;refine⟨a1,a2,vs,ws,ks,rfl,rfl,bu R2.sub hs1,bu R2.sub Mq,λz=>hne.1 ?_,λz=>hne.2 ?_,by rw[<-hb1.length,<-hb2.length];exact hl,k1.mono R2.sub,λp hp=>?_⟩
   ·subst z;exact k9 hb1.length
   ·subst z;exact k9 hb2.length
   ·exact Tx.kJ (show Tx X aa ab (bO X.K) F2 d0 (kJ ⟨.dU false jz,oX⟩) σ Q from⟨r,e1,e2⟩) R2 hp ⟨mJ ks,aA,e6,rfl⟩ e7⟩⟩
end
noncomputable def U0:List PV->Option (List Int)
 | [.int n]=>if 0<=n/\n<=1000 then some (rangeInts 0 1 n.toNat)else none
 | [.int a,.int b]=>if 0<=a/\a<=b/\b<=1000 then some (rangeInts a 1 (b-a).toNat)else none
 | _=>none
def Af(m:Nat)(ps:List PV):Gx PV:=λst=>match m with
 | 0=>some (.ok (.lst ps),st)
 | _=>kJ ⟨.lst,ps⟩ st
def lrg(m:Nat)(ts:Gx (List PV)):Gx PV:=bnd ts λps=>bnd (jK (U0 ps)) λl=>Af m (l.map .int)
def boot_range:bootBuiltins "range"=some (.type "range"):=by kernel_rfl
section
variable {X:Cx} {aa:Hp} {ab:Fz} {e:Expr} {es:List Expr} {ts:Gx (List PV)} {pos p Dg zp:Pos} {m:Nat}
def Tx.Af{st:cx}(h:Tx X aa ab (bO X.K) F st (Af m ps) σ Q)(R:Rep X.K aa ab F st σ H)(hq:H q=none)(hb:az X.K F ps vs):Q (.ref q) (cg H q (.lst vs)):=by
 cases m with
 | zero =>
  obtain⟨r,e1,e2⟩:=h;cases e1;obtain⟨R2,s2⟩:=R.laid (.lst vs) hq;exact e2 _ _ _ R2 s2 (fY.mpr ⟨q,vs,rfl,kF.of aA,hb.mono s2⟩)
 | succ m=>exact Tx.kJ (h) R hq aA hb
def Di(h:ItemsOf (fun(i:Nat) (v:Value)=>∃t:Tok,v=Value.int (a+i*c) t) acc n):Vals ((rangeInts a c n).map V.int) acc.toList:=by
 have:∀l k,(∀j v,l[j]?=some v->∃t:Tok,v=Value.int (a+(k+j:Nat)*c) t)->Vals (((List.range' k l.length).map fun(i:Nat)=>a+i*c).map V.int) l:=by
  intro l;induction l with
  | nil=>intro k _;exact .nil
  | cons x l ih =>
   intro k hx;obtain⟨t,ht⟩:=hx 0 x rfl;rw[aK,List.range'_succ,aI,aI];refine .cons ⟨t,by rw[ht];rfl⟩ (ih (k+1) λj v hv=>?_)
   have:=hx (j+1) v (by simpa using hv)
   rw[show k+(j+1)=k+1+j by lia]at this
   exact this
 have h2:=this acc.toList 0 λj v hv=>by
  rw[gr];exact h.2 j v (by rw[<-vX];exact hv)
 rw[jQ,h.1,<-List.range_eq_range']at h2;exact h2
def Zv(hh:X.A.handled=none)(Zo:Gl X "list")(Zp:X.mg "list"=none)(hg:Gl X "range")(hm:X.mg "range"=none)(ha:PA X (e::es) (tA X aa ab ts))(hs:starEach (e::es) X.env=(false,eval e X.env)::starEach es X.env)(Mq:(backTo Dg (starEach es X.env)).any (·.1)=false) :
  PE X (.Call (.Name "list" p) [.Call (.Name "range" zp) (e::es) [] Dg] [] pos) (tE X aa ab (lrg m ts)):=by
 rintro ae s σ H Q I ⟨F,st,Rp,h⟩
 refine iY (ld_blt I Zo Zp (kz .list) ?_ (by decide) (by decide))
 refine il (Aa rfl ?_) rfl rfl;have hA:=ha Dg ae s σ H (λvs H'=>∃F' cC ps,Rep X.K aa ab F' cC σ H'/\az X.K F' ps vs/\Tx X aa ab (bO X.K) F' cC (bnd (jK (U0 ps)) λl=>Af m (l.map .int)) σ Q) I ⟨F,st,Rp,h.bnd λps vs F1 bc H1 R1 g1 b1 h1=>⟨F1,bc,ps,R1,b1,h1⟩⟩
 refine Call_ (ld_blt I hg hm boot_range (il (thn hA λus s1 z9=>?_) hs Mq))
 obtain⟨vs,H1,I1,r1,F1,bc,ps,R1,b1,h1⟩:=z9;obtain⟨ns,f2,h1⟩:=At.jK (At.bnd h1);have jI:∀r h1 tk1 (a b c:Int) (t u v:Tok) (n:Nat),(∀b o,s1.heap.get? b=some o->h1.get? b=some o)->IsRange h1 r a b c t u v->Builtin.Range.small a b c=true->Builtin.Range.rangeSize a b c=n->n<=3000->ns=rangeInts a c n ->
   wpAny (model X.prog X.w) X.A (call (.type "list") [.ref r]) (EP X ae σ Q) X.xe {s1 with heap:=h1,toks:=tk1}:=λr h2 tk1 a b c t u v n hk hr Zh hn CS Jp=>by
  refine call_list_range hh hr Zh hn (by lia) λh' tk acc c' hk2 hS oo=>?_
  have I2:=I1.kept (t':=tk1) hk;have hz:=I2.hok.fresh (ay _);have hv:=Di oo;rw[<-Jp]at hv;refine⟨.ref h2.objs.size,cg H1 h2.objs.size (.lst (ns.map V.int)),I2.laid hk2 (ay _) ⟨?_,acc.toList,c',hv,hS⟩,rfl,Tx.Af h1 R1 hz (ou ns)⟩;rw[ak,Jp,rangeInts_length];exact bA CS (by decide)
 clear h1;unfold U0 at f2;split at f2
 ·rename_i n;obtain⟨⟨h0,h1⟩,e1⟩:=aN f2;obtain⟨v,rfl,bv⟩:=dN b1;rw[aG.mp bv]at r1;obtain⟨u,rfl,ru⟩:=js r1;obtain⟨tk0,rfl⟩:=ru;refine call_range_1 ?_;refine jI _ _ _ 0 n 1 _ _ _ n.toNat (λb o e=>aZ _ e) (IsRange.new ..) ?_ ?_ (by lia) e1.symm
  ·exact small_one (by decide) (by decide) (by lia) (by lia)
  ·unfold Builtin.Range.rangeSize;rw[if_pos (by decide)]
   split<;>lia
 ·rename_i a b;obtain⟨⟨h0,h1,h2⟩,e1⟩:=aN f2;obtain⟨v1,v2,rfl,bv1,bv2⟩:=mx b1;rw[aG.mp bv1,aG.mp bv2]at r1;obtain⟨u1,u2,rfl,YQ,ru2⟩:=QD r1;obtain⟨k1,rfl⟩:=YQ;obtain⟨k2,rfl⟩:=ru2;refine call_range_2 ?_;refine jI _ _ _ a b 1 _ _ _ (b-a).toNat (λb o e=>aZ _ e) (IsRange.new ..) (small_one (by lia) (by lia) (by lia) (by lia)) (rangeSize_nat a b) (by lia) e1.symm
 ·cases f2
end
end L2.U
namespace PySem
open PyProof.Rows PySem.W
section
variable {prog:Program} {w:World} {A:Around} {d:Addr} {es:Array DictEntry} {ep:Nat}
def Raw.at{h h':Heap}(x:Raw h d es ep)(e:∀o,h.get? d=some o->h'.get? d=some o):Raw h' d es ep:=let ⟨o,ho,r⟩:=x;⟨o,e _ ho,r⟩
def G7(hh:A.handled=none)(I:Addr)(hne:d≠I):Walks prog w A I [I,d] [I] es.size (λi v=>∃e,es[i]?=some e/\e.key=v) (λi h=>h.IsKeyIter I d i es.size ep/\Raw h d es ep) where
 sub:=λb hb=>by simp at hb;simp[hb]
 frame:=λ_ _ _ st hk=>⟨st.1.at λo e=>hk I (by simp) o e,st.2.at λo e=>hk d (by simp) o e⟩
 item:=λi s Q E hi st hQ=>mE hh st.1 st.2 (λe he h' it hs=>hQ _ h' s.toks ⟨e,he,rfl⟩ ⟨it,st.2.at λo x=>hs.extBut d o hne x⟩ λb o hb x=>hs.extBut b o (λz=>hb (by simp[z])) x) λz=>by rw[Bx hi]at z;cases z
 done:=λs Q E st hQ=>mE hh st.1 st.2 (λe he=>by rw[BG (ay _)]at he;cases he) λ_ h' eb=>hQ h' s.toks λb o hb x=>eb b o (λz=>hb (by simp[z])) x
 self:=λ_ _ _ _ st h=>wpAny_pyIter_keyiter st.1 h
def OI(lo:(d==sysModules)=false):KdlSrc prog w "dict" d d es.size (λi v=>∃e,es[i]?=some e/\e.key=v) (λh=>Raw h d es ep) where
 type:=λ_ ⟨o,ho,hc,_⟩=>⟨o,ho,hc.1⟩
 there:=λ_ ⟨_,ho,_⟩=>⟨aW ho,aW ho⟩
 keep:=λ_ _ hm hk=>hm.at λo e=>hk d (.inl rfl) o e
 notList:=by decide
 notTuple:=by decide
 hint:=λ_ _ _ _ ⟨o,ho,hc,_⟩ hq=>kdl_hint_dict ⟨o,ho,hc.1⟩ hq
 iter:=λ_ _ hh hm=>⟨_,_,(λ_ _ hq=>zJ lo hm hq),G7 hh _ (by obtain⟨o,ho,_⟩:=hm;exact bI (aW ho)),⟨⟨_,bX _ rfl,rfl,rfl⟩,hm.at λo e=>aZ _ e⟩⟩
end
end PySem
namespace L2.U
open PySem PySem.Spec PyProof.Rows
def OJ(m:Nat)(fe:Gx PV):Gx PV:=bnd fe λp=>bnd (hp λh=>(mB h p).bind λq=>J1 q.2.k) λks=>Af m (ia ks)
section
variable {X:Cx} {aa:Hp} {ab:Fz} {e:Expr} {fe:Gx PV} {pos p:Pos} {m:Nat}
theorem Rl{K:W.Frag}{F:Fz}:∀{xs:List (List bz×Addr×Value)},eX K F.F xs->az K F (ia (xs.map (·.1))) (xs.map λz=>V.ref z.2.1)
 | [],_=>.nil
 | z::xs,h=>.cons (cw.mpr ⟨_,_,rfl,h z aE,qd _⟩) (Rl λy hy=>h y (aF _ hy))
theorem Rm:∀(xs:List (List bz×Addr×Value)) (us:List Value),us.length=xs.length->(∀(j:Nat) (u:Value),us[j]?=some u->∃z:List bz×Addr×Value,xs[j]?=some z/\u=Value.ref z.2.1)->Vals (xs.map λz=>V.ref z.2.1) us
 | [],[],_,_=>.nil
 | [],_::_,h,_=>nomatch h
 | _::_,[],h,_=>nomatch h
 | z::xs,u::us,h,hu=>by
  obtain⟨y,h1,rfl⟩:=hu 0 u rfl;cases h1;exact .cons rfl (Rm xs us (Nat.succ.inj h) λj v hv=>hu (j+1) v (by simpa using hv))
def U1(hh:X.A.handled=none)(Zo:Gl X "list")(Zp:X.mg "list"=none)(he:PE X e (tE X aa ab fe))(hs:∀es,starEach (e::es) X.env=(false,eval e X.env)::starEach es X.env):PE X (.Call (.Name "list" p) [e] [] pos) (tE X aa ab (OJ m fe)):=by
 rintro ae s σ H Q I ⟨F,st,Rp,h⟩
 refine iY (ld_blt I Zo Zp (kz .list) ?_ (by decide) (by decide))
 refine il (Aa (hs []) ?_) (hs []) rfl;have hA:=he ae s σ H (λv H'=>∃F' cC q,Rep X.K aa ab F' cC σ H'/\bO X.K F' q v/\Tx X aa ab (bO X.K) F' cC (bnd (hp λh=>(mB h q).bind λc=>J1 c.2.k) λks=>Af m (ia ks)) σ Q) I ⟨F,st,Rp,h.bnd λq v F1 bc H1 R1 g1 b1 h1=>⟨F1,bc,q,R1,b1,h1⟩⟩
 refine thn hA λu s1 z9=>?_
 obtain⟨x,H1,I1,r1,F1,bc,q,R1,b1,h1⟩:=z9;obtain⟨ks,f2,h1⟩:=At.hp (At.bnd h1);obtain⟨⟨n,c⟩,d1,d2⟩:=aY f2;obtain⟨rfl,hc1,hl⟩:=gG d1;obtain⟨a,ha,rfl⟩:=dj.mp b1;cases r1;obtain⟨ck,cp⟩:=c;have d2:J1 ck=some ks:=d2;cases ck with
 | dU t jz =>
  cases t with
  | false=>cases d2
  | true =>
   cases d2;obtain⟨hf,ws,⟨xs,k1,k2,k3,k4⟩,hv⟩:=R1.c.cell n _ a hc1 ha hl;subst k3;obtain⟨hz,hS,o,es,ep,e1,e2,e3,e4,e5⟩:=I1.hok a _ k1;have dd:Raw s1.heap a es ep:=⟨o,e1,e2,e3⟩;have sz:=size_of_entries e4;refine W.kdl_call (OI hS) hh dd (by rw[sz];exact hz) λh' tk acc c' hk hD oo=>?_
   have hn:=I1.hok.fresh (ay s1.heap.objs.size);have hV:Vals (xs.map λz=>V.ref z.2.1) acc.toList:=Rm xs acc.toList (by rw[jQ,oo.1,sz]) λj u hu=>by
    obtain⟨en,h3,rfl⟩:=oo.2 j u (by rw[<-vX];exact hu)
    rw[entry_at e4]at h3;obtain⟨z,h4,rfl⟩:=jN.mp h3;exact⟨z,h4,rfl⟩
   exact⟨.ref s1.heap.objs.size,cg H1 s1.heap.objs.size (.lst (xs.map λz=>V.ref z.2.1)),I1.laid hk (ay _) ⟨by rw[ak];exact hz,acc.toList,c',hV,hD⟩,rfl,Tx.Af h1 R1 hn (Rl k2)⟩
 | _=>cases d2
end
def Itv(K:W.Frag)(a:Addr)(n:Nat):It :=
 ⟨λi H=>i<n/\∃xs,ud K H a xs/\xs.length=n,λi H x H'=>H'=H/\∀xs,ud K H a xs->xs[n-1-i]?=some x,λi H=>n<=i⟩
def Kq{P:Program}{w:World}{K:W.Frag}{tg:Expr}(a it:Addr)(n:Nat):Turn P w K tg (Itv K a n) [it] it (λi h=>i<=n/\h.IsRevIter it a ((n:Int)-1-(i:Int))) where
 mem:=by simp
 obj:=λi h st b hb=>by
  rw[aB]at hb;subst hb;obtain⟨o,e,c,d⟩:=st.2;exact⟨o,e,λv z=>by rw[d]at z;cases z⟩
 keep:=λi h h' st k=>⟨st.1,st.2.at λo e=>k it (by simp) o e⟩
 item:=by
  intro X hP hw hK hc i ae s σ H E I hf st hg;subst hP hw hK;obtain⟨hi,xs,hq,hn⟩:=hg;obtain⟨aH,rv,p,hz⟩:=I.list hq;obtain⟨x,hx⟩:∃x,xs[n-1-i]?=some x:=⟨_,bW (by lia)⟩
  obtain⟨u,hu,ru⟩:=rv.get hx;obtain⟨f0,f1,f2,f3,f4,f5⟩:=hf it (by simp)
  have d0:=st.2;rw[show(n:Int)-1-(i:Int)=((n-1-i:Nat):Int) by lia]at d0
  refine wpAny_pyNext_rev_item d0 p.isList (by simpa using hu) λh' cC sb=>?_
  rw[show((n-1-i:Nat):Int)-1=(n:Int)-1-((i+1:Nat):Int) by lia]at cC
  have I1:=I.turned (t':=s.toks) (λb o hb e=>(sb.2 b hb).trans e) f0 f1 f3 f4 f5
  obtain⟨o,e,c,d⟩:=id cC;exact⟨u,rfl,yW e c d (by decide) ⟨x,H,I1,ru,⟨rfl,λys hy=>by rw[I.j0 hy hq];exact hx⟩,⟨hi,cC⟩,λb hb=>(hf b hb).1⟩⟩
 done:=by
  intro X hP hw hK hc i ae s σ H E I hf st hg;subst hP hw hK;obtain⟨f0,f1,f2,f3,f4,f5⟩:=hf it (by simp)
  have hg:n<=i:=hg;have d0:=st.2;rw[show(n:Int)-1-(i:Int) = -1 by have:=st.1;lia]at d0
  exact wpAny_pyNext_rev_end (I.ok.hd hc) d0 λh' eb=>⟨rfl,I.turned (λb o hb e=>eb b o hb e) f0 f1 f3 f4 f5⟩
 self:=λ_ _ _ _ _ st h=>wpAny_pyIter_revIter st.2 h
def uv:bootBuiltins "reversed"=some (.type "reversed"):=by kernel_rfl
def U2:PV->Option (List PV)
 | .nd .lst ps=>some ps
 | _=>none
def OK(fa:Gx PV):Gx (List PV):=bnd fa λp=>jK ((U2 p).map List.reverse)
def Kr{K:W.Frag}{F:Fz}(k1:kF K F.F a vs)(b1:az K F ps vs):Walk K F ps.reverse (Itv K a vs.length):=by
 intro aa ab F' st σ H R s i;have h1:=(mj (s.s.trans R.sub) k1).sq;have hl:=b1.length;refine⟨λp e=>?_,λe=>?_⟩
 ·have hi:i<ps.reverse.length:=(bM.mp e).1;rw[BQ]at hi;rw[List.getElem?_reverse hi,hl]at e;obtain⟨v,e1,c1⟩:=b1.get e;refine⟨⟨by lia,vs,h1,rfl⟩,λx H' z=>?_⟩
  obtain⟨rfl,z⟩:=z;have:=z vs h1;rw[e1]at this;cases this;exact⟨F',R,Gr.refl _,c1.mono s⟩
 ·have:=jL.mp e;rw[BQ,hl]at this;exact this
section
variable {X:Cx} {aa:Hp} {ab:Fz} {a tg:Expr} {fa:Gx PV} {pos p:Pos}
def Zw(hg:Gl X "reversed")(hm:X.mg "reversed"=none)(ha:PE X a (tE X aa ab fa))(hs:starEach [a] X.env=[(false,eval a X.env)]):PI X tg (.Call (.Name "reversed" p) [a] [] pos) (tI X aa ab (OK fa)):=by
 rintro ae s σ H R I ⟨F,st,Rp,h⟩
 have hA:=hJ ha nZ hs pos ae s σ H (λvs H'=>∃F' cC x pa ps,vs=[x]/\Rep X.K aa ab F' cC σ H'/\bO X.K F' pa x/\U2 pa=some ps/\∀b YO Jv,Rep X.K aa ab Jv cC σ YO->Gr F' Jv->Walk X.K Jv ps.reverse b->R b YO) I
  ⟨F,st,Rp,h.bnd λp v F1 bc H1 R1 g1 b1 h1=>by
   obtain⟨o,e,z⟩:=h1.jK;obtain⟨ps,e1,rfl⟩:=bj e;exact⟨F1,bc,v,p,ps,rfl,R1,b1,e1,z⟩⟩
 refine Call_ (ld_blt I hg hm uv (il (thn hA λus s1 z9=>?_) hs rfl))
 obtain⟨vs,H1,I1,r1,F1,bc,x,pa,ps,ev,R1,b1,f3,q⟩:=z9;subst ev;obtain⟨u1,rfl,YQ⟩:=js r1;obtain rfl:pa=.lst ps:=by
  unfold U2 at f3;split at f3
  ·cases f3;rfl
  ·cases f3
 obtain⟨l,ws,rfl,k1,bl⟩:=fY.mp b1;cases YQ;obtain⟨aH,rv,pl,hz⟩:=I1.list (mj R1.sub k1).sq;have I2:Inv X ae σ H1 {s1 with heap:=s1.heap.push (revObj l ((aH.toArray.size:Int)-1))}:=I1.kept λb o e=>aZ _ e
 refine call_reversed_list pl.isList ?_;have st0:({s1 with heap:=s1.heap.push (revObj l ((aH.toArray.size:Int)-1))}:Shared).heap.IsRevIter s1.heap.objs.size l ((ws.length:Int)-1-((0:Nat):Int)):=⟨_,bX _ rfl,rfl,by
  have:=rv.length;simp[revObj,this]⟩
 refine wpAny_pyIter_revIter st0 ?_;refine⟨s1.heap.objs.size,[s1.heap.objs.size],_,_,H1,rfl,I2,Kq l _ ws.length,⟨dI _,st0⟩,λb hb=>?_,q _ H1 F1 R1 (Gr.refl _) (Kr k1 bl)⟩
 rw[aB]at hb;subst hb;exact I1.Cm (ay _) (I1.hok.fresh (ay _))
end
section
variable {X:Cx}
def OL(op:Operator):Option G2:=T7 op
def Ks{op:Operator}{g:G2}(h:OL op=some g):u4 X (binaryOp op) g:=by
 exact NT h
end
structure Gm where
 sc:List (Str×NameKind)
 N:List Str
 own:Bool
 fns:List (Str×Nat)
 call:Str->oi
 cons:List (Str×PV)
 de:List Str
 tabs:List (Str×List (Str×Str))
 cls:List (Str×Nat)
 make:Str->oi
 clss:List Str
 flds:List Str
 /-- what adD in a cell: 1 a list,2 a list of cells,10 a dict PX keys are tuples -/
 W9:List (Str×Nat)
 tZ:Option ((PV->Gx PV)->Nat->oi)
 xq:Option (Nat×(PV->Gx PV))
def slot(Γ:Gm)(x:Str):Option Nat:=Γ.N.findIdx? (· == x)
noncomputable def M3(Γ:Gm)(x:Str):Bool:=match Γ.sc.lookup x with | some .local=>true | some .cell=>true | some .free=>true | _=>false
noncomputable def WQ(Γ:Gm)(x:Str):Bool:=match Γ.sc.lookup x with | some .local=>true | some .cell=>Γ.own | _=>false
noncomputable def yE(Γ:Gm)(x:Str):Bool:=match Γ.sc.lookup x with | some .globalImplicit=>true | _=>false
noncomputable def iq(x:Str):Bool:=!(x==("__debug__":Str))&&!(x==("__classdict__":Str))&&!(x==("__name__":Str))
noncomputable def md(Γ:Gm)(x:Str):Nat:=(Γ.W9.lookup x).getD 0
def G8(m:Nat):Nat:=if m<10 then m-1 else 0
def U3(X:Cx)(k:Nat)(fns:List (Str×Nat))(call:Str->oi):Prop:=∀x n,fns.lookup x=some n->∃j f fd ps,j<=k/\FnOk X.prog X.w X.K X.mg X.base (iH X.prog X.w) j f fd ps (GW X.K n (call x))/\X.mg x=some (.ref f)/\W.keepIn X.K (.ref f)=true/\gz X.K fd ps []
structure Kt (Γ:Gm) (X:Cx) (rs:(PV->Gx PV)->Nat->oi):Prop where
 ex:∃(st:Stmt) (fs:Addr) (Rg:FuncData) (pr Ns:List Str) (k:Nat) (rb:(PV->Gx PV)->Nat->Gx dE),rs=(λω n=>dQ (rb ω n) Ns.length)/\Cf X.K "spread" "spread" st fs Rg/\X.mg "spread"=some (.ref fs)/\gz X.K Rg pr []/\dD Ns pr (aw st)/\pr.length=2/\dG (k+2) X.A /\
  (∀(cS:Value) (A:Around) (ax:List Env) (s:Shared) (H:Hp) (E:XK) (aa:Hp) (ab:Fz) (n:Nat) (ω:PV->Gx PV),dG (k+1) (A.deeper (envOfC "spread" (aw st) s.heap.objs.size fs cS))->zS (fg (iH X.prog X.w) X.prog X.w X.K X.mg X.base Ns "spread" (aw st) fs cS A ax s H E) aa ab n ω ->
   PSs (fg (iH X.prog X.w) X.prog X.w X.K X.mg X.base Ns "spread" (aw st) fs cS A ax s H E) (dh st) (tS (fg (iH X.prog X.w) X.prog X.w X.K X.mg X.base Ns "spread" (aw st) fs cS A ax s H E) aa ab (rb ω n))) /\
  U3 X k Γ.fns Γ.call
 lam:Rf X
structure GOk (Γ:Gm) (X:Cx) (aa:Hp) (ab:Fz):Prop where
 names:X.env.scope.names=Γ.sc
 N:X.N=Γ.N
 nd:X.N.Nodup
 kind:X.env.scope.kind=.function
 calm:X.calm=true
 hd:X.A.handled=none
 un:X.A.units+1150<cLine
 own:Γ.own=true->∀x,X.fn x=true
 fns:Rb X Γ.fns Γ.call
 cons:∀x p,Γ.cons.lookup x=some p->∃u v,X.mg x=some u/\RelV v u/\∀F,bO X.K F p v
 de:∀x,Γ.de.contains x=true->X.mg x=none
 tabs:∀T rows,Γ.tabs.lookup T=some rows->EO X.K X.mg X.w.params T rows
 ns:∀x a,W.nsIn X.K mainGlobals x=some (some (.ref a))->X.mg x=some (.ref a)
 Rq:Ka X.K Γ.clss Γ.flds
 cls:∀C n,Γ.cls.lookup C=some n->∃k Ca f fd ps,ClsAt X.K C (.ref Ca)/\FX X.K Ca/\Mk X.K Ca f/\FnOk X.prog X.w X.K X.mg X.base (iH X.prog X.w) k f fd ps (GW X.K n (Γ.make C))/\dG (k+1) X.A/\X.mg C=some (.ref Ca)/\gz X.K fd ps []
 tZ:∀rs,Γ.tZ=some rs->Kt Γ X rs
 xq:∀n ω,Γ.xq=some (n,ω)->zS X aa ab n ω
def bC:Expr->Bool
 | .Starred _ _=>false
 | .Set _ _ _=>false
 | _=>true
def qf:Expr->Bool
 | .Slice _ _ _ _=>false
 | _=>true
def E2:Expr->Bool
 | .Tuple _ _ _=>false
 | .ListComp _ _ _ _=>false
 | .SetComp _ _ _ _=>false
 | .DictComp _ _ _ _ _=>false
 | _=>true
def lQ:Expr->Bool
 | .ListComp _ _ _ _=>false
 | .SetComp _ _ _ _=>false
 | .DictComp _ _ _ _ _=>false
 | _=>true
def xt:Expr->Bool
 | .Name _ _=>true
 | .Subscript _ _ _=>true
 | .Attribute _ _ _=>true
 | _=>false
def qg(h:xt e=true):attributeBase e f env (eval e env)=eval e env:=by
 cases e<;>first | rfl | cases h
def xu(h:E2 e=true):lQ e=true:=by
 cases e<;>first | rfl | cases h
def Dj:Expr->Bool
 | .UnaryOp .Not _ _=>false
 | .BoolOp _ _ _=>false
 | .IfExp _ _ _ _=>false
 | .Compare _ _ _ _=>false
 | _=>true
def bF(h:bC e=true)(es:List Expr)(env:Env):starEach (e::es) env=(false,eval e env)::starEach es env:=by
 cases e<;>first | rfl | cases h
def ib(h:bC e=true)(op:CmpOp):behindInMarks op e=false:=by
 cases e<;>first | rfl | cases h
def fV(h:bC e=true)(env:Env)(x:Value):foldedSetIterable e env x=pure x:=by
 cases e<;>first | rfl | cases h
def Ag(h:qf e=true):p8 e:=by
 intro o i;cases e<;>first | rfl | cases h
def Ku(h:Dj e=true)(env:Env)(jr:Sem Value):isTrue e env jr=(do let v <-jr;standAt e.pos;holding [v] (truthy v)):=by
 cases e with
 | UnaryOp op a p=>cases op<;>first | rfl | cases h
 | BoolOp _ _ _=>cases h
 | IfExp _ _ _ _=>cases h
 | Compare _ _ _ _=>cases h
 | _=>rfl
def ie(h:lQ e=true)(t:Option Expr)(l:Nat)(env:Env):swapsWith e t l env=pure false:=by
 cases e<;>first | rfl | cases h
def ig(h:es.all bC=true)(env:Env)(pos:Pos):(backTo pos (starEach es env)).any (·.1)=false:=by
 induction es with
 | nil=>rfl
 | cons e es ih =>
  rw[gL,aV]at h;rw[bF h.1];exact ih h.2
def Dk(h:es.all bC=true)(env:Env)(pos:Pos):(backTo pos (starEach es env)).all (λx=>!x.1)=true:=by
 induction es with
 | nil=>rfl
 | cons e es ih =>
  rw[gL,aV]at h;rw[bF h.1];exact ih h.2
def OM(h:es.all bC=true)(hl:es.length<30):((backTo cp (starEach es env)).all (λx=>!x.1)&&(backToKw cp (keywordEach [] env)).all (λx=>x.1.isSome)
   && decide (es.length+([]:List Keyword).length+(if([]:List Keyword).isEmpty then 0 else 1)<30))=true:=by
 rw[Dk h];simp only[Bool.true_and,aV,nF];exact⟨rfl,hl⟩
def kc(h:iq x=true):(x==("__debug__":Str))=false/\(x==("__classdict__":Str))=false/\x≠"__name__":=by
 unfold iq at h;simp only[aV,Bool.not_eq_true']at h;exact⟨h.1.1,h.1.2,by simpa using h.2⟩
noncomputable def xw:Nat->Gm->Expr->Option (Tg×List Nat)
 | 0,_,_=>none
 | n+1,Γ,e=>match e with
  | .Name x _=>if WQ Γ x=true then(slot Γ x).map λi=>(aU i,[i])else none
  | .Tuple es _ _=>(es.foldr (λe r=>(xw n Γ e).bind λg=>r.map λgs=>(c6 g.1 gs.1,g.2++gs.2)) (some (mn,[]))).map λgs=>(gC es.length gs.1,gs.2)
  | _=>none
def Kv(h:slot Γ x=some i):Γ.N[i]?=some x:=by
 unfold slot at h;obtain⟨hi,hp,_⟩:=vR.mp h;rw[bW hi];exact dB some (bf hp)
section
variable {Γ:Gm} {X:Cx} {x:Str} {pos:Pos} {aa:Hp} {ab:Fz}
def GOk.adE(G:GOk Γ X aa ab)(h:M3 Γ x=true):Xj X.env.scope x:=by
 unfold M3 at h;unfold Xj;rw[G.names];split at h<;>simp_all
def GOk.U4(G:GOk Γ X aa ab)(h:WQ Γ x=true):P5 X.env.scope x/\(X.fn x=true\/X.env.scope.names.lookup x=some .local):=by
 unfold WQ at h;unfold P5;rw[G.names];split at h
 ·grind
 ·rename_i z;exact⟨.inr z,.inl (G.own h x)⟩
 ·cases h
def GOk.jD(G:GOk Γ X aa ab)(h:yE Γ x=true):Gl X x:=by
 unfold yE at h;show X.env.scope.names.lookup x=_;rw[G.names];split at h
 ·assumption
 ·cases h
def GOk.rZ(G:GOk Γ X aa ab)(h:slot Γ x=some i):X.N[i]?=some x:=by
 rw[G.N];exact Kv h
theorem kB(G:GOk Γ X aa ab):∀(n:Nat) (e:Expr) (g:Tg×List Nat),xw n Γ e=some g->PG X e (tG X.K aa ab g.1)/\KG g.2 g.1/\(∀env:Env,(assignEach [e] env).map (·.2)=[assign e env])/\∀(es:List Expr) (env:Env),assignEach (e::es) env=(false,assign e env)::assignEach es env
 | 0,_,_,h=>by cases h
 | n+1,e,g,h=>by
  cases e with
  | Name x p =>
   have h:=h;obtain⟨hs,h⟩:=b6 h;obtain⟨i,z,rfl⟩:=bj h;obtain⟨h1,h2⟩:=G.U4 hs;exact⟨T4 i (MX G.nd (G.rZ z) h1 h2),N9 i,λ_=>rfl,λ_ _=>rfl⟩
  | Tuple es k p =>
   have all:∀es gs,es.foldr (λe r=>(xw n Γ e).bind λg=>r.map λgs=>(c6 g.1 gs.1,g.2++gs.2)) (some (mn,[]))=some gs ->
     PGs X es (Yu X.K aa ab gs.1)/\YN gs.2 gs.1/\∀env:Env,(assignEach es env).length=es.length/\(assignEach es env).findIdx? (·.1)=none:=by
    intro es;induction es with
    | nil =>
     intro gs h;cases h;exact⟨T5,Oa,λenv=>⟨rfl,rfl⟩⟩
    | cons e es ih =>
     intro gs h;rw[List.foldr_cons]at h;obtain⟨g1,e1,h⟩:=aY h;obtain⟨g2,z,rfl⟩:=bj h;obtain⟨a1,a2,a3,a4⟩:=kB G n e g1 e1;obtain⟨b1,b2,b3⟩:=ih g2 z;refine⟨NL a1 b1 (by grind),JL a2 b2,λenv=>?_⟩
     rw[a4];obtain⟨c1,c2⟩:=b3 env;exact⟨by rw[aK,aK,c1],by grind⟩
   have h:=h;obtain⟨gs,z,rfl⟩:=bj h;obtain⟨b1,b2,b3⟩:=all es gs z;exact⟨Yv G.calm b1 (b3 _).1 (b3 _).2,Us b2,λ_=>rfl,λ_ _=>rfl⟩
  | _=>cases h
def vh(G:GOk Γ X aa ab)(hn:iq x=true)(hv:M3 Γ x=true)(hs:slot Γ x=some i):PE X (.Name x pos) (MP i) :=
 pe_var (G.rZ hs) (G.adE hv) (kc hn).1 (kc hn).2.1
end
def xx(x:Str):Option GC :=
 if x==("len":Str)then some gv
 else if x==("tuple":Str)then some Gy
 else if x==("int":Str)then some Gz
 else if x==("sum":Str)then some GB
 else if x==("str":Str)then some GA
 else none
def Kw:bootBuiltins "sum"=some (.builtin "sum"):=by kernel_rfl
set_option maxHeartbeats 4000000 in
theorem U5(h:xx x=some g)(hh:X.A.handled=none)(hg:Gl X x)(hm:X.mg x=none)(ha:PA X (a::es) (tA X aa ab ts))
  (he:starEach (a::es) X.env=(false,eval a X.env)::starEach es X.env) (l8:(backTo pos (starEach es X.env)).any (·.1)=false):PE X (.Call (.Name x p) (a::es) [] pos) (tE X aa ab (gw g ts)):=by
 unfold xx at h;split at h
 ·rename_i e;cases h;have e:=bf e;subst e;exact(qY GD hg hm PySem.boot_len ha (by decide) (by decide) he l8).imp λ_ _ _ h=>mz h
 ·split at h
  ·rename_i e;cases h;have e:=bf e;subst e;exact(n6 GF hg hm (kz .tuple) ha (by decide) (by decide) he l8).imp λ_ _ _ h=>mz h
  ·split at h
   ·rename_i e;cases h;have e:=bf e;subst e;exact(n6 GG hg hm (kz .int) ha (by decide) (by decide) he l8).imp λ_ _ _ h=>mz h
   ·split at h
    ·rename_i e;cases h;have e:=bf e;subst e;exact(qY (GI hh) hg hm Kw ha (by decide) (by decide) he l8).imp λ_ _ _ h=>mz h
    ·split at h
     ·rename_i e;cases h;have e:=bf e;subst e;exact(n6 GH hg hm (kz .str) ha (by decide) (by decide) he l8).imp λ_ _ _ h=>mz h
     ·cases h
def xy:ScopeKind->Bool
 | .function=>true
 | _=>false
noncomputable def vi(scope:Scope):List Str:=(scope.names.filter λy=>match y.2 with | .local=>true | .free=>true | _=>false).map (·.1)
def gR(Γ:Gm)(scope:Scope):List (Option Nat):=(vi scope).map λx=>match scope.names.lookup x with | some .free=>slot Γ x | _=>none
noncomputable def Dl(Γ:Gm)(scope:Scope):List (Str×NameKind):=scope.names.map fun(n,k)=>if(k==NameKind.free&&Γ.sc.lookup n==some .cell)then(n,NameKind.cell)else(n,k)
def vj(Γ:Gm)(scope:Scope):Gm:={Γ with sc:=Dl Γ scope,N:=vi scope,own:=false,tZ:=none,xq:=none}
def r9(Γ:Gm)(scope:Scope)(L:List Nat):Bool :=
 xy scope.kind&&scope.names.all (λy=>match y.2 with
  | .cell=>false
  | .local=>(match scope.names.lookup y.1 with | some .local=>true | _=>false)
  | .free=>(match Γ.sc.lookup y.1 with | some .cell=>true | some .free=>true | _=>false)
  | _=>true)&&decide (vi scope).Nodup&&L.all λi=>match(gR Γ scope)[i]? with | some none=>true | _=>false
noncomputable def qh(a:Arguments):Option (Str×Pos):=match a.args with
 | [y]=>bif a.posonlyargs.isEmpty&&(a.vararg.isNone&&(a.kwonlyargs.isEmpty&&(a.kw_defaults.isEmpty&&(a.kwarg.isNone&&(a.defaults.isEmpty&&y.annotation.isNone)))))then some (y.arg,y.pos)else none
 | _=>none
def xA(h:qh args=some xa):args=oneArg xa.1 xa.2:=by
 obtain⟨po,as,va,ko,kd,kw,df⟩:=args;rcases as with _ | ⟨⟨x,an,ap⟩,_ | _⟩
 ·cases h
 ·cases po;rotate_left;cases h;cases va;rotate_left;cases h;cases ko;rotate_left;cases h;cases kd;rotate_left;cases h;cases kw;rotate_left;cases h;cases df;rotate_left;cases h;cases an;rotate_left;cases h;cases h;rfl
 ·cases h
noncomputable def isFree(k:Option NameKind):Bool:=match k with | some .free=>true | _=>false
def xB(scope:Scope):List Str:=(scope.names.filter λy=>isFree (some y.2)).map (·.1)
def qi(Γ:Gm)(scope:Scope):List (Option Nat):=(xB scope).map (slot Γ)
def Zx(Γ:Gm)(x:Str)(scope:Scope):Gm:={Γ with sc:=scope.names,N:=x::xB scope,own:=false,tZ:=none,xq:=none,cls:=[]}
def Kx(Γ:Gm)(x:Str)(scope:Scope):Bool :=
 xy scope.kind&&!scope.isCoroutine&&!scope.isGenerator&&(match scope.names.lookup x with | some .local=>true | _=>false)&&scope.names.all (λy=>match y.2 with
  | .cell=>false
  | .free=>(match Γ.sc.lookup y.1 with | some .cell=>true | some .free=>true | _=>false)&&isFree (scope.names.lookup y.1)
  | _=>true)&&decide (x::xB scope).Nodup
section
variable {Γ:Gm} {X:Cx} {scope:Scope} {L:List Nat} {aa:Hp} {ab:Fz}
def mK(h:r9 Γ scope L=true):scope.kind=.function/\(∀y∈scope.names,(match y.2 with
  | .cell=>false
  | .local=>(match scope.names.lookup y.1 with | some .local=>true | _=>false)
  | .free=>(match Γ.sc.lookup y.1 with | some .cell=>true | some .free=>true | _=>false)
  | _=>true)=true)/\(vi scope).Nodup/\∀i∈L,(gR Γ scope)[i]?=some none:=by
 unfold r9 at h;simp only[aV,gH,nF]at h;obtain⟨⟨⟨h1,h2⟩,h3⟩,h4⟩:=h;refine⟨?_,h2,h3,λi hi=>?_⟩
 ·unfold xy at h1;split at h1
  ·assumption
  ·cases h1
 ·grind
def Dn(G:GOk Γ X aa ab)(h:r9 Γ scope L=true):iJ X (vi scope) (gR Γ scope) scope:=by
 obtain⟨h1,h2,h3,h4⟩:=mK h;refine⟨h1,λy hy z=>?_,λy hy z=>?_,λy hy z=>?_,by unfold gR;rw[ak],λi j x hl hx=>?_⟩
 ·grind
 ·grind
 ·have:=h2 y hy;rw[z]at this;simp only at this;show X.env.scope.names.lookup y.1=_\/X.env.scope.names.lookup y.1=_;rw[G.names];split at this
  ·grind
  ·grind
  ·cases this
 ·unfold gR at hl;rw[bH,hx]at hl;have hl:(match scope.names.lookup x with | some .free=>slot Γ x | _=>none)=some j:=by grind
  split at hl
  ·exact⟨G.rZ hl,by assumption⟩
  ·cases hl
def Ky(G:GOk Γ X aa ab)(h:r9 Γ scope L=true)(C:Addr)(s:Shared)(H:Hp)(fp:List Addr)(xl:Hp)(rV:Fz):GOk (vj Γ scope) (cH X (vi scope) scope C s H fp) xl rV where
 names:=by
  show(relabel scope X.env).names=Dl Γ scope;have e:∀n,X.env.kindOf n=Γ.sc.lookup n:=λn=>by show X.env.scope.names.lookup n=_;rw[G.names]
  unfold Dl relabel;simp only[G.kind,e]
  congr 1
  funext y
  obtain⟨n,k⟩:=y;simp
 N:=rfl
 nd:=(mK h).2.2.1
 kind:=by
  exact(mK h).1
 calm:=G.calm
 hd:=G.hd
 un:=G.un
 own:=λz=>by cases z
 fns:=G.fns
 cons:=G.cons
 de:=G.de
 tabs:=G.tabs
 ns:=G.ns
 Rq:=G.Rq
 cls:=G.cls
 tZ:=λ_ z=>by cases z
 xq:=λ_ _ z=>by cases z
def Kz{i:Nat}(h:(xB scope)[i]?=some y):(y,NameKind.free)∈scope.names:=by
 have hm:=dm h;unfold xB at hm;obtain⟨z,hz,rfl⟩:=aM.mp hm;obtain⟨h1,h2⟩:=b9.mp hz;obtain⟨n,k⟩:=z;cases k<;>first | exact h1 | cases h2
def G9(h:isFree k=true):k=some .free:=by
 unfold isFree at h;split at h
 ·rfl
 ·cases h
def Ha{x:Str}(G:GOk Γ X aa ab)(h:Kx Γ x scope=true):rW X x (xB scope) (qi Γ scope) scope/\(x::xB scope).Nodup:=by
 unfold Kx at h;simp only[aV]at h;obtain⟨⟨⟨⟨⟨h1,h2⟩,h3⟩,h4⟩,h5⟩,h6⟩:=h;have Gq:=gH.mp h5;refine⟨⟨?_,by grind,by grind,?_,λy hy z=>?_,λy hy z=>?_,?_,λi j y e1 e2=>?_⟩,fL h6⟩
 ·unfold xy at h1;split at h1
  ·assumption
  ·cases h1
 ·grind
 ·grind
 ·have:=Gq y hy;rw[z]at this;simp only[aV]at this;have hk:X.env.kindOf y.1=Γ.sc.lookup y.1:=by show X.env.scope.names.lookup y.1=_;rw[G.names]
  rw[hk];have t:=this.1;split at t
  ·grind
  ·grind
  ·cases t
 ·unfold qi;rw[ak]
 ·have hm:=Kz e2;have:=Gq _ hm;simp only[aV]at this;refine⟨?_,G9 this.2⟩;unfold qi at e1;rw[bH,e2]at e1;exact G.rZ (cz e1)
def ON(G:GOk Γ X aa ab)(hk:scope.kind=.function)(hn:(x::xB scope).Nodup)(hf:U3 X k Γ.fns Γ.call)
  {stack:List Env} (hr:dG k (A.deeper (W.envX qual scope s.heap.objs.size fa cS cl))) (xl:Hp) (rV:Fz) :
  GOk (Zx Γ x scope) (QK (iH X.prog X.w) X.prog X.w X.K X.mg X.base (x::xB scope) qual scope fa cS cl A stack s H E) xl rV where
 names:=rfl
 N:=rfl
 nd:=hn
 kind:=hk
 calm:=rfl
 hd:=hr.hd
 un:=by
  have:=hr.un;show(A.deeper _).units+1150<cLine
  lia
 own:=λz=>by cases z
 fns:=λy n e=>let ⟨j,f,fd,ps,h1,h2,h3,h4,h5⟩:=hf y n e;⟨j,f,fd,ps,h2,hr.mono h1,h3,h4,h5⟩
 cons:=G.cons
 de:=G.de
 tabs:=G.tabs
 ns:=G.ns
 Rq:=G.Rq
 cls:=λ_ _ z=>by cases z
 tZ:=λ_ z=>by cases z
 xq:=λ_ _ z=>by cases z
end
def cB{α:Type}:Gx α:=λ_=>none
section
variable {X:Cx} {aa:Hp} {ab:Fz} {e:Expr} {es:List Expr}
def vk{C:Prop}(h:tX X aa ab rl cB σ H Q):C:=by
 obtain⟨F,st,R,r,z,_⟩:=h;cases z
def bg:PE X e (tE X aa ab cB):=λ_ _ _ _ _ _ h=>vk h
def vm:PT X e (tT X aa ab cB):=λ_ _ _ _ _ _ h=>vk h
def KA:PW X e (tT X aa ab cB):=λ_ _ _ _ _ _ _ h=>vk h
def Ru:PA X es (tA X aa ab cB):=λ_ _ _ _ _ _ _ h=>vk h
def Rv{tg:Expr}:PI X tg e (HX X aa ab cB):=λ_ _ _ _ _ _ h=>vk h
end
def b8(m n:Nat)(g:oi)(as:List PV):Gx PV:=λst=>if((m==0)&&(st.h.isEmpty || ai as))=true then oj n g as st else C4 n g as st
def adF(G:FnOk X.prog X.w X.K X.mg X.base (iH X.prog X.w) k f fd ps (GW X.K n g))(hr:dG k X.A)(hb:gz X.K fd ps []):Ol X f (b8 m n g):=by
 rintro aa H ab F st σ ae s Q as us vs I R b r ⟨q,e1,e2⟩
 unfold b8 at e1;split at e1
 ·exact YZ G hr hb aa H ab F st σ ae s Q as us vs I R b r ⟨q,e1,e2⟩
 ·exact ac6 G hr hb aa H ab F st σ ae s Q as us vs I R b r ⟨q,e1,e2⟩
def Zy(Γ:Gm):Expr->Nat
 | .Name x _=>G8 (md Γ x)
 | .Attribute _ f _=>G8 (md Γ f)
 | _=>0
def xD(e:Expr):Option {x:Option Expr×Option Expr // ∃p,e=.Slice x.1 x.2 none p}:=match e with
 | .Slice lo hi none p=>some ⟨(lo,hi),p,rfl⟩
 | _=>none
def adG:Const->Gx PV
 | .int i=>aX (.int i)
 | .bool i=>aX (.bl i)
 | .none=>aX .bB
 | .str i=>aX (.str i)
 | _=>cB
def U6(Γ:Gm)(x:Str):Gx PV:=if iq x=true then(if M3 Γ x=true then(match slot Γ x with | some i=>rd i | none=>cB)else if yE Γ x=true then(match Γ.cons.lookup x with | some p=>aX p | none=>cB)else cB)else cB
noncomputable def Dp(a:Expr):Option {x:Str×Expr×List Expr // ∃p q,a=.Call (.Name x.1 p) (x.2.1::x.2.2) [] q}:=match a with
 | .Call (.Name z p) (b::bs) [] q=>some ⟨(z,b,bs),p,q,rfl⟩
 | _=>none
noncomputable def xE(a:Expr)(es:List Expr):Option {x:Str×Expr // es=[]/\∃p q,a=.Call (.Name x.1 p) [x.2] [] q}:=match a,es with
 | .Call (.Name z p) [e] [] q,[]=>some ⟨(z,e),rfl,p,q,rfl⟩
 | _,_=>none
def ij(Γ:Gm)(x:Str):Bool:=yE Γ x&&Γ.de.contains x
mutual
noncomputable def bL:Nat->Gm->Nat->Expr->Gx PV
 | 0,_,_,_=>cB
 | n+1,Γ,m,e=>match e with
  | .Constant c _ _=>adG c
  | .Name x _=>U6 Γ x
  | .BinOp a op b _=>(match OL op with | some g=>op2 g (bL n Γ 0 a) (bL n Γ 0 b) | none=>cB)
  | .UnaryOp .Not a _=>TR (bL n Γ 0 a)
  | .UnaryOp .USub a _=>w9 (bL n Γ 0 a)
  | .BoolOp op vs _=>KC n Γ op vs
  | .Compare a ops bs _=>U7 n Γ a ops bs
  | .IfExp c a b _=>dP (uw n Γ c) (bL n Γ m a) (bL n Γ m b)
  | .Tuple es _ _=>lJ .ao (lR n Γ m es)
  | .List es _=>(match m with | 0=>lJ .lst (lR n Γ 0 es) | _=>zm (lR n Γ (G8 m) es))
  | .Dict [] [] _=>J7 (m==10)
  | .Subscript a b _=>U8 n Γ a b
  | .ListComp elt gens scope _=>U9 n Γ m elt gens scope
  | .Attribute o f _=>if xt o=true then UJ f (bL n Γ 0 o)else cB
  | .Call f (a::es) [] cp=>if(a::es).all bC=true then Va n Γ m f a es cp else cB
  | .Call (.Attribute o f ap) [] [] cp=>if(xt o&&(ap.endLine==cp.line))=true then(if f==("isdigit":Str)then UX (bL n Γ 0 o)else match C6 f with | some w=>C5 w.1 w.2 (bL n Γ 0 o) (aX []) | none=>cB)else cB
  | _=>cB
termination_by structural n=>n
noncomputable def Va:Nat->Gm->Nat->Expr->Expr->List Expr->Pos->Gx PV
 | 0,_,_,_,_,_,_=>cB
 | n+1,Γ,m,f,a,es,cp=>match f with
  | .Name x _=>if iq x=true then(if yE Γ x=true then Vb n Γ m x a es else if M3 Γ x=true then KD n Γ x a es else cB)else cB
  | .Subscript v k p=>zQ Γ.fns Γ.call (bL n Γ 0 (.Subscript v k p)) (lR n Γ 0 (a::es))
  | .Attribute o g ap=>if(xt o&&(ap.endLine==cp.line)&&decide ((a::es).length<30))=true then(match EN g with | some w=>C5 w.1 w.2 (bL n Γ 0 o) (lR n Γ (Zy Γ o) (a::es)) | none=>cB)else cB
  | _=>cB
termination_by structural n=>n
noncomputable def KD:Nat->Gm->Str->Expr->List Expr->Gx PV
 | 0,_,_,_,_=>cB
 | n+1,Γ,x,a,es=>match es,slot Γ x,Γ.xq with
  | [],some i,some o=>Kb i o.1 o.2 (bL n Γ 0 a)
  | _,_,_=>cB
termination_by structural n=>n
noncomputable def Vb:Nat->Gm->Nat->Str->Expr->List Expr->Gx PV
 | 0,_,_,_,_,_=>cB
 | n+1,Γ,m,x,a,es=>if x==("spread":Str)then KH n Γ a es else match Γ.fns.lookup x with
  | some k=>bnd (lR n Γ 0 (a::es)) (b8 m k (Γ.call x))
  | none=>match Γ.cls.lookup x with
   | some k=>(match m with | 0=>mkP x k (Γ.make x) (lR n Γ 0 (a::es)) | _=>cB)
   | none=>if Γ.de.contains x=true then(if x==("isinstance":Str)then KI n Γ a es else if(x==("sorted":Str)&&(xE a es).isSome)=true then KJ n Γ a es else if x==("dict":Str)then Vc n Γ a es else if x==("list":Str)then KN n Γ m a es else match xx x with | some g=>gw g (lR n Γ 0 (a::es)) | none=>cB)else cB
termination_by structural n=>n
noncomputable def KH:Nat->Gm->Expr->List Expr->Gx PV
 | 0,_,_,_=>cB
 | n+1,Γ,a,es=>match es with
  | [.Lambda args body scope _]=>(match Γ.tZ,qh args with
   | some rs,some xa=>if Kx Γ xa.1 scope=true then Kc rs (bL n Γ 0 a) (bL n (Zx Γ xa.1 scope) 0 body) (qi Γ scope)else cB
   | _,_=>cB)
  | _=>cB
termination_by structural n=>n
noncomputable def KN:Nat->Gm->Nat->Expr->List Expr->Gx PV
 | 0,_,_,_,_=>cB
 | n+1,Γ,m,a,es=>match es with
  | []=>(match Dp a with
   | some ⟨zs,_⟩=>if(zs.1==("range":Str)&&ij Γ zs.1&&(zs.2.1::zs.2.2).all bC)=true then lrg m (lR n Γ 0 (zs.2.1::zs.2.2))else cB
   | none=>OJ m (bL n Γ 0 a))
  | _=>cB
termination_by structural n=>n
noncomputable def Vc:Nat->Gm->Expr->List Expr->Gx PV
 | 0,_,_,_=>cB
 | n+1,Γ,a,es=>match es with
  | []=>(match a with
   | .BinOp l .Add r _=>EZ (bL n Γ 0 l) (bL n Γ 0 r)
   | _=>cB)
  | _=>cB
termination_by structural n=>n
noncomputable def KJ:Nat->Gm->Expr->List Expr->Gx PV
 | 0,_,_,_=>cB
 | n+1,Γ,a,es=>match xE a es with
  | some ⟨ze,_⟩=>if(ze.1==("set":Str)&&ij Γ ze.1&&bC ze.2)=true then Ko (bL n Γ 0 ze.2)else cB
  | none=>cB
termination_by structural n=>n
noncomputable def KI:Nat->Gm->Expr->List Expr->Gx PV
 | 0,_,_,_=>cB
 | n+1,Γ,a,es=>match es with
  | [.Name t _]=>if ij Γ t=true then(match EB t with | some g=>Uh g (bL n Γ 0 a) | none=>cB)else cB
  | _=>cB
termination_by structural n=>n
noncomputable def U7:Nat->Gm->Expr->List CmpOp->List Expr->Gx PV
 | 0,_,_,_,_=>cB
 | n+1,Γ,a,ops,bs=>match ops,bs with
  | [op],[b]=>if bC b=true then(match CQ op with | some g=>op2 g (bL n Γ 0 a) (bL n Γ 0 b) | none=>cB)else cB
  | [op,yC],[b,c]=>if bC c=true then(match CQ op,CQ yC with | some g,some g'=>chain g g' (bL n Γ 0 a) (bL n Γ 0 b) (bL n Γ 0 c) | _,_=>cB)else cB
  | _,_=>cB
termination_by structural n=>n
noncomputable def U8:Nat->Gm->Expr->Expr->Gx PV
 | 0,_,_,_=>cB
 | n+1,Γ,a,b=>match xD b with
  | some ⟨lh,_⟩=>cutE (bL n Γ 0 a) (OP n Γ lh.1) (OP n Γ lh.2)
  | none=>if qf b=true then(match a with
   | .Name T p=>if(iq T&&yE Γ T)=true then(match Γ.tabs.lookup T with
    | some rows=>J8 (λk=>(rows.lookup k).map .fn) (bL n Γ 0 b)
    | none=>op2 bN (bL n Γ 0 (.Name T p)) (bL n Γ 0 b))else op2 bN (bL n Γ 0 (.Name T p)) (bL n Γ 0 b)
   | a=>op2 bN (bL n Γ 0 a) (bL n Γ 0 b))else cB
termination_by structural n=>n
noncomputable def uw:Nat->Gm->Expr->Gx Bool
 | 0,_,_=>cB
 | n+1,Γ,e=>match e with
  | .UnaryOp .Not a _=>zj (uw n Γ a)
  | .BoolOp op vs _=>KO n Γ op vs
  | .Compare a [op] [b] _=>if bC b=true then(match CQ op with | some g=>toB (op2 g (bL n Γ 0 a) (bL n Γ 0 b)) | none=>cB)else cB
  | .Compare a [op,yC] [b,c] _=>if bC c=true then(match CQ op,CQ yC with | some g,some g'=>toB (chain g g' (bL n Γ 0 a) (bL n Γ 0 b) (bL n Γ 0 c)) | _,_=>cB)else cB
  | e=>if Dj e=true then gf (bL n Γ 0 e)else cB
termination_by structural n=>n
noncomputable def KC:Nat->Gm->BoolOp->List Expr->Gx PV
 | 0,_,_,_=>cB
 | n+1,Γ,op,[a]=>bL n Γ 0 a
 | n+1,Γ,.And,a::b::r=>TQ (bL n Γ 0 a) (KC n Γ .And (b::r))
 | n+1,Γ,.Or,a::b::r=>orG (bL n Γ 0 a) (KC n Γ .Or (b::r))
 | _,_,_,_=>cB
termination_by structural n=>n
noncomputable def KO:Nat->Gm->BoolOp->List Expr->Gx Bool
 | 0,_,_,_=>cB
 | n+1,Γ,op,[a]=>uw n Γ a
 | n+1,Γ,.And,a::b::r=>dP (uw n Γ a) (KO n Γ .And (b::r)) (aX false)
 | n+1,Γ,.Or,a::b::r=>dP (uw n Γ a) (aX true) (KO n Γ .Or (b::r))
 | _,_,_,_=>cB
termination_by structural n=>n
noncomputable def lR:Nat->Gm->Nat->List Expr->Gx (List PV)
 | 0,_,_,_=>cB
 | n+1,Γ,m,[]=>aX []
 | n+1,Γ,m,e::es=>if bC e=true then au (bL n Γ m e) (lR n Γ m es)else cB
termination_by structural n=>n
noncomputable def OP:Nat->Gm->Option Expr->Gx (Option Int)
 | 0,_,_=>cB
 | n+1,Γ,none=>aX none
 | n+1,Γ,some e=>rF (bL n Γ 0 e)
termination_by structural n=>n
noncomputable def KP:Nat->Gm->Expr->Expr->Gx yD
 | 0,_,_,_=>cB
 | n+1,Γ,tg,e=>match e with
  | .Call (.Name x p) [a] [] cp=>if(x==("range":Str)&&ij Γ x&&bC a)=true then CY (uj xj (lR n Γ 0 [a]))
    else if(x==("enumerate":Str)&&ij Γ x&&bC a&&QU tg)=true then CY (rO (bL n Γ 0 a))
    else if(x==("reversed":Str)&&ij Γ x&&bC a)=true then CY (OK (bL n Γ 0 a))
    else jC (bL n Γ 0 (.Call (.Name x p) [a] [] cp))
  | .Call (.Name x p) [a,b] [] cp=>if(x==("range":Str)&&ij Γ x&&bC a&&bC b)=true then CY (uj Ut (lR n Γ 0 [a,b]))
    else jC (bL n Γ 0 (.Call (.Name x p) [a,b] [] cp))
  | e=>if bC e=true then jC (bL n Γ 0 e)else cB
termination_by structural n=>n
noncomputable def U9:Nat->Gm->Nat->Expr->List Comprehension->Scope->Gx PV
 | 0,_,_,_,_,_=>cB
 | n+1,Γ,m,elt,gens,scope=>match gens with
  | [⟨tg,iter,ifs,0⟩]=>if bC iter=true then(match xw n (vj Γ scope) tg with
   | some g=>if r9 Γ scope g.2=true then(match ifs with
    | []=>da (m != 0) (gR Γ scope) (KP n Γ tg iter) (lM g.1 (bL n (vj Γ scope) (G8 m) elt))
    | [c]=>da (m != 0) (gR Γ scope) (KP n Γ tg iter) (jB g.1 (uw n (vj Γ scope) c) (bL n (vj Γ scope) (G8 m) elt))
    | _=>cB)else cB
   | none=>cB)else cB
  | _=>cB
termination_by structural n=>n
end
def CC(X:Cx)(aa:Hp)(ab:Fz)(elt:Expr)(gens:List Comprehension)(scope:Scope)(p:Pos)(f:Gx PV):Prop:=PE X (.ListComp elt gens scope p) (tE X aa ab f) /\
  ∀i x p' sp,X.N[i]?=some x->X.env.scope.names.lookup x=some .local->swapsWith (.ListComp elt gens scope p) (some (.Name x p')) sp.line X.env=pure true ->
   PS X (.Assign [.Name x p'] (.ListComp elt gens scope p) sp) (tS X aa ab (c8 f (aU i)))
structure Snd (n:Nat):Prop where
 e:∀Γ X aa ab m e,GOk Γ X aa ab->PE X e (tE X aa ab (bL n Γ m e))
 f:∀Γ X aa ab m f a es cp,GOk Γ X aa ab->(a::es).all bC=true->PE X (.Call f (a::es) [] cp) (tE X aa ab (Va n Γ m f a es cp))
 o:∀Γ X aa ab x a es p cp,GOk Γ X aa ab->(a::es).all bC=true->iq x=true->M3 Γ x=true->PE X (.Call (.Name x p) (a::es) [] cp) (tE X aa ab (KD n Γ x a es))
 cn:∀Γ X aa ab m x a es p cp,GOk Γ X aa ab->(a::es).all bC=true->iq x=true->yE Γ x=true->PE X (.Call (.Name x p) (a::es) [] cp) (tE X aa ab (Vb n Γ m x a es))
 sp:∀Γ X aa ab a es p cp,GOk Γ X aa ab->(a::es).all bC=true->yE Γ "spread"=true->PE X (.Call (.Name "spread" p) (a::es) [] cp) (tE X aa ab (KH n Γ a es))
 st:∀Γ X aa ab a es p cp,GOk Γ X aa ab->(a::es).all bC=true->yE Γ "sorted"=true->Γ.de.contains "sorted"=true->PE X (.Call (.Name "sorted" p) (a::es) [] cp) (tE X aa ab (KJ n Γ a es))
 d:∀Γ X aa ab a es p cp,GOk Γ X aa ab->(a::es).all bC=true->yE Γ "dict"=true->Γ.de.contains "dict"=true->PE X (.Call (.Name "dict" p) (a::es) [] cp) (tE X aa ab (Vc n Γ a es))
 li:∀Γ X aa ab m a es p cp,GOk Γ X aa ab->(a::es).all bC=true->yE Γ "list"=true->Γ.de.contains "list"=true->PE X (.Call (.Name "list" p) (a::es) [] cp) (tE X aa ab (KN n Γ m a es))
 is:∀Γ X aa ab a es p cp,GOk Γ X aa ab->(a::es).all bC=true->yE Γ "isinstance"=true->Γ.de.contains "isinstance"=true->PE X (.Call (.Name "isinstance" p) (a::es) [] cp) (tE X aa ab (KI n Γ a es))
 k:∀Γ X aa ab a ops bs p,GOk Γ X aa ab->PE X (.Compare a ops bs p) (tE X aa ab (U7 n Γ a ops bs))
 x:∀Γ X aa ab a b p,GOk Γ X aa ab->PE X (.Subscript a b p) (tE X aa ab (U8 n Γ a b))
 t:∀Γ X aa ab e,GOk Γ X aa ab->PT X e (tT X aa ab (uw n Γ e))
 b:∀Γ X aa ab op vs p,GOk Γ X aa ab->PE X (.BoolOp op vs p) (tE X aa ab (KC n Γ op vs))
 w:∀Γ X aa ab op vs p,GOk Γ X aa ab->PW X (.BoolOp op vs p) (tT X aa ab (KO n Γ op vs))
 a:∀Γ X aa ab m es,GOk Γ X aa ab->PA X es (tA X aa ab (lR n Γ m es))
 l:∀Γ X aa ab e,GOk Γ X aa ab->PO X e (Uc X aa ab (OP n Γ e))
 i:∀Γ X aa ab tg e,GOk Γ X aa ab->PI X tg e (HX X aa ab (KP n Γ tg e))
 c:∀Γ X aa ab m elt gens scope p,GOk Γ X aa ab->CC X aa ab elt gens scope p (U9 n Γ m elt gens scope)
def pI{X:Cx}{aa:Hp}{ab:Fz}{e:Expr}{c:Prop} [Decidable c] {f g:Gx PV} (h:c->PE X e (tE X aa ab f)) (h':PE X e (tE X aa ab g)):PE X e (tE X aa ab (if c then f else g)):=by
 split
 ·exact h ‹_›
 ·exact h'
def pJ{X:Cx}{aa:Hp}{ab:Fz}{e:Expr}{c:Prop} [Decidable c] {f:Gx PV} (h:c->PE X e (tE X aa ab f)):PE X e (tE X aa ab (if c then f else cB)):=pI h bg
def iO:PS X s (tS X aa ab cB):=λ_ _ _ _ _ _ ⟨F,st,R,r,z,_⟩=>by cases z
def xF:PS X s (tS X aa ab (c8 cB g)):=λ_ _ _ _ _ _ ⟨F,st,R,r,z,_⟩=>by cases z
def Zz{ab:Fz}:PO X e (Uc X aa ab cB):=λ_ _ _ _ _ _ h=>vk h
def KQ:Snd 0 where
 e:=λ_ _ _ _ _ _ _=>bg
 f:=λ_ _ _ _ _ _ _ _ _ _ _=>bg
 o:=λ_ _ _ _ _ _ _ _ _ _ _ _ _=>bg
 cn:=λ_ _ _ _ _ _ _ _ _ _ _ _ _ _=>bg
 sp:=λ_ _ _ _ _ _ _ _ _ _ _=>bg
 st:=λ_ _ _ _ _ _ _ _ _ _ _ _=>bg
 d:=λ_ _ _ _ _ _ _ _ _ _ _ _=>bg
 li:=λ_ _ _ _ _ _ _ _ _ _ _ _ _=>bg
 is:=λ_ _ _ _ _ _ _ _ _ _ _ _=>bg
 k:=λ_ _ _ _ _ _ _ _ _=>bg
 x:=λ_ _ _ _ _ _ _ _=>bg
 t:=λ_ _ _ _ _ _=>vm
 b:=λ_ _ _ _ _ _ _ _=>bg
 w:=λ_ _ _ _ _ _ _ _=>KA
 a:=λ_ _ _ _ _ _ _=>Ru
 l:=λ_ _ _ _ _ _=>Zz
 i:=λ_ _ _ _ _ _ _=>Rv
 c:=λ_ _ _ _ _ _ _ _ _ _=>⟨bg,λ_ _ _ _ _ _ _=>xF⟩
section
variable {n:Nat} (S:Snd n)
include S
def ZA(Γ:Gm)(X:Cx)(aa:Hp)(ab:Fz)(op:BoolOp)(vs:List Expr)(p:Pos)(G:GOk Γ X aa ab):PE X (.BoolOp op vs p) (tE X aa ab (KC (n+1) Γ op vs)):=by
 match op,vs with
 | .And,[]=>exact bg
 | .Or,[]=>exact bg
 | .And,[a]=>exact IJ (S.e Γ X aa ab 0 a G)
 | .Or,[a]=>exact IJ (S.e Γ X aa ab 0 a G)
 | .And,a::b::r=>exact Yo (S.e Γ X aa ab 0 a G) (S.b Γ X aa ab .And (b::r) p G)
 | .Or,a::b::r=>exact acM (S.e Γ X aa ab 0 a G) (S.b Γ X aa ab .Or (b::r) p G)
def ZC(Γ:Gm)(X:Cx)(aa:Hp)(ab:Fz)(op:BoolOp)(vs:List Expr)(p:Pos)(G:GOk Γ X aa ab):PW X (.BoolOp op vs p) (tT X aa ab (KO (n+1) Γ op vs)):=by
 match op,vs with
 | .And,[]=>exact KA
 | .Or,[]=>exact KA
 | .And,[a]=>exact MR (S.t Γ X aa ab a G)
 | .Or,[a]=>exact SQ (S.t Γ X aa ab a G)
 | .And,a::b::r=>exact Ym (S.t Γ X aa ab a G) (S.w Γ X aa ab .And (b::r) p G)
 | .Or,a::b::r=>exact acL (S.t Γ X aa ab a G) (S.w Γ X aa ab .Or (b::r) p G)
def ZD(Γ:Gm)(X:Cx)(aa:Hp)(ab:Fz)(m:Nat)(es:List Expr)(G:GOk Γ X aa ab):PA X es (tA X aa ab (lR (n+1) Γ m es)):=by
 match es with
 | []=>exact Yq
 | e::es =>
  unfold lR;split
  ·rename_i hp;exact TU (S.e Γ X aa ab m e G) (S.a Γ X aa ab m es G) (bF hp _ _)
  ·exact Ru
def ZE(Γ:Gm)(X:Cx)(aa:Hp)(ab:Fz)(e:Option Expr)(G:GOk Γ X aa ab):PO X e (Uc X aa ab (OP (n+1) Γ e)):=by
 match e with
 | none=>exact Ud
 | some e=>exact Ue (S.e Γ X aa ab 0 e G)
def ZF(Γ:Gm)(X:Cx)(aa:Hp)(ab:Fz)(a:Expr)(ops:List CmpOp)(bs:List Expr)(p:Pos)(G:GOk Γ X aa ab):PE X (.Compare a ops bs p) (tE X aa ab (U7 (n+1) Γ a ops bs)):=by
 rcases ops with _ | ⟨op,_ | ⟨yC,_ | _⟩⟩<;>rcases bs with _ | ⟨b,_ | ⟨c,_ | _⟩⟩<;>try exact bg
 ·show PE X _ (tE X aa ab (ite _ _ _));split
  ·rename_i hp;split
   ·rename_i g h1;exact Yj (kA G.un h1) (S.e Γ X aa ab 0 _ G) (S.e Γ X aa ab 0 _ G) (ib hp _)
   ·exact bg
  ·exact bg
 ·show PE X _ (tE X aa ab (ite _ _ _));split
  ·rename_i hp;split
   ·rename_i g g' h1 h2;exact NH (kA G.un h1) (kA G.un h2) (S.e Γ X aa ab 0 _ G) (S.e Γ X aa ab 0 _ G) (S.e Γ X aa ab 0 _ G) (ib hp _)
   ·exact bg
  ·exact bg
def ZG(Γ:Gm)(X:Cx)(aa:Hp)(ab:Fz)(e:Expr)(G:GOk Γ X aa ab):PT X e (tT X aa ab (uw (n+1) Γ e)):=by
 have df:∀e,PT X e (tT X aa ab (if Dj e=true then gf (bL n Γ 0 e)else cB)):=λe=>by
  split
  ·rename_i hp;exact Yl (S.e Γ X aa ab 0 _ G) λjr=>Ku hp _ jr
  ·exact vm
 cases e with
 | UnaryOp op=>cases op with
  | Not=>exact Yn (S.t Γ X aa ab _ G)
  | _=>exact df _
 | BoolOp=>exact(S.w Γ X aa ab _ _ _ G).pt
 | Compare a ops bs =>
  rcases ops with _ | ⟨op,_ | ⟨yC,_ | _⟩⟩<;>rcases bs with _ | ⟨b,_ | ⟨c,_ | _⟩⟩<;>try exact df _
  ·show PT X _ (tT X aa ab (ite _ _ _));split
   ·rename_i hp;split
    ·rename_i g h1;exact Yk (kA G.un h1) (S.e Γ X aa ab 0 _ G) (S.e Γ X aa ab 0 _ G) (ib hp _)
    ·exact vm
   ·exact vm
  ·show PT X _ (tT X aa ab (ite _ _ _));split
   ·rename_i hp;split
    ·rename_i g g' h1 h2;exact NI (kA G.un h1) (kA G.un h2) (S.e Γ X aa ab 0 _ G) (S.e Γ X aa ab 0 _ G) (S.e Γ X aa ab 0 _ G) (ib hp _)
    ·exact vm
   ·exact vm
 | _=>exact df _
def Vd(Γ:Gm)(X:Cx)(aa:Hp)(ab:Fz)(a:Expr)(es:List Expr)(p cp:Pos)(G:GOk Γ X aa ab)(hp:(a::es).all bC=true)(hg:yE Γ "sorted"=true)(hb:Γ.de.contains "sorted"=true):PE X (.Call (.Name "sorted" p) (a::es) [] cp) (tE X aa ab (KJ (n+1) Γ a es)):=by
 show PE X _ (tE X aa ab (match xE a es with | some ⟨ze,_⟩=>_ | none=>cB))
 rcases xE a es with _ | ⟨⟨z,e⟩,rfl,zp,Dg,rfl⟩
 ·exact bg
 ·refine pJ λhc=>?_
  simp only[ij,aV]at hc;obtain⟨⟨hx,g1,g2⟩,OF⟩:=hc;have hx:=bf hx;subst hx;exact UW G.hd (G.jD hg) (G.de _ hb) (G.jD g1) (G.de _ g2) (S.e Γ X aa ab 0 _ G) (bF OF _ _)
def ZH(Γ:Gm)(X:Cx)(aa:Hp)(ab:Fz)(a:Expr)(es:List Expr)(p cp:Pos)(G:GOk Γ X aa ab)(hp:(a::es).all bC=true)(hg:yE Γ "dict"=true)(hb:Γ.de.contains "dict"=true):PE X (.Call (.Name "dict" p) (a::es) [] cp) (tE X aa ab (Vc (n+1) Γ a es)):=by
 rw[gL,aV]at hp;cases es with
 | cons=>exact bg
 | nil=>cases a with
  | BinOp l op=>cases op with
   | Add=>exact UZ G.hd (G.jD hg) (G.de _ hb) (S.e Γ X aa ab 0 _ G) (S.e Γ X aa ab 0 _ G) rfl
   | _=>exact bg
  | _=>exact bg
def Ve(Γ:Gm)(X:Cx)(aa:Hp)(ab:Fz)(m:Nat)(a:Expr)(es:List Expr)(p cp:Pos)(G:GOk Γ X aa ab)(hp:(a::es).all bC=true)(hg:yE Γ "list"=true)(hb:Γ.de.contains "list"=true):PE X (.Call (.Name "list" p) (a::es) [] cp) (tE X aa ab (KN (n+1) Γ m a es)):=by
 rw[gL,aV]at hp;cases es with
 | cons=>exact bg
 | nil =>
  show PE X _ (tE X aa ab (match Dp a with | some ⟨zs,_⟩=>_ | none=>OJ m (bL n Γ 0 a)))
  rcases Dp a with _ | ⟨⟨z,b,bs⟩,zp,Dg,rfl⟩
  ·exact U1 G.hd (G.jD hg) (G.de _ hb) (S.e Γ X aa ab 0 _ G) λ_=>bF hp.1 _ _
  ·refine pJ λhc=>?_
   simp only[ij,aV]at hc;obtain⟨⟨hx,g1,g2⟩,OF⟩:=hc;have hx:=bf hx;subst hx;rw[gL,aV]at OF;exact Zv G.hd (G.jD hg) (G.de _ hb) (G.jD g1) (G.de _ g2) (S.a Γ X aa ab 0 _ G) (bF OF.1 _ _) (ig OF.2 _ _)
def Vf(Γ:Gm)(X:Cx)(aa:Hp)(ab:Fz)(a:Expr)(es:List Expr)(p cp:Pos)(G:GOk Γ X aa ab)(hp:(a::es).all bC=true)(hg:yE Γ "isinstance"=true)(hb:Γ.de.contains "isinstance"=true):PE X (.Call (.Name "isinstance" p) (a::es) [] cp) (tE X aa ab (KI (n+1) Γ a es)):=by
 cases es with
 | nil=>exact bg
 | cons e es=>cases e with
  | Name t=>cases es with
   | cons=>exact bg
   | nil =>
    refine pJ λhc=>?_
    unfold ij at hc;rw[aV]at hc;rw[gL,aV]at hp;cases h1:EB t with
    | none=>exact bg
    | some g=>exact acQ h1 (G.jD hg) (G.de _ hb) (G.jD hc.1) (G.de _ hc.2) (S.e Γ X aa ab 0 a G) λes=>bF hp.1 es _
  | _=>exact bg
def ZI(Γ:Gm)(X:Cx)(aa:Hp)(ab:Fz)(a b:Expr)(p:Pos)(G:GOk Γ X aa ab):PE X (.Subscript a b p) (tE X aa ab (U8 (n+1) Γ a b)):=by
 show PE X _ (tE X aa ab (match xD b with | some ⟨lh,_⟩=>_ | none=>_))
 rcases xD b with _ | ⟨⟨lo,hi⟩,ps,rfl⟩
 ·refine pJ λhp=>?_
  have gen:=λa=>acR (pos:=p) G.un (S.e Γ X aa ab 0 a G) (S.e Γ X aa ab 0 b G) (Ag hp)
  cases a with
  | Name T =>
   refine pI (λhc=>?_) (gen _)
   rw[aV]at hc;cases h1:Γ.tabs.lookup T with
   | some rows=>exact Y6 (G.tabs _ rows h1) (G.jD hc.2) (S.e Γ X aa ab 0 _ G) (Ag hp) (kc hc.1).1
   | none=>exact gen _
  | _=>exact gen _
 ·exact YB (S.e Γ X aa ab 0 _ G) (S.l Γ X aa ab _ G) (S.l Γ X aa ab _ G)
def ZJ(Γ:Gm)(X:Cx)(aa:Hp)(ab:Fz)(tg e:Expr)(G:GOk Γ X aa ab):PI X tg e (HX X aa ab (KP (n+1) Γ tg e)):=by
 have df:∀e,PI X tg e (HX X aa ab (if bC e=true then jC (bL n Γ 0 e)else cB)):=λe=>by
  split
  ·exact JX (S.e Γ X aa ab 0 _ G)
  ·exact Rv
 cases e with
 | Call f as ks=>cases f with
  | Name x p =>
   rcases as with _ | ⟨a,_ | ⟨b,_ | _⟩⟩<;>rcases ks with _ | _<;>try exact df _
   ·show PI X _ _ (HX X aa ab (ite _ _ _));split
    ·rename_i hc;simp only[ij,aV]at hc;obtain⟨⟨hx,hg,hb⟩,hp⟩:=hc;have hx:=bf hx;subst hx;exact Oh <| JS (G.jD hg) (G.de _ hb) (S.a Γ X aa ab 0 _ G) (bF hp _ _)
    ·split
     ·rename_i hc;simp only[ij,aV]at hc;obtain⟨⟨⟨hx,hg,hb⟩,hp⟩,ht⟩:=hc;have hx:=bf hx;subst hx;exact Oh <| ac4 ht (G.jD hg) (G.de _ hb) (S.e Γ X aa ab 0 _ G) (bF hp _ _)
     ·split
      ·rename_i hc;simp only[ij,aV]at hc;obtain⟨⟨hx,hg,hb⟩,hp⟩:=hc;have hx:=bf hx;subst hx;exact Oh <| Zw (G.jD hg) (G.de _ hb) (S.e Γ X aa ab 0 _ G) (bF hp _ _)
      ·exact JX (S.e Γ X aa ab 0 _ G)
   ·show PI X _ _ (HX X aa ab (ite _ _ _));split
    ·rename_i hc;simp only[ij,aV]at hc;obtain⟨⟨⟨hx,hg,hb⟩,hp⟩,OF⟩:=hc;have hx:=bf hx;subst hx;exact Oh <| JT (G.jD hg) (G.de _ hb) (S.a Γ X aa ab 0 _ G) (by rw[bF hp,bF OF];rfl) (bF OF _ _)
    ·exact JX (S.e Γ X aa ab 0 _ G)
  | _=>exact df _
 | _=>exact df _
def OQ:CC X aa ab elt gens scope p cB:=⟨bg,λ_ _ _ _ _ _ _=>xF⟩
def cI{c:Prop} [Decidable c] (h:c->CC X aa ab elt gens scope p f):CC X aa ab elt gens scope p (if c then f else cB):=by
 split
 ·exact h ‹_›
 ·exact OQ
def ZK(Γ:Gm)(X:Cx)(aa:Hp)(ab:Fz)(m:Nat)(elt:Expr)(gens:List Comprehension)(scope:Scope)(p:Pos)(G:GOk Γ X aa ab):CC X aa ab elt gens scope p (U9 (n+1) Γ m elt gens scope):=by
 rcases gens with _ | ⟨⟨tg,iter,ifs,(_ | _) | _⟩,_ | _⟩<;>try exact OQ
 refine cI λhp=>?_
 cases h2:xw n (vj Γ scope) tg with
 | none=>exact OQ
 | some g =>
  refine cI λhc=>?_
  have SC:=Dn G hc;have hL:=(mK hc).2.2.2;have GK:=Ky G hc;have hi:=S.i Γ X aa ab tg iter G;have hg:=λC s H fp=>(kB (GK C s H fp aa ab) n tg g h2).1
  have kg:=(kB (GK 0 X.s₀ X.aa [] aa ab) n tg g h2).2.1;have he:=λC s H fp=>S.e _ _ _ _ (G8 m) elt (GK C s H fp aa ab)
  rcases ifs with _ | ⟨c,_ | _⟩
  ·exact⟨(EG G.calm SC hi (pb1 hg he) (fV hp _)).imp λσ H Q h=>JY kg hL h,λi x p' sp hx hl hw=>(EH G.calm G.nd hx hl SC hi (pb1 hg he) hw (fV hp _)).imp λD σ H h=>JY kg hL (qb h)⟩
  ·have ht:=λC s H fp=>S.t _ _ _ _ c (GK C s H fp aa ab)
   exact⟨(EG G.calm SC hi (pb2 hg he ht) (fV hp _)).imp λσ H Q h=>JZ kg hL h,λi x p' sp hx hl hw=>(EH G.calm G.nd hx hl SC hi (pb2 hg he ht) hw (fV hp _)).imp λD σ H h=>JZ kg hL (qb h)⟩
  ·exact OQ
def ZL(Γ:Gm)(X:Cx)(aa:Hp)(ab:Fz)(x:Str)(a:Expr)(es:List Expr)(p cp:Pos)(G:GOk Γ X aa ab)(hp:(a::es).all bC=true)(hn:iq x=true)(hv:M3 Γ x=true):PE X (.Call (.Name x p) (a::es) [] cp) (tE X aa ab (KD (n+1) Γ x a es)):=by
 rw[gL,aV]at hp;cases es with
 | cons=>exact bg
 | nil =>
  show PE X _ (tE X aa ab (match([]:List Expr),slot Γ x,Γ.xq with | [],some i,some o=>_ | _,_,_=>cB))
  cases h1:slot Γ x with
  | none=>exact bg
  | some=>cases h2:Γ.xq with
   | none=>exact bg
   | some o=>exact Zc (G.xq o.1 o.2 h2) (vh G hn hv h1) (S.e Γ X aa ab 0 a G) (bF hp.1 _ _)
def Vg(Γ:Gm)(X:Cx)(aa:Hp)(ab:Fz)(a:Expr)(es:List Expr)(p cp:Pos)(G:GOk Γ X aa ab)(hp:(a::es).all bC=true)(hg:yE Γ "spread"=true):PE X (.Call (.Name "spread" p) (a::es) [] cp) (tE X aa ab (KH (n+1) Γ a es)):=by
 rcases es with _ | ⟨e,_ | _⟩
 ·exact bg
 ·cases e with
  | Lambda args body scope =>
   show PE X _ (tE X aa ab (match Γ.tZ,qh args with | some rs,some xa=>_ | _,_=>cB))
   cases h1:Γ.tZ with
   | none=>exact bg
   | some rs=>cases h2:qh args with
    | none=>exact bg
    | some xa =>
     refine pJ λhc=>?_
     rw[gL,aV]at hp;obtain rfl:=xA h2;obtain⟨S1,hnd⟩:=Ha G hc;obtain⟨⟨st,fs,Rg,pr,Ns,k,rb,rfl,D,mS,bS,scS,hpr,hr,Kf,hf⟩,L⟩:=G.tZ rs h1;exact Ke D mS bS scS hpr L (G.jD hg) hr (S.e Γ X aa ab 0 a G) (bF hp.1 _ _) S1 Kf λqual fa cS cl A stack s H xl rV Mv=>S.e _ _ xl rV 0 _ (ON G S1.kind hnd hf Mv xl rV)
  | _=>exact bg
 ·cases e<;>exact bg
def ZM(Γ:Gm)(X:Cx)(aa:Hp)(ab:Fz)(m:Nat)(x:Str)(a:Expr)(es:List Expr)(p cp:Pos)(G:GOk Γ X aa ab)(hp:(a::es).all bC=true)(hn:iq x=true)(hg:yE Γ x=true):PE X (.Call (.Name x p) (a::es) [] cp) (tE X aa ab (Vb (n+1) Γ m x a es)):=by
 have JJ:=hp;rw[gL,aV]at JJ;obtain⟨n1,n2,n3⟩:=kc hn;have ha:=S.a Γ X aa ab 0 (a::es) G;have h1:=bF JJ.1 es X.env;have h2:=ig JJ.2 X.env cp;refine pI (λhx=>?_) ?_
 ·cases bf hx;exact S.sp Γ X aa ab a es p cp G hp hg
 cases hk:Γ.fns.lookup x with
 | some k =>
  obtain⟨j,f,fd,ps,F,hr,q1,q2,q3⟩:=G.fns _ k hk;exact UC (adF F hr q3) (G.jD hg) q1 q2 ha n1 h1 h2
 | none=>cases hk:Γ.cls.lookup x with
  | some k=>cases m with
   | zero =>
    obtain⟨j,Ca,f,fd,ps,hC,c,M,F,hr,q1,q2⟩:=G.cls _ k hk;exact(Nn (p:=p) M F hr (G.jD hg) q1 q2 .nil zf ha n1 h1 h2).imp λσ H Q h=>Ou hC c h
   | succ=>exact bg
  | none =>
   refine pJ λhb=>pI (λhx=>?_) (pI (λhx=>?_) (pI (λhx=>?_) (pI (λhx=>?_) ?_)))
   ·cases bf hx;exact S.is Γ X aa ab a es p cp G hp hg hb
   ·cases bf (fu.mp hx).1;exact S.st Γ X aa ab a es p cp G hp hg hb
   ·cases bf hx;exact S.d Γ X aa ab a es p cp G hp hg hb
   ·cases bf hx;exact S.li Γ X aa ab m a es p cp G hp hg hb
   cases hg':xx x with
   | some g=>exact U5 hg' G.hd (G.jD hg) (G.de _ hb) ha h1 h2
   | none=>exact bg
def ZN(Γ:Gm)(X:Cx)(aa:Hp)(ab:Fz)(m:Nat)(f a:Expr)(es:List Expr)(cp:Pos)(G:GOk Γ X aa ab)(hp:(a::es).all bC=true):PE X (.Call f (a::es) [] cp) (tE X aa ab (Va (n+1) Γ m f a es cp)):=by
 have JJ:=hp;rw[gL,aV]at JJ;cases f with
 | Name=>exact pJ λhn=>pI (λhg=>S.cn Γ X aa ab m _ a es _ cp G hp hn hg) (pJ λhv=>S.o Γ X aa ab _ a es _ cp G hp hn hv)
 | Subscript=>exact Ot G.fns G.ns (S.e Γ X aa ab 0 _ G) (S.a Γ X aa ab 0 _ G) (bF JJ.1 _ _) (ig JJ.2 _ _)
 | Attribute o g ap =>
  refine pJ λhc=>?_
  simp only[aV,nF]at hc;cases hw:EN g with
  | none=>exact bg
  | some w=>exact ac7 G.un hw (S.e Γ X aa ab 0 _ G) (S.a Γ X aa ab _ _ G) (qg hc.1.1) (OM hp hc.2) hc.1.2 (bF JJ.1 _ _) (ig JJ.2 _ _)
 | _=>exact bg
def ZO(Γ:Gm)(X:Cx)(aa:Hp)(ab:Fz)(m:Nat)(e:Expr)(G:GOk Γ X aa ab):PE X e (tE X aa ab (bL (n+1) Γ m e)):=by
 cases e with
 | Constant c=>cases c<;>first | exact bg | exact Yh | exact acJ | exact Yg | exact Yi
 | Name x =>
  show PE X _ (tE X aa ab (U6 Γ x));unfold U6;split
  ·rename_i hn;split
   ·rename_i hv;split
    ·rename_i i hi;exact QO i (vh G hn hv hi)
    ·exact bg
   ·split
    ·rename_i hg;split
     ·rename_i q hq;obtain⟨u,v,g1,g2,g3⟩:=G.cons _ q hq;exact zg (Ef (G.jD hg) g1 g2 (kc hn).1) g3
     ·exact bg
    ·exact bg
  ·exact bg
 | BinOp a op b =>
  show PE X _ (tE X aa ab (match OL op with | some g=>op2 g (bL n Γ 0 a) (bL n Γ 0 b) | none=>cB))
  cases h1:OL op with
  | none=>exact bg
  | some=>exact acK (Ks h1) (S.e Γ X aa ab 0 _ G) (S.e Γ X aa ab 0 _ G)
 | UnaryOp op=>cases op with
  | Not=>exact Yp (S.e Γ X aa ab 0 _ G)
  | USub=>exact YE (S.e Γ X aa ab 0 _ G)
  | _=>exact bg
 | BoolOp=>exact S.b Γ X aa ab _ _ _ G
 | Compare=>exact S.k Γ X aa ab _ _ _ _ G
 | IfExp=>exact acN (S.t Γ X aa ab _ G) (S.e Γ X aa ab m _ G) (S.e Γ X aa ab m _ G)
 | Tuple=>exact Yr (S.a Γ X aa ab m _ G)
 | List=>cases m with
  | zero=>exact Ys (S.a Γ X aa ab 0 _ G)
  | succ=>exact TV (S.a Γ X aa ab _ _ G)
 | Dict ks vs=>rcases ks with _ | _<;>rcases vs with _ | _<;>first | exact Y5 _ | exact bg
 | Subscript=>exact S.x Γ X aa ab _ _ _ G
 | ListComp=>exact(S.c Γ X aa ab m _ _ _ _ G).1
 | Attribute =>
  show PE X _ (tE X aa ab (ite _ _ _));split
  ·rename_i hb;exact Y7 (S.e Γ X aa ab 0 _ G) (qg hb)
  ·exact bg
 | Call f as ks=>cases as with
  | cons=>cases ks with
   | cons=>exact bg
   | nil =>
    show PE X _ (tE X aa ab (ite _ _ _));split
    ·rename_i hp;exact S.f Γ X aa ab m _ _ _ _ G hp
    ·exact bg
  | nil=>cases ks with
   | cons=>cases f<;>exact bg
   | nil=>cases f with
    | Attribute =>
     show PE X _ (tE X aa ab (ite _ _ _));split
     ·rename_i hc;rw[aV]at hc;split
      ·rename_i hx;have hx:=bf hx;subst hx;exact Zq (S.e Γ X aa ab 0 _ G) (qg hc.1) hc.2
      split
      ·rename_i w hw;exact Y2 hw (S.e Γ X aa ab 0 _ G) (qg hc.1) hc.2
      ·exact bg
     ·exact bg
    | _=>exact bg
 | _=>exact bg
end
theorem snd:∀n:Nat,Snd n
 | 0=>KQ
 | n+1 =>
  have S:=snd n
  ⟨ZO S,ZN S,ZL S,ZM S,Vg S,Vd S,ZH S,Ve S,Vf S,ZF S,ZI S,ZG S,ZA S,ZC S,ZD S,ZE S,ZJ S,ZK S⟩
structure SOk (Γ:Gm) (X:Cx) (aa:Hp) (ab:Fz):Prop extends GOk Γ X aa ab where
 never:PassesOwn (model X.prog X.w) X.A X.env X.xe
def Vh:Expr->Bool
 | .ListComp _ _ _ _=>true
 | _=>false
def OR:G2:=rp (λ_ _=>true) λi j=>.int (i+j)
def Vi:Operator->Option G2
 | .Add=>some OR
 | _=>none
noncomputable def sI{c:Prop} [Decidable c] (h:c->PS X e (tS X aa ab f)):PS X e (tS X aa ab (if c then f else cB)):=by
 split
 ·exact h ‹_›
 ·exact iO
section
variable {Γ:Gm} {X:Cx} {x:Str} {p sp:Pos} {e:Expr} {op:Operator} {i:Nat} {aa:Hp} {ab:Fz} {fe:Gx PV} {g:G2}
def OS(h:Vi op=some g):u4 X (inplaceOp op) g:=by
 cases op<;>cases h
 exact gD (zu Na) (λ_ _ _=>trivial) λ_ _ _=>aG.mpr rfl
def OU{st:cx}(h:rd i st=some r):∃p,st.ρ[i]?=some (some p)/\r=(.ok p,st):=by
 obtain⟨p,e1,e2⟩:=bj h;cases z:st.ρ[i]? with
 | none=>rw[z]at e1;cases e1
 | some o =>
  rw[z]at e1;cases o with
  | none=>cases e1
  | some p'=>cases e1;exact⟨p,rfl,e2.symm⟩
def ZP(ho:u4 X (inplaceOp op) g)(he:PE X e (tE X aa ab fe))(hN:X.N.Nodup)(hi:X.N[i]?=some x)(hx:P5 X.env.scope x)(hf:X.fn x=true\/X.env.scope.names.lookup x=some .local):PS X (.AugAssign (.Name x p) op e sp) (tS X aa ab (c8 (op2 g (rd i) fe) (aU i))):=by
 refine(S5 hN hi hx he (λae s σ H x y v u Q I r1 r2 t=>ho ae s σ H x y v u Q I r1 r2 t) hf).imp λD σ H h=>?_
 obtain⟨F,st,R,h⟩:=qb h;obtain⟨r,e1,e2⟩:=At.bnd h;obtain⟨q,e3,rfl⟩:=OU e1;obtain⟨v,h3,h4⟩:=R.l.av i q e3;refine⟨v,h3,F,st,R,Tx.bnd (e2) λy w F1 bc H1 R1 g1 b1 h1=>?_⟩
 obtain⟨z,hz,k⟩:=h1.hp;exact⟨aa,ab,F1,bc,σ,q,y,z,hz,R1,h4.mono g1,b1,k⟩
def Ai(G:GOk Γ X aa ab)(hs:slot Γ x=some i)(hx:WQ Γ x=true)(he:PE X e (tE X aa ab fe))(hsw:swapsWith e (some (.Name x p)) sp.line X.env=pure false):PS X (.Assign [.Name x p] e sp) (tS X aa ab (c8 fe (aU i))):=by
 obtain⟨h1,h2⟩:=G.U4 hx;exact(S4 G.nd (G.rZ hs) h1 he hsw h2).imp λD σ H h=>qb h
def Dq :
  (swapsWith (.ListComp elt gens scope cp) (some (.Name x p)) sp.line X.env=pure true/\X.env.scope.names.lookup x=some .local)\/swapsWith (.ListComp elt gens scope cp) (some (.Name x p)) sp.line X.env=pure false:=by
 have e:swapsWith (.ListComp elt gens scope cp) (some (.Name x p)) sp.line X.env=pure (X.env.blockKind==.function&&X.env.kindOf x==some .local&&p.line==(Expr.ListComp elt gens scope cp).pos.line&&!(scope.names.any fun(n,k)=>n==x&&(k==.local || k==.cell))):=rfl
 rw[e];cases hb:(X.env.blockKind==.function&&X.env.kindOf x==some .local&&p.line==(Expr.ListComp elt gens scope cp).pos.line&&!(scope.names.any fun(n,k)=>n==x&&(k==.local || k==.cell)))with
 | true =>
  refine .inl ⟨rfl,?_⟩;simp only[aV]at hb;exact bf hb.1.1.2
 | false=>exact .inr rfl
def Hb(h:(lQ e || Vh e)=true)(l:Nat)(env:Env):swapsWith e (some (.Attribute a x p)) l env=pure false:=by
 cases e<;>first | rfl | cases h
def Dr(h:qf k=true)(env:Env)(v:Value):assign (.Subscript o k p) env v=(do
   let ov <-holding [v] (eval o env)
   let iv <-holding [v,ov] (eval k env)
   standAt p
   holding [v,ov,iv] (setItem ov iv v)
   release [v,ov,iv] []):=by
 cases k<;>first | rfl | cases h
def Ds(env:Env):swappedStores [.Subscript o k p] e env=pure none:=by
 cases e<;>rfl
end
def ZQ:Nat:=8000000
def isD(Γ:Gm):Expr->Bool
 | .Name x _=>md Γ x==10
 | _=>false
def RET:Str:="[return]"
def asName(n:Nat)(Γ:Gm)(x:Str)(e:Expr):Gx dE:=if(WQ Γ x&&(lQ e || Vh e))=true then(match slot Γ x with | some i=>c8 (bL n Γ (md Γ x) e) (aU i) | none=>cB)else cB
noncomputable def Rx(n:Nat)(Γ:Gm)(tg e:Expr):Gx dE:=match tg with
 | .Name x _=>asName n Γ x e
 | .Tuple ts k p=>if E2 e=true then(match xw n Γ (.Tuple ts k p)with | some g=>c8 (bL n Γ 0 e) g.1 | none=>cB)else cB
 | .Subscript o k _=>if(qf k&&lQ e)=true then Oq (bL n Γ (Zy Γ o) e) (bL n Γ 0 o) (bL n Γ 0 k)else cB
 | .Attribute o f _=>if(lQ e || Vh e)=true then UK Γ.clss Γ.flds f (bL n Γ (md Γ f) e) (bL n Γ 0 o)else cB
 | _=>cB
noncomputable def Ry(n:Nat)(Γ:Gm)(tg:Expr)(op:Operator)(e:Expr):Gx dE:=match tg with
 | .Name x _=>if WQ Γ x=true then(match slot Γ x,Vi op with | some i,some g=>c8 (op2 g (rd i) (bL n Γ 0 e)) (aU i) | _,_=>cB)else cB
 | _=>cB
mutual
noncomputable def Vj:Nat->Gm->Stmt->Gx dE
 | 0,_,_=>cB
 | n+1,Γ,st=>match st with
  | .Pass _=>aX .nx
  | .Break _=>aX .bk
  | .Continue _=>aX .ct
  | .Return none _=>aX (.rt .bB)
  | .Return (some e) _=>retS (bL n Γ (md Γ RET) e)
  | .If c a b _=>dP (uw n Γ c) (kf n Γ a) (kf n Γ b)
  | .While c b [] _=>jg (uw n Γ c) (kf n Γ b) ZQ
  | .For tg iter body [] _=>if bC iter=true then(match xw n Γ tg with | some g=>if isD Γ iter=true then Oi (bL n Γ 0 iter) g.1 (kf n Γ body)else zH (KP n Γ tg iter) g.1 (kf n Γ body) | none=>cB)else cB
  | .Expr e _=>if lQ e=true then gO (bL n Γ 0 e)else cB
  | .Assign [tg] e _=>Rx n Γ tg e
  | .AugAssign tg op e _=>Ry n Γ tg op e
  | _=>cB
termination_by structural n=>n
noncomputable def kf:Nat->Gm->List Stmt->Gx dE
 | 0,_,_=>cB
 | n+1,Γ,[]=>aX .nx
 | n+1,Γ,[st]=>Vj n Γ st
 | n+1,Γ,st::WR=>dX (Vj n Γ st) (kf n Γ WR)
termination_by structural n=>n
end
structure adJ (n:Nat):Prop where
 s:∀Γ X aa ab st,SOk Γ X aa ab->PS X st (tS X aa ab (Vj n Γ st))
 ss:∀Γ X aa ab WR,SOk Γ X aa ab->PSs X WR (tS X aa ab (kf n Γ WR))
def Vk:PSs X s (tS X aa ab cB):=λ_ _ _ _ _ _ ⟨F,st,R,r,z,_⟩=>by cases z
def Vl(G:GOk Γ X aa ab):PS X (.Assign [tg] e sp) (tS X aa ab (Rx n Γ tg e)):=by
 have S:=snd n;cases tg with
 | Name x p =>
  refine sI λhc=>?_
  rw[aV]at hc;cases hi:slot Γ x with
  | none=>exact iO
  | some i =>
   rcases Cc _ _▸hc.2 with hn | hl
   ·exact Ai G hi hc.1 (S.e Γ X aa ab _ _ G) (ie hn _ _ _)
   ·cases e<;>try (exact absurd hl c9)
    rcases Dq with⟨z,hl⟩ | z
    ·cases n with
     | zero=>exact xF
     | succ n=>exact((snd n).c Γ X aa ab _ _ _ _ _ G).2 i x p sp (G.rZ hi) hl z
    ·exact Ai G hi hc.1 (S.e Γ X aa ab _ _ G) z
 | Tuple ts k tp =>
  refine sI λhc=>?_
  cases h1:xw n Γ (.Tuple ts k tp)with
  | none=>exact iO
  | some g =>
   obtain⟨g1,g2,g3,g4⟩:=kB G n _ g h1;refine Yw (S.e Γ X aa ab _ _ G) g1 (ie (xu hc) (some (Expr.Tuple ts k tp)) sp.line X.env) ?_ (g3 _);cases e<;>first | rfl | cases hc
 | Subscript o k tp =>
  refine sI λhc=>?_
  rw[aV]at hc;exact Y4 G.un (S.e Γ X aa ab _ _ G) (S.e Γ X aa ab _ _ G) (S.e Γ X aa ab _ _ G) (Dr hc.1 _) (ie hc.2 (some (Expr.Subscript o k tp)) sp.line X.env) (Ds _)
 | Attribute=>exact sI λhc=>Y8 G.Rq (S.e Γ X aa ab _ _ G) (S.e Γ X aa ab _ _ G) (Hb hc _ _)
 | _=>exact iO
def Vm(G:GOk Γ X aa ab):PS X (.AugAssign tg op e sp) (tS X aa ab (Ry n Γ tg op e)):=by
 cases tg with
 | Name x p =>
  refine sI λhc=>?_
  cases h1:slot Γ x with
  | none=>exact iO
  | some i=>cases h2:Vi op with
   | none=>exact iO
   | some g =>
    obtain⟨l1,l2⟩:=G.U4 hc;exact ZP (OS h2) ((snd n).e Γ X aa ab _ _ G) G.nd (G.rZ h1) l1 l2
 | _=>exact iO
theorem sns:∀n:Nat,adJ n
 | 0=>⟨λ_ _ _ _ _ _=>iO,λ_ _ _ _ _ _=>Vk⟩
 | n+1=>by
  have T:=sns n;have S:=snd n;refine⟨λΓ X aa ab st G=>?_,λΓ X aa ab WR G=>?_⟩
  ·cases st with
   | Pass=>exact TZ
   | Break=>exact NK
   | Continue=>exact T1
   | Return e=>cases e with
    | none=>exact T2
    | some e=>exact Yt (S.e Γ X aa ab _ _ G.toGOk)
   | If=>exact acO (S.t Γ X aa ab _ G.toGOk) (T.ss Γ X aa ab _ G) (T.ss Γ X aa ab _ G)
   | While c b o=>cases o with
    | nil=>exact NP ZQ G.never (S.t Γ X aa ab _ G.toGOk) (T.ss Γ X aa ab _ G)
    | cons=>exact iO
   | For tg iter body o=>cases o with
    | cons=>exact iO
    | nil =>
     refine sI λhp=>?_
     cases h1:xw n Γ tg with
     | none=>exact iO
     | some g =>
      show PS X _ (tS X aa ab (ite _ _ _));split
      ·exact Ux G.never G.calm (S.e Γ X aa ab _ _ G.toGOk) (kB G.toGOk n _ g h1).1 (T.ss Γ X aa ab _ G) (fV hp _)
      ·exact Uu G.never G.calm (S.i Γ X aa ab _ _ G.toGOk) (kB G.toGOk n _ g h1).1 (T.ss Γ X aa ab _ G) (fV hp _)
   | Expr=>exact sI λhc=>T3 (S.e Γ X aa ab _ _ G.toGOk) (ie hc _ _ _)
   | Assign ts=>rcases ts with _ | ⟨_,_ | _⟩<;>first | exact Vl G.toGOk | exact iO
   | AugAssign=>exact Vm G.toGOk
   | _=>exact iO
  ·rcases WR with _ | ⟨st,_ | _⟩
   ·exact TX
   ·exact TY (T.s Γ X aa ab st G)
   ·exact NJ (T.s Γ X aa ab st G) (T.ss Γ X aa ab _ G)
def Dt:Nat:=120
abbrev CT:=Str->oi
def noFn:CT:=λ_ _ _=>none
def Vn(P:Pg):List (Str×Nat):=P.cls.map λd=>(d.1,(params d.2).length)
def Vo(P:Pg)(x:Str)(st:Stmt)(cls:List (Str×Nat))(make:CT)(tZ:Option ((PV->Gx PV)->Nat->oi))(xq:Option (Nat×(PV->Gx PV)))(c:CT):Gm where
 sc:=(aw st).names
 N:=cb st
 own:=true
 fns:=P.defs.map λd=>(d.1,(params d.2).length)
 call:=c
 cons:=P.cons
 de:=P.de
 tabs:=P.tabs
 cls:=cls
 make:=make
 clss:=P.cls.map (·.1)
 flds:=P.flds
 W9:=(P.W9.lookup x).getD []
 tZ:=tZ
 xq:=xq
def rdI(P:Pg)(C:Str)(st:Stmt)(c:CT):Gx dE:=kf Dt (Vo P C st [] noFn none none c) (dh st)
def WS(P:Pg)(c:CT):CT:=λC=>match P.cls.lookup C with | some st=>dQ (rdI P C st c) (cb st).length | none=>λ_ _=>none
def WT(P:Pg)(st:Stmt)(c:CT)(ω:PV->Gx PV)(n:Nat):Gx dE:=kf Dt (Vo P "spread" st [] noFn none (some (n,ω)) c) (dh st)
def Vp(P:Pg)(x:Str)(c:CT):Option ((PV->Gx PV)->Nat->oi):=if P.nU.contains x=true then(P.defs.lookup ("spread":Str)).map λst=>λω n=>dQ (WT P st c ω n) (cb st).length else none
def Rz(P:Pg)(x:Str)(st:Stmt)(c:CT):Gx dE:=kf Dt (Vo P x st (Vn P) (WS P c) (Vp P x c) none c) (dh st)
def run(P:Pg):Nat->CT
 | 0=>noFn
 | k+1=>λx=>match P.defs.lookup x with | some st=>dQ (Rz P x st (run P k)) (cb st).length | none=>λ_ _=>none
def Vq{P:Pg}{k:Nat}{x:Str}{st:Stmt}(h:P.defs.lookup x=some st):run P (k+1) x=dQ (Rz P x st (run P k)) (cb st).length:=by
 show(match P.defs.lookup x with | some st=>dQ (Rz P x st (run P k)) (cb st).length | none=>λ_ _=>none)=_
 rw[h]
theorem kh{α β:Type}(g:α->β)(x:Str):∀l:List (Str×α),(l.map λd=>(d.1,g d.2)).lookup x=(l.lookup x).map g
 | []=>rfl
 | (n,a)::r=>by
  rw[aI,jT,jT];cases x==n with
  | true=>rfl
  | false=>exact kh g x r
section
variable {prog:Program} {w:World} {K:W.Frag} {mg:Str->Option Value} {base:Heap}
def Du{x:Str}{c T:Addr}(h:W.tabIn K x=some (c,T)):∃f oc od fd yB,W.nsIn K mainGlobals x=some (some (.ref f))/\K.lookup f=some ⟨oc,od,.func fd,yB⟩/\fd.code=.ref c:=by
 unfold W.tabIn at h;split at h
 ·grind
 ·cases h
structure Vr (P:Pg) (w:World) (K:W.Frag) (mg:Str->Option Value):Prop where
 fns:∀x st,P.defs.lookup x=some st->∃f fd,Cf K x x st f fd/\gz K fd (params st) []/\mg x=some (.ref f)/\dD (cb st) (params st) (aw st)
 cons:∀x p,P.cons.lookup x=some p->∃u v,mg x=some u/\RelV v u/\∀F,bO K F p v
 de:∀x,P.de.contains x=true->mg x=none
 tabs:∀T rows,P.tabs.lookup T=some rows->EO K mg w.params T rows
 ns:∀x a,W.nsIn K mainGlobals x=some (some (.ref a))->mg x=some (.ref a)
 Rq:Ka K (P.cls.map (·.1)) P.flds
 cls:∀C st,P.cls.lookup C=some st->∃Ca f fd,ClsAt K C (.ref Ca)/\FX K Ca/\Mk K Ca f/\mg C=some (.ref Ca)/\Cf K "__init__" (C++".__init__") st f fd/\gz K fd (params st) []/\dD (cb st) (params st) (aw st)
 tZ:∀x st,P.defs.lookup x=some st->P.nU.contains x=true->x∈du/\(∃c T,W.tabIn K x=some (c,T)/\W.codeHdIn K c T=true)/\∀st,P.defs.lookup ("spread":Str)=some st->(params st).length=2
def FR(P:Pg)(prog:Program)(w:World)(K:W.Frag)(mg:Str->Option Value)(base:Heap)(k:Nat):Prop:=∀(x:Str) (st:Stmt) (f:Addr) (fd:FuncData),P.defs.lookup x=some st->mg x=some (.ref f)->Cf K x x st f fd->dD (cb st) (params st) (aw st) ->
 FnOk prog w K mg base (iH prog w) (3*k) f fd (params st) (GW K (params st).length (run P k x))
section
variable {P:Pg} (O:Vr P w K mg) {k:Nat} (ih:FR P prog w K mg base k)
include O ih
def RA{X:Cx}(h1:X.prog=prog)(h2:X.w=w)(h3:X.K=K)(h4:X.mg=mg)(h5:X.base=base):U3 X (3*k) (P.defs.map λd=>(d.1,(params d.2).length)) (run P k):=λy n hy=>by
 subst h1 h2 h3 h4 h5;rw[kh (λst=>(params st).length)]at hy
 obtain⟨cC,h1,h2⟩:=bj hy;subst h2;obtain⟨f',Vs,F1,B1,m1,S1⟩:=O.fns y cC h1;exact⟨3*k,f',Vs,params cC,ay _,ih y cC f' Vs h1 m1 F1 S1,m1,F1.kp,B1⟩
def KR{st:Stmt}{x q:Str}{f:Addr}{cS:Value}{A:Around}{ax:List Env}{s:Shared}{H aa:Hp}{ab:Fz}{E:XK}{cls:List (Str×Nat)}{make:CT}{tZ:Option ((PV->Gx PV)->Nat->oi)}{xq:Option (Nat×(PV->Gx PV))}{j:Nat}(S:dD (cb st) (params st) (aw st))
  (hr:dG j (A.deeper (envOfC q (aw st) s.heap.objs.size f cS))) (hj:3*k<=j) (hcl:∀C n,cls.lookup C=some n->∃k' Ca f' fd ps,ClsAt K C (.ref Ca)/\FX K Ca/\Mk K Ca f'/\FnOk prog w K mg base (iH prog w) k' f' fd ps (GW K n (make C))/\dG (k'+1) (A.deeper (envOfC q (aw st) s.heap.objs.size f cS))/\mg C=some (.ref Ca)/\gz K fd ps [])
  (Kf:∀rs,tZ=some rs->Kt (Vo P x st cls make tZ xq (run P k)) (fg (iH prog w) prog w K mg base (cb st) q (aw st) f cS A ax s H E) rs)
  (adK:∀n ω,xq=some (n,ω)->zS (fg (iH prog w) prog w K mg base (cb st) q (aw st) f cS A ax s H E) aa ab n ω) :
  SOk (Vo P x st cls make tZ xq (run P k)) (fg (iH prog w) prog w K mg base (cb st) q (aw st) f cS A ax s H E) aa ab:=by
 refine⟨⟨rfl,rfl,S.nd,S.kind,rfl,hr.hd,?_,λ_ _=>rfl,λy n hy=>?_,O.cons,O.de,O.tabs,O.ns,O.Rq,hcl,Kf,adK⟩,PassesOwn.leaving⟩
 ·have:=hr.un;show(A.deeper _).units+1150<cLine
  lia
 ·obtain⟨i,f',Vs,ps,h1,h2,h3,h4,h5⟩:=RA (X:=fg (iH prog w) prog w K mg base (cb st) q (aw st) f cS A ax s H E) O ih rfl rfl rfl rfl rfl y n hy;exact⟨i,f',Vs,ps,h2,hr.mono (bA h1 hj),h3,h4,h5⟩
def Vt{st:Stmt}{x:Str}{f:Addr}{cS:Value}{A:Around}{ax:List Env}{s:Shared}{H:Hp}{E:XK}{cls:List (Str×Nat)}{make:CT}{tZ:Option ((PV->Gx PV)->Nat->oi)}{xq:Option (Nat×(PV->Gx PV))}{rs:(PV->Gx PV)->Nat->oi}(h:P.defs.lookup x=some st)(hm:mg x=some (.ref f))(hc:CZ K f cS)(hB:P.nU≠[]->zd mg base)
  (hr:dG (3*k+2) (A.deeper (envOfC x (aw st) s.heap.objs.size f cS))) (hs:Vp P x (run P k)=some rs):Kt (Vo P x st cls make tZ xq (run P k)) (fg (iH prog w) prog w K mg base (cb st) x (aw st) f cS A ax s H E) rs:=by
 obtain⟨hl,hs⟩:=b6 hs;obtain⟨sp,e1,rfl⟩:=bj hs;obtain⟨hx,⟨c,T,ht,hC⟩,h2⟩:=O.tZ x st h hl;obtain⟨fs,Rg,F1,B1,m1,S1⟩:=O.fns _ sp e1;refine⟨⟨sp,fs,Rg,params sp,cb sp,3*k,WT P sp (run P k),rfl,F1,m1,B1,S1,h2 sp e1,hr,λcS A ax s H E aa ab n ω Mv ho=>?_,RA O ih rfl rfl rfl rfl rfl⟩,⟨⟨x,c,T,hx,ht,hC,(by
  obtain⟨f',oc,od,fd,yB,h1,h2,h3⟩:=Du ht;obtain⟨oc',od',Vs,ahr,g1,g2⟩:=hc;have:=O.ns x f' h1;rw[hm]at this;cases this;rw[h2]at g1;cases g1;exact g2.symm.trans h3),rfl⟩,hB (λz=>by grind)⟩⟩
 exact(sns Dt).ss _ _ aa ab _ (KR O ih S1 Mv (qG _ _) (λ_ _ z=>by cases z) (λ_ z=>by cases z) λ_ _ z=>by cases z;exact ho)
def ZR{C:Str}{st:Stmt}{f:Addr}{fd:FuncData}(h:P.cls.lookup C=some st)(F:Cf K "__init__" (C++".__init__") st f fd)(S:dD (cb st) (params st) (aw st)):FnOk prog w K mg base (iH prog w) (3*k+1) f fd (params st) (GW K (params st).length (WS P (run P k) C)):=by
 have e:WS P (run P k) C=dQ (rdI P C st (run P k)) (cb st).length:=by
  unfold WS;rw[h]
 rw[e];exact J4 F S λcS A ax s H E _ hr aa ab=>(sns Dt).ss _ _ aa ab _ (KR O ih S hr (ay _) (λ_ _ z=>by cases z) (λ_ z=>by cases z) λ_ _ z=>by cases z)
end
theorem KU{P:Pg}(O:Vr P w K mg)(hB:P.nU≠[]->zd mg base):∀(k:Nat),FR P prog w K mg base k
 | 0=>λx st f fd h NA F S=>by
  have no:∀vs H Q E,¬GW K (params st).length (run P 0 x) vs H Q E:=λvs H Q E ⟨_,_,_,_,_,_,_,_,_,_,z,_⟩=>by cases z
  exact⟨λvs H Q E h=>absurd h (no vs H Q E),λA ax s H args us vs Q E _ _ _ _ h=>absurd h (no vs H Q E)⟩
 | k+1=>λx st f fd h NA F S=>by
  have ih:=KU (P:=P) O hB k;rw[Vq h];refine J4 (k:=3*k+2) F S λcS A ax s H E TK hr aa ab=>(sns Dt).ss _ _ aa ab _ (KR O ih S hr (qG _ _) (λC n hy=>?_) (λrs e=>Vt O ih h NA TK hB hr e) λ_ _ z=>by cases z)
  unfold Vn at hy;rw[kh (λst=>(params st).length)]at hy
  obtain⟨cC,h1,h2⟩:=bj hy;subst h2;obtain⟨Ca,f',Vs,a,c,M,m1,F1,B1,S1⟩:=O.cls C cC h1;exact⟨3*k+1,Ca,f',Vs,params cC,a,c,M,ZR O ih h1 F1 S1,hr,m1,B1⟩
def qj(ns:List Int):PV:=.lst (ns.map .int)
theorem Aj{F:Fz}:∀ns:List Int,az K F (ns.map .int) (ns.map V.int)
 | []=>.nil
 | n::r=>.cons (aG.mpr rfl) (Aj r)
end
theorem ji{α β:Type} [BEq α] [LawfulBEq α] {k:α} {v:β}:∀{l:List (α×β)},l.lookup k=some v->(k,v)∈l
 | [],h=>by cases h
 | (a,b)::l,h=>by
  rw[jT]at h;cases z:k==a with
  | true =>
   rw[z]at h;cases h;rw[bf z];exact aE
  | false =>
   rw[z]at h;exact aF _ (ji h)
def FY.at{K:W.Frag}{h:Heap}{mg:Str->Option Value}{P:Params}{T:Str}{rows:List (Str×Str)}(x:FY K P T rows)(X:K.In h)(G:h.Ns mainGlobals mg):EO K mg P T rows:=by
 obtain⟨a,es,n,h1,h2,h3,h4⟩:=x;refine⟨a,es,n,W.mg_of X G h1,h2,h3,λk fn e=>?_⟩
 obtain⟨f,h5,h6⟩:=h4 (k,fn) (ji e);exact⟨f,h5,W.mg_of X G h6,h6⟩
def Ir.at{K:W.Frag}{h base:Heap}{mg:Str->Option Value}(b:Ir K)(X:K.In h)(G:h.Ns mainGlobals mg)(Y:K.In base):zd mg base :=
 let ⟨bm,o,h1,h2,h3,h4,h5⟩:=b;⟨bm,o,W.mg_of X G h1,h2,h3,Y _ _ h4,h5⟩
def Ak(K:W.Frag):List (Addr×Str):=du.filterMap λx=>(W.tabIn K x).map λcT=>(cT.2,yS x)
theorem vn{α β:Type} [BEq α] [LawfulBEq α] {b:α} {q:β}:∀{l:List (α×β)},(l.map (·.1)).Nodup->(b,q)∈l->l.lookup b=some q
 | [],_,h=>nomatch h
 | (a,v)::l,hn,h=>by
  rw[aI,gJ]at hn;rw[jT];rcases aD.mp h with e | h'
  ·grind
  ·have:(b==a)=false:=by
    grind
   rw[this];exact vn hn.2 h'
def Hc(K:W.Frag):(Ak K).map (·.1)=du.filterMap λx=>(W.tabIn K x).map (·.2):=by
 unfold Ak;rw[List.map_filterMap]
 congr 1
 funext x
 cases W.tabIn K x<;>rfl
def lY.tabs{K:W.Frag}{h:Heap}(t:lY K h)(X:K.In h):(∀b q,(Ak K).lookup b=some q->h.get? b=some {cls:=.none,data:=.fields #[]}/\isCodeTable h b/\K.lookup b=none)/\∀H:Hp,(∀b q,(Ak K).lookup b=some q->H b=some (.Cd q))->qR K H:=by
 refine⟨λb q e=>?_,λH hH x hx c T e=>?_⟩
 ·have hm:=ji e;unfold Ak at hm;obtain⟨x,hx,e2⟩:=qC.mp hm;obtain⟨cT,e3,e4⟩:=jN.mp e2;cases e4;obtain⟨h1,h2,h3⟩:=t.at_ x hx cT.1 cT.2 e3;obtain⟨o,vs,_,_,_,_,_,_,_,g1,g2,g3,g4,_⟩:=W.codeHd_of_K X h1;exact⟨h2,⟨_,o,vs,g1,g2,g3,g4⟩,h3⟩
 ·refine hH T (yS x) (vn (by rw[Hc];exact t.nd) ?_)
  exact qC.mpr ⟨x,hx,by rw[e];rfl⟩
def Vu(P:Pg):Bool:=P.nU.isEmpty || (match P.defs.lookup ("spread":Str)with | some st=>(params st).length==2 | none=>true)
def adL{P:Pg}{K:W.Frag}{h:Heap}{mg:Str->Option Value}(X:K.In h)(G:h.Ns mainGlobals mg)(hd:∀d∈P.defs,Iq K d.1 d.2)
  (hc:∀d∈P.cons,∃u v,W.nsIn K mainGlobals d.1=some (some u)/\RelV v u/\∀F,bO K F d.2 v) (hb:∀x∈P.de,W.nsIn K mainGlobals x=some none) {w:World} (ht:∀d∈P.tabs,FY K w.params d.1 d.2) (hcl:∀d∈P.cls,Sj K d.1 d.2 P.flds) (LS:Vu P=true) (hlm:∀x∈P.nU,Sk K x):Vr P w K mg where
 fns:=λx st e=>by
  obtain⟨⟨f,fd,a,F,b⟩,s⟩:=hd (x,st) (ej e);exact⟨f,fd,F,.all b,W.mg_of X G a,s⟩
 cons:=λx p e=>by
  obtain⟨u,v,a,r,b⟩:=hc (x,p) (ej e);exact⟨u,v,W.mg_of X G a,r,b⟩
 de:=λx e=>W.mg_none_of X G (hb x (by simpa using e))
 tabs:=λT rows e=>(ht (T,rows) (ji e)).at X G
 ns:=λx a e=>W.mg_of X G e
 Rq:=λC e=>by
  have e:C∈P.cls.map (·.1):=by simpa using e
  obtain⟨d,hd,rfl⟩:=aM.mp e;obtain⟨Ca,f,fd,a,M,c,na,F,b,s⟩:=hcl d hd;exact⟨Ca,a,c,λg hg=>na g (by simpa using hg)⟩
 cls:=λC st e=>by
  obtain⟨Ca,f,fd,a,M,c,na,F,b,s⟩:=hcl (C,st) (ej e);exact⟨Ca,f,fd,a,c,M,W.mg_of X G a,F,.all b,s⟩
 tZ:=λx st e hs=>by
  obtain⟨h1,h2⟩:=hlm x (by simpa using hs)
  refine⟨h1,h2,λcC e'=>?_⟩
  unfold Vu at LS;rw[e']at LS;rcases Bool.or_eq_true_iff.mp LS with z | z
  ·rw[v3.mp z]at hs;cases hs
  ·exact bf z
def Yes(o:Option (Rs PV×List aq)):Prop:=∃h,o=some (.ok (.bl true),h)
def Vv{K:W.Frag}{P:Pg}{k:Nat}{H:Hp}{a:Addr}{ns:List Int}(hr:Yes (run P k "law" [qj ns] []))(hS:kF K H a (ns.map V.int)):GW K 1 (run P k "law") [.ref a] H (λv _=>v=.bl true) λ_ _ _=>False :=
 let ⟨h,e⟩:=hr
 ⟨H,⟨H,[]⟩,[],[qj ns],_,h,⟨cG.refl H,cG.refl H,Gr.refl _,λ_ _ e=>.inl e,λn a e=>by simp at e,rfl,lz,λn c a e=>by simp at e⟩,λ_ _ e=>.inl e,.cons (fY.mpr ⟨a,_,rfl,hS,Aj ns⟩) .nil,rfl,e,λv F' H' _ b=>bZ.mp b⟩
def KW{P:Pg}{N:Nat}{x:Str}{st:Stmt}{l:W.OpenLaw}{q:Program}{loose:List Str}{XP:(Str->Option Value)->Heap->Prop}{YP:World->Heap->Prop}{d:DefRec}(qU:P.defs.lookup ("law":Str)=some st)(hx:params st=[x])
  (hn:l.most=some 63) (hdn:d.name="law") (hdf:d.params.defaults=[]) (hr:dG (3*N) callerA) (LS:Vu P=true) (hY:∀(w:World) (h:Heap),YP w h->∃K:W.Frag,K.In h/\Iu P w K/\lY K h)
  (adN:∀ns:List Int,ns.length<=63->Yes (run P N "law" [qj ns] [])):W.WalkO q loose XP YP l.row.toRowW d [] (λf vs=>PySem.call f vs):=by
 refine Att.zc hn hdf λw s₀ s₁ mg mb fa o pm cd doc a vs ns G Y ho hd Eb NA Jn Jo eG hg=>?_
 obtain⟨K,KX,T,TH⟩:=hY w _ Y;obtain⟨t1,t2⟩:=TH.tabs KX;have O:=adL KX G.T.g T.hd T.hc T.hb T.ht T.hcl LS T.hlm;obtain⟨⟨f,fd,e0,F,b⟩,s⟩:=T.hd ("law",st) (ej qU);rw[hdn]at NA;have e:=NA.symm.trans (W.mg_of KX G.T.g e0);cases e;rw[hx]at b;refine Gu (CX:=iH l.prog w) KX G.T.g G.T.b G.T.builtins G.T.nolimit hg t1 t2 Jn Jo (bA eG (by decide)) hr (λbase kb _=>?_) (λs u=>.of_eq (b [u] rfl)) (λH hS=>Vv (adN ns eG) hS) (by rintro _ _ _ ⟨_,_,_,_,_,_,_,_,_,_,_,h,_⟩;exact h)
 have k:=KU (prog:=l.prog) O (λz=>(T.hbm z).at KX G.T.g kb) N "law" st _ fd qU (W.mg_of KX G.T.g e0) F s
 rw[hx]at k;exact k
abbrev Ev{α:Type}(f:Gx α)(s:cx)(a:α)(s':cx):Prop:=f s=some (.ok a,s')
abbrev Ek {α : Type} (f : Gx α) (s : cx) (a : α) : Prop := Ev f s a s
section
variable {α β:Type} {s s1 s2 s3:cx}
def eB(h:Ev f s a s1)(h2:k a s1=r):bnd f k s=r:=by
 show(f s).bind (Ye k)=r;rw[h];exact h2
def eI(h:Ev gc s b s1)(h2:(if b=true then f s1 else g s1)=r):dP gc f g s=r:=eB h (by grind)
def iT(h:Ev gc s true s1)(h2:f s1=r):dP gc f g s=r:=eI h h2
def iF(h:Ev gc s false s1)(h2:g s1=r):dP gc f g s=r:=eI h h2
variable {fa fb fe:Gx PV} {ts:Gx (List PV)} {p q x y z:PV} {ps as:List PV}
def b2(ha:Ev fa s x s1)(hb:Ev fb s1 y s2)(h:g s2.h x y=some z):Ev (op2 g fa fb) s z s2:=eB ha (eB hb (by show(g s2.h x y).map _=_;rw[h];rfl))
def cA(ha:Ev fa s x s1)(hb:Ev ts s1 as s2):Ev (au fa ts) s (x::as) s2:=eB ha (eB hb rfl)
def tU(h:Ev ts s ps s1)(hl:ps.length<=4000000):Ev (lJ .ao ts) s (.ao ps) s1:=eB h (by show(small ps (.nd .ao ps)).map _=_;rw[show small ps (.nd .ao ps)=some (.nd .ao ps)from if_pos hl];rfl)
def lS(h:Ev ts s ps s1)(hl:ps.length<=4000000):Ev (lJ .lst ts) s (.lst ps) s1:=eB h (by show(small ps (.nd .lst ps)).map _=_;rw[show small ps (.nd .lst ps)=some (.nd .lst ps)from if_pos hl];rfl)
def bV(ha:Ev ts s as s1)(h:g s1.h as=some z):Ev (gw g ts) s z s1:=eB ha (by show(g s1.h as).map _=_;rw[h];rfl)
def bT(h:Ev fa s (.bl b) s1):Ev (toB fa) s b s1:=eB h rfl
def tR(h:Ev fa s p s1)(ht:zh s1.h p=some b):Ev (gf fa) s b s1:=eB h (by show(zh s1.h p).map _=_;rw[ht];rfl)
def nB(h:Ev gc s b s1):Ev (zj gc) s (!b) s1:=eB h rfl
def clV(ha:Ev ts s as s1)(hl:as.length=n)(hn:(s1.h.isEmpty || ai as)=true)(hc:g as []=some (.ok p,h'))(hf:kO h' p=some q):Ev (bnd ts (b8 0 n g)) s q s1:=eB ha (by
 unfold b8;rw[hn,if_pos (show((0==0)&&true)=true from rfl)]
 unfold oj;rw[if_pos ⟨hl,hn⟩,hc];show(kO h' p).map _=_;rw[hf];rfl)
def clG(ha:Ev ts s as s1)(hl:as.length=n)(hn:((m==0)&&(s1.h.isEmpty || ai as))=false)(hc:g as s1.h=some (.ok p,h')):Ev (bnd ts (b8 m n g)) s p ⟨s1.ρ,h'⟩:=eB ha (by
 unfold b8;rw[hn,if_neg c9];unfold C4;rw[if_pos hl,hc];rfl)
variable {f g:Gx dE} {r:Option (Rs dE×cx)}
def sq(h:Ev f s .nx s1)(h2:g s1=r):dX f g s=r:=eB h h2
def pV(h:Ev f s (.rt p) s1):dX f g s=some (.ok (.rt p),s1):=eB h rfl
def aS(h:Ev fa s p s1)(ht:t p s1=some s2):Ev (c8 fa t) s .nx s2:=eB h (by show(t p s1).map _=_;rw[ht];rfl)
def rS(h:Ev fa s p s1):Ev (retS fa) s (.rt p) s1:=eB h rfl
def dS(h:Ev fa s p s1):Ev (gO fa) s .nx s1:=eB h rfl
def jj(e:f ⟨gy n as,h⟩=some (.ok (.rt p),⟨Bn,h'⟩)):dQ f n as h=some (.ok p,h'):=by
 unfold dQ;rw[e];rfl
def Vw(e:f ⟨gy n as,h⟩=some (.ok .nx,⟨Bn,h'⟩)):dQ f n as h=some (.ok .bB,h'):=by
 unfold dQ;rw[e];rfl
variable {t:Tg} {body:Gx dE}
def fC(ht:t p s=some s1)(hb:Ev body s1 .nx s2)(h:cY t body ps s2=r):cY t body (p::ps) s=r:=eB (show Ev (stp (t p)) s .nx s1 by show(t p s).map _=_;rw[ht];rfl) (eB hb h)
def fR(ht:t p s=some s1)(hb:Ev body s1 (.rt q) s2):cY t body (p::ps) s=some (.ok (.rt q),s2):=eB (show Ev (stp (t p)) s .nx s1 by show(t p s).map _=_;rw[ht];rfl) (eB hb rfl)
def fS(h:Ev fi s (.sq ps) s1)(h2:cY t body ps s1=r):zH fi t body s=r:=eB h h2
def sV(he:Ev fa s p s1)(hs:ui p=some h):Ev (jC fa) s (.sq h) s1:=eB he (by show(JV s1.h p).map _=_;unfold JV;rw[hs];rfl)
def sG(h:Ev fi s ps s1):Ev (CY fi) s (.sq ps) s1:=eB h rfl
theorem Al:∀{ps:List PV},(∀p∈ps,bd p h=some (F p,h))->dO bd ps h=some (ps.filterMap F,h)
 | [],_=>rfl
 | p::ps,H=>by
  show(bd p h).bind _=_;rw[H p aE];show(dO bd ps h).map _=_;rw[Al λq hq=>H q (aF _ hq)]
  cases e:F p with
  | none=>rw[List.filterMap_cons_none e];rfl
  | some v=>rw[List.filterMap_cons_some e];rfl
def cQ(hi:Ev fi s (.sq ps) s1)(hl:ps.length<=4000000)(hb:∀p∈ps,bd (bK link s1.ρ) p s1.h=some (F p,s1.h)):Ev (da false link fi bd) s (.lst (ps.filterMap F)) s1:=eB hi (by
 show(if ps.length<=fq then dO _ ps s1.h else none).bind _=_
 rw[if_pos (show ps.length<=fq from hl),Al hb]
 rfl)
def e1(ht:t p ⟨ρ,h⟩=some ⟨rM,h1⟩)(he:Ev fe ⟨rM,h1⟩ q ⟨OX,h2⟩):lM t fe ρ p h=some (some q,h2):=by
 unfold lM;rw[ht,dn,he];rfl
def Mx(ht:t p ⟨ρ,h⟩=some ⟨rM,h1⟩)(hw:Ev ft ⟨rM,h1⟩ true ⟨OX,h2⟩)(he:Ev fe ⟨OX,h2⟩ q ⟨ρ3,h3⟩):jB t ft fe ρ p h=some (some q,h3):=by
 unfold jB;rw[ht,dn,hw,dn];show(if true=true then(fe ⟨OX,h2⟩).bind _ else _)=_
 rw[if_pos rfl,he];rfl
def Hd(ht:t p ⟨ρ,h⟩=some ⟨rM,h1⟩)(hw:Ev ft ⟨rM,h1⟩ false ⟨OX,h2⟩):jB t ft fe ρ p h=some (none,h2):=by
 unfold jB;rw[ht,dn,hw];rfl
end
inductive Sh where
 | num | own | bJ (n:Int) | br (ps:List Sh)
mutual
def enc:Sh->PV
 | .num=>.ao [.str "num"]
 | .own=>.ao [.str "own"]
 | .bJ n=>.ao [.str "strip",.int n]
 | .br ps=>.ao [.str "rec",.ao (bR ps)]
def bR:List Sh->List PV
 | []=>[]
 | s::r=>enc s::bR r
end
mutual
def lv:Sh->List Sh
 | .num=>[.num]
 | .own=>[.own]
 | .bJ n=>[.bJ n]
 | .br ps=>gg ps
def gg:List Sh->List Sh
 | []=>[]
 | s::r=>lv s++gg r
end
mutual
def dp:Sh->Nat
 | .br ps=>pd ps+1
 | _=>0
def pd:List Sh->Nat
 | []=>0
 | s::r=>max (dp s) (pd r)
end
def ir:Sh->Bool
 | .br _=>false
 | _=>true
theorem iQ:∀l:List Sh,bR l=l.map enc
 | []=>rfl
 | s::r=>by simp[bR,iQ r]
def pe(a b:List Sh):bR (a++b)=bR a++bR b:=by simp[iQ]
def fB(a:List Sh):(bR a).length=a.length:=by simp[iQ]
theorem sd:∀a b:List Sh,gg (a++b)=gg a++gg b
 | [],b=>by simp[gg]
 | s::r,b=>by simp[gg,sd r b]
mutual
theorem xG:∀s:Sh,∀x∈lv s,ir x=true
 | .num,x,h=>by simp[lv]at h;subst h;rfl
 | .own,x,h=>by simp[lv]at h;subst h;rfl
 | .bJ n,x,h=>by simp[lv]at h;subst h;rfl
 | .br ps,x,h=>Am ps x (by simpa[lv]using h)
theorem Am:∀ps:List Sh,∀x∈gg ps,ir x=true
 | [],x,h=>by simp[gg]at h
 | s::r,x,h=>by
  simp only[gg,bh]at h;rcases h with h | h
  ·exact xG s x h
  ·exact Am r x h
end
def Dv(h:ir s=true):lv s=[s]/\dp s=0:=by
 cases s with
 | br _=>cases h
 | _=>exact⟨by simp[lv],by simp[dp]⟩
mutual
theorem dv:∀s:Sh,noRef (enc s)=true
 | .num=>rfl
 | .own=>rfl
 | .bJ _=>rfl
 | .br ps=>by simp[enc,noRef,ai,qk ps]
theorem qk:∀l:List Sh,ai (bR l)=true
 | []=>rfl
 | s::l=>by simp[bR,ai,dv s,qk l]
end
def xC(hc:h[n]?=some ⟨.lst,ps⟩)(hq:CL h q=some qs)(hl:ps.length+qs.length<=4000000):zB (.ref n) [q] ⟨ρ,h⟩=some (.ok .bB,⟨ρ,h.set n ⟨.lst,ps++qs⟩⟩):=by
 show(CL h q).bind _=_;rw[hq,dn];show(mB h (.ref n)).bind _=_;have e:mB h (.ref n)=some (n,⟨.lst,ps⟩):=by
  show(h[n]?).bind _=_;rw[hc];rfl
 rw[e,dn];show(((if ps.length+qs.length<=fq then some (ps++qs)else none).map _).map _)=_
 rw[if_pos (show ps.length+qs.length<=fq from hl)]
 rfl
def aC(hc:h[n]?=some ⟨.lst,ps⟩)(hl:ps.length<4000000):jA (gW xh) (.ref n) [q] ⟨ρ,h⟩=some (.ok .bB,⟨ρ,h.set n ⟨.lst,ps++[q]⟩⟩):=by
 show(mB h (.ref n)).bind _=_;have e:mB h (.ref n)=some (n,⟨.lst,ps⟩):=by
  show(h[n]?).bind _=_;rw[hc];rfl
 rw[e,dn];show(((if ps.length<fq then some (ps++[q])else none).map _).map _)=_
 rw[if_pos (show ps.length<fq from hl)]
 rfl
def yF(h1:Ev fo s (.ref n) s1)(hc:s1.h[n]?=some ⟨.lst,ps⟩)(h2:Ev ts s1 as s2)(h3:w (.ref n) as s2=r):C5 "list" w fo ts s=r:=by
 refine eB h1 (eB (a:=()) ?_ (eB h2 h3));show((cm s1.h (.ref n)).bind _).map _=_;have e:cm s1.h (.ref n)=some (.lst,ps):=by
  show(s1.h[n]?).bind _=_;rw[hc];rfl
 rw[e];rfl
def E3(c:CT):Gx dE:=(gO (C5 "list" zB (rd 1) (au (bnd (au (rd 2) (aX [])) (b8 0 1 (c "leaves"))) (aX []))))
def xJ(c:CT):Gx dE :=
 (dX (dP (toB (op2 Mu (op2 bN (rd 0) (aX (.int 0))) (aX (.str "rec"))))
  (retS (lJ .ao (au (rd 0) (aX []))))
  (aX .nx))
  (dX (c8 (zm (aX [])) (aU 1))
  (dX (zH (jC (op2 bN (rd 0) (aX (.int 1)))) (aU 2) (E3 c))
  (retS (gw Gy (au (rd 1) (aX [])))))))
def Gives(o:Option (Rs PV×List aq))(q:PV):Prop:=∃p h,o=some (.ok p,h)/\kO h p=some q
def Dw(hp:noRef p=true):kO h p=some p:=by
 unfold kO;split
 ·rfl
 ·unfold o8;rw[if_pos hp]
theorem pf(X:PV):∀(ps acc:List Sh) (o:Option PV),(∀s∈ps,Gives (c "leaves" [enc s] []) (.ao (bR (lv s))))->acc.length+(gg ps).length<=4000000 ->
  ∃o',cY (aU 2) (E3 c) (bR ps) ⟨[some X,some (.ref 0),o],[⟨.lst,bR acc⟩]⟩=some (.ok .nx,⟨[some X,some (.ref 0),o'],[⟨.lst,bR (acc++gg ps)⟩]⟩)
 | [],acc,o,_,_=>⟨o,by simp[gg];rfl⟩
 | s::r,acc,o,h,hz=>by
  obtain⟨p,h',h1,h2⟩:=h s aE;simp only[gg,aR]at hz;obtain⟨o',ih⟩:=pf X r (acc++lv s) (some (enc s)) (λs hs=>h s (aF _ hs)) (by grind)
  refine⟨o',?_⟩;rw[cW]at ih;refine fC rfl (dS (yF rfl rfl (cA (clV rfl rfl (by simp[ai,dv]) h1 h2) rfl) (xC rfl rfl (by rw[fB,fB];lia)))) ?_
  rw[<-pe];exact ih
def ki(h:ir s=true):dQ (xJ c) 3 [enc s] []=some (.ok (.ao [enc s]),[]):=by
 cases s with
 | br _=>cases h
 | _=>kernel_rfl
def Dx (h:∀s∈ps,Gives (c "leaves" [enc s] []) (.ao (bR (lv s)))) (hz:(gg ps).length<=4000000):Gives (dQ (xJ c) 3 [enc (.br ps)] []) (.ao (bR (gg ps))):=by
 obtain⟨o',q⟩:=pf (enc (.br ps)) ps [] none h (by simpa using hz)
 refine⟨_,_,jj (sq (iF (s1:=⟨[some (enc (.br ps)),none,none],[]⟩) (bT (by kernel_rfl)) rfl) (sq rfl (sq (fS rfl q) (rS rfl)))),Dw ?_⟩
 simp[noRef,qk]
structure eK (R:Nat->CT):Prop where
 run:∀k,R (k+1) "leaves"=dQ (xJ (R k)) 3
mutual
theorem eK.all{R:Nat->CT}(A:eK R):∀(s:Sh) (k:Nat),dp s<=k->(lv s).length<=4000000->Gives (R (k+1) "leaves" [enc s] []) (.ao (bR (lv s)))
 | .num,k,_,_=>⟨_,_,by rw[A.run,ki rfl],rfl⟩
 | .own,k,_,_=>⟨_,_,by rw[A.run,ki rfl],rfl⟩
 | .bJ n,k,_,_=>⟨_,_,by rw[A.run,ki rfl],rfl⟩
 | .br ps,0,hd,_=>by simp[dp]at hd
 | .br ps,k+1,hd,hz=>by
  simp only[dp]at hd;simp only[lv]at hz;rw[A.run];exact Dx (A.each ps k (by lia) hz) hz
theorem eK.each{R:Nat->CT}(A:eK R):∀ps k,pd ps<=k->(gg ps).length<=4000000->∀s∈ps,Gives (R (k+1) "leaves" [enc s] []) (.ao (bR (lv s)))
 | [],_,_,_,s,hs=>by cases hs
 | p::r,k,hd,hz,s,hs=>by
  simp only[pd]at hd;simp only[gg,aR]at hz;rcases aD.mp hs with e | e
  ·rw[e];exact eK.all A p k (by lia) (by lia)
  ·exact eK.each A r k (by lia) (by lia) s e
end
end L2.U
namespace L2.U
open PySem L2
abbrev Rw:=List Int×Int×Int×Sh
noncomputable def mL(k a:Int)(r:Rw):Rw:=(k::r.1,a+r.2.1,r.2.2)
mutual
def tab:Sh->List Rw
 | .num=>[([],0,1,.num)]
 | .own=>[([],0,1,.own)]
 | .bJ n=>[([],0,1,.bJ n)]
 | .br ps=>([],0,((gg ps).length:Int),.br ps)::tabs 0 0 ps
def tabs:Nat->Int->List Sh->List Rw
 | _,_,[]=>[]
 | k,a,s::r=>(tab s).map (mL k a)++tabs (k+1) (a+((lv s).length:Int)) r
end
def sz(s:Sh):Int:=((lv s).length:Int)
def gX:List Sh->Nat
 | []=>0
 | s::l=>(tab s).length+gX l
def KY(h:ir s=true):tab s=[([],0,1,s)]:=by
 cases s with
 | br _=>cases h
 | _=>rfl
def An(s:Sh):∃R,tab s=(([],0,sz s,s):Rw)::R:=by
 cases s with
 | br ps=>exact⟨tabs 0 0 ps,by simp only[tab,sz,lv]⟩
 | num=>exact⟨[],by simp[tab,sz,lv]⟩
 | own=>exact⟨[],by simp[tab,sz,lv]⟩
 | bJ n=>exact⟨[],by simp[tab,sz,lv]⟩
theorem gh:∀(l:List Sh) (k:Nat) (a:Int),(tabs k a l).length=gX l
 | [],_,_=>rfl
 | s::l,k,a=>by simp[tabs,gX,gh l]
def xK(s:Sh):1<=(tab s).length:=by
 obtain⟨R,e⟩:=An s;rw[e];simp
theorem se:∀l:List Sh,l.length<=gX l
 | []=>ay _
 | s::l=>by
  have:=xK s;have:=se l;simp only[gX,aK]
  lia
mutual
theorem Ao:∀s:Sh,(lv s).length<=(tab s).length
 | .num=>by simp[lv,tab]
 | .own=>by simp[lv,tab]
 | .bJ n=>by simp[lv,tab]
 | .br ps=>by
  have:=xM ps;simp only[lv,tab,aK,gh]
  lia
theorem xM:∀l:List Sh,(gg l).length<=gX l
 | []=>by simp[gg]
 | s::l=>by
  have:=Ao s;have:=xM l;simp only[gg,gX,aR]
  lia
end
mutual
theorem RB:∀s:Sh,dp s<=(tab s).length
 | .num=>by simp[dp]
 | .own=>by simp[dp]
 | .bJ n=>by simp[dp]
 | .br ps=>by
  have:=KZ ps;simp only[dp,tab,aK,gh]
  lia
theorem KZ:∀l:List Sh,pd l<=gX l
 | []=>by simp[pd]
 | s::l=>by
  have:=RB s;have:=KZ l;simp only[pd,gX]
  lia
end
mutual
theorem E4:∀(s:Sh),∀r∈tab s,r.1.length<=dp s
 | .num,r,h=>by simp[tab]at h;subst h;simp
 | .own,r,h=>by simp[tab]at h;subst h;simp
 | .bJ n,r,h=>by simp[tab]at h;subst h;simp
 | .br ps,r,h=>by
  simp only[tab,aD]at h;rcases h with rfl | h
  ·simp
  ·simp only[dp];exact Ap ps 0 0 r h
theorem Ap:∀l k a,∀r∈tabs k a l,r.1.length<=pd l+1
 | [],_,_,r,h=>by simp[tabs]at h
 | s::l,k,a,r,h=>by
  simp only[tabs,bh,aM]at h;simp only[pd];rcases h with⟨r0,h0,rfl⟩ | h
  ·have:=E4 s r0 h0;simp only[mL,aK]
   lia
  ·have:=Ap l _ _ r h
   lia
end
theorem Aq:∀(l:List Sh) (s:Sh),s∈l->(tab s).length<=gX l
 | s::l,t,h=>by
  simp only[gX];rcases aD.mp h with rfl | h
  ·lia
  ·have:=Aq l t h
   lia
def vo(h:s∈ps):(tab s).length<=(tab (.br ps)).length:=by
 have:=Aq ps s h;simp only[tab,aK,gh]
 lia
noncomputable def HZ:Sh->Int->Option (Sh×Int)
 | .br ps,k=>if 0<=k then(ps[k.toNat]?).map λs=>(s,((gg (ps.take k.toNat)).length:Int))else none
 | _,_=>none
def walk:Sh->Int->List Int->Option (Sh×Int)
 | s,a,[]=>some (s,a)
 | s,a,k::p=>(HZ s k).bind λx=>walk x.1 (a+x.2) p
mutual
theorem sg:∀(s:Sh),∀r∈tab s,∀b,walk s b r.1=some (r.2.2.2,b+r.2.1)
 | .num,r,h,b=>by simp[tab]at h;subst h;simp[walk]
 | .own,r,h,b=>by simp[tab]at h;subst h;simp[walk]
 | .bJ n,r,h,b=>by simp[tab]at h;subst h;simp[walk]
 | .br ps,r,h,b=>by
  simp only[tab,aD]at h;rcases h with rfl | h
  ·simp[walk]
  ·exact vp ps [] r (by simpa[gg]using h) b
theorem vp:∀(Bo pre:List Sh),∀r∈tabs pre.length ((gg pre).length:Int) Bo,∀b,walk (.br (pre++Bo)) b r.1=some (r.2.2.2,b+r.2.1)
 | [],pre,r,h,b=>by simp[tabs]at h
 | s::Bo,pre,r,h,b=>by
  simp only[tabs,bh,aM]at h;rcases h with⟨r0,h0,rfl⟩ | h
  ·have:=sg s r0 h0 (b+((gg pre).length:Int));simp only[mL,walk,HZ];simp[this]
   lia
  ·have:=vp Bo (pre++[s]) r (by simpa[sd,gg]using h) b
   simpa using this
end
end L2.U
namespace L2.U
open PySem PySem.Spec PyProof.Rows
noncomputable def si:bz->PV
 | .inl i=>.int i
 | .inr x=>.str x
def dw(ks:List bz):PV:=.ao (ks.map si)
def vq:Nat:=3000000
abbrev eF:=List (List bz×Int)
noncomputable def Dy(ks:List (List bz))(k:List bz):Bool:=ks.any λj=>decide (j=k)
def eM(ag:eF)(c:Int)(f:List bz):eF:=if Dy (ag.map (·.1)) f=true then ag else ag++[(f,c)]
def dc(ag:eF)(c:Int):List (List bz)->eF
 | []=>ag
 | f::r=>dc (eM ag c f) c r
def ox(ag:eF)(c:Int)(f:List bz):(eM ag c f).length<=ag.length+1:=by
 unfold eM;split
 ·lia
 ·grind
theorem oy(c:Int):∀(l:List (List bz)) (ag:eF),(dc ag c l).length<=ag.length+l.length
 | [],_=>ay _
 | g::l,ag=>by
  have h1:=oy c l (eM ag c g);have h2:=ox ag c g;show(dc (eM ag c g) c l).length<=_;rw[aK]
  lia
def toldP(t:List bz×Int):PV:=.ao (t.1.map si++[.int t.2])
def gE(gk:List bz->Option (List (List bz))):Nat->Nat->eF->Option eF
 | 0,_,_=>none
 | n+1,k,ag=>match ag[k]? with
  | none=>some ag
  | some t=>(gk t.1).bind λfs=>if ag.length+fs.length<fq then gE gk n (k+1) (dc ag k fs)else none
theorem oz [DecidableEq α]:∀(l U:List α),l.Nodup->(∀x∈l,x∈U)->l.length<=U.length
 | [],_,_,_=>dI _
 | x::l,U,hn,hs=>by
  rw[gJ]at hn;have hx:=hs x aE;have h1:=oz l (U.erase x) hn.2 λy hy=>(List.mem_erase_of_ne (λz=>hn.1 (by grind))).mpr (hs y (aF _ hy))
  have h2:=List.length_erase_of_mem hx;have h3:=List.length_pos_of_mem hx;rw[aK]
  lia
def sj:Dy ks k=true↔k∈ks:=by
 unfold Dy;simp only[List.any_eq_true,nF];exact⟨(by rintro⟨x,h,e⟩;exact e▸h),λh=>⟨k,h,rfl⟩⟩
theorem fW(c:Int):∀(fs:List (List bz)) (ag:eF),∃more:eF,dc ag c fs=ag++more/\(∀t∈more,t.2=c/\t.1∈fs)
 | [],ag=>⟨[],by rw[dq];rfl,λ_ z=>nomatch z⟩
 | f::fs,ag=>by
  obtain⟨more,h1,h2⟩:=fW c fs (eM ag c f);show ∃m,dc (eM ag c f) c fs=ag++m/\_
  by_cases h:Dy (ag.map (·.1)) f=true
  ·have e:eM ag c f=ag:=by unfold eM;rw[if_pos h]
   rw[e]at h1 ⊢;exact⟨more,h1,λt ht=>⟨(h2 t ht).1,aF _ (h2 t ht).2⟩⟩
  ·have e:eM ag c f=ag++[(f,c)]:=by unfold eM;rw[if_neg h]
   rw[e]at h1 ⊢;refine⟨(f,c)::more,by rw[h1];simp,λt ht=>?_⟩
   rcases aD.mp ht with rfl | ht
   ·grind
   ·grind
theorem sk(c:Int):∀(fs:List (List bz)) (ag:eF),(ag.map (·.1)).Nodup->((dc ag c fs).map (·.1)).Nodup
 | [],_,h=>h
 | f::fs,ag,h=>by
  refine sk c fs (eM ag c f) ?_;unfold eM;split
  ·exact h
  ·rename_i hm;rw[bQ];refine nE.mpr ⟨h,by simp,λa ha b hb z=>?_⟩
   simp at hb;subst z;rw[hb]at ha;exact hm (sj.mpr ha)
theorem oA(c:Int):∀(fs:List (List bz)) (ag:eF),∀f∈fs,f∈(dc ag c fs).map (·.1)
 | [],_,_,h=>nomatch h
 | g::fs,ag,f,h=>by
  rcases aD.mp h with rfl | h
  ·obtain⟨more,h1,_⟩:=fW c fs (eM ag c f);show f∈(dc (eM ag c f) c fs).map (·.1);rw[h1,bQ];refine dR _ ?_;unfold eM;split
   ·rename_i hm;exact sj.mp hm
   ·grind
  ·exact oA c fs (eM ag c g) f h
section
variable (gk:List bz->Option (List (List bz))) (dW:List (List bz))
def WU(ag:eF):Prop:=∀(i:Nat) (f:List bz) (c:Int),ag[i]?=some (f,c)->(c = -1/\f∈dW)\/∃(j:Nat) (g:List bz) (d:Int) (fs:List (List bz)),j<i/\c=(j:Int)/\ag[j]?=some (g,d)/\gk g=some fs/\f∈fs
def He(ag:eF)(k:Nat):Prop:=∀(j:Nat) (g:List bz) (d:Int),j<k->ag[j]?=some (g,d)->∃fs,gk g=some fs/\∀f∈fs,f∈ag.map (·.1)
def Hf:WU gk dW (dc [] (-1) dW):=by
 obtain⟨more,h1,h2⟩:=fW (-1) dW [];rw[eW]at h1;intro i f c e;rw[h1]at e;obtain⟨h3,h4⟩:=h2 _ (dm e);exact .inl ⟨h3,h4⟩
def K1{k:Nat}(h:WU gk dW ag)(hk:ag[k]?=some (g,d))(ho:gk g=some fs):WU gk dW (dc ag (k:Int) fs):=by
 obtain⟨more,h1,h2⟩:=fW k fs ag;have fx:=(bM.mp hk).1;have old:∀{j:Nat} {x:List bz×Int},ag[j]?=some x->(ag++more)[j]?=some x:=λ{j x} e=>by
  rw[fJ (bM.mp e).1];exact e
 intro i f c e;rw[h1]at e ⊢;by_cases hi:i<ag.length
 ·rw[fJ hi]at e;rcases h i f c e with z | ⟨j,g',d',Xh,z1,z2,z3,z4,z5⟩
  ·exact .inl z
  ·exact .inr ⟨j,g',d',Xh,z1,z2,old z3,z4,z5⟩
 ·rw[iU (by lia)]at e
  obtain⟨h3,h4⟩:=h2 _ (dm e);exact .inr ⟨k,g,d,fs,by lia,h3,old hk,ho,h4⟩
def Hg(h:He gk ag k)(hk:ag[k]?=some (g,d))(ho:gk g=some fs):He gk (dc ag (k:Int) fs) (k+1):=by
 obtain⟨more,h1,h2⟩:=fW k fs ag;have fx:=(bM.mp hk).1;intro j g' d' hj e;rw[h1]at e;rw[fJ (bY ‹_› ‹_›)]at e;by_cases hjk:j=k
 ·subst hjk;rw[hk]at e;cases e;exact⟨fs,ho,oA j fs ag⟩
 ·obtain⟨Xh,z1,z2⟩:=h j g' d' (by lia) e
  refine⟨Xh,z1,λf hf=>?_⟩
  rw[h1,bQ];exact dR _ (z2 f hf)
theorem ph(U:List (List bz))(B:Nat)(hB:U.length+B<fq)(hU:∀g∈U,∃fs,gk g=some fs/\(∀f∈fs,f∈U)/\fs.length<=B):∀(n k:Nat) (ag:eF),U.length<n+k->k<=ag.length->(ag.map (·.1)).Nodup->(∀t∈ag,t.1∈U)->WU gk dW ag->He gk ag k ->
  ∃res,gE gk n k ag=some res/\(res.map (·.1)).Nodup/\(∀t∈res,t.1∈U)/\WU gk dW res/\He gk res res.length/\∃more,res=ag++more
 | n,k,ag,hn,hk,nd,sub,why,done=>by
  have eG:ag.length<=U.length:=by
   have:=oz (ag.map (·.1)) U nd λx hx=>by
    grind
   rwa [ak]at this
  cases n with
  | zero=>lia
  | succ n =>
   cases ht:ag[k]? with
   | none =>
    have hkl:ag.length<=k:=by grind
    refine⟨ag,?_,nd,sub,why,?_,[],by simp⟩
    ·show(match ag[k]? with | none=>some ag | some t=>_)=_
     rw[ht]
    ·grind
   | some t =>
    obtain⟨g,d⟩:=t;have hg:=sub (g,d) (dm ht);obtain⟨fs,h1,h2,h3⟩:=hU g hg;obtain⟨more,m1,m2⟩:=fW k fs ag;have fx:=(bM.mp ht).1;obtain⟨res,r1,r2,r3,r4,r5,RC,r6⟩:=ph U B hB hU n (k+1) (dc ag k fs) (by lia) (by grind) (sk _ _ _ nd) (λt ht'=>by
     grind) (K1 gk dW why ht h1) (Hg gk done ht h1)
    refine⟨res,?_,r2,r3,r4,r5,more++RC,by grind⟩
    show(match ag[k]? with | none=>some ag | some t=>(gk t.1).bind λfs=>if ag.length+fs.length<fq then gE gk n (k+1) (dc ag k fs)else none)=_
    rw[ht];show((gk g).bind λfs=>if ag.length+fs.length<fq then gE gk n (k+1) (dc ag k fs)else none)=_
    rw[h1,dn,if_pos (by lia)]
    exact r1
def Dz(U:List (List bz))(B:Nat)(hB:U.length+B<fq)(hn:U.length<vq)(hU:∀g∈U,∃fs,gk g=some fs/\(∀f∈fs,f∈U)/\fs.length<=B)(hf:∀f∈dW,f∈U) :
  ∃res,gE gk vq 0 (dc [] (-1) dW)=some res/\(res.map (·.1)).Nodup/\(∀t∈res,t.1∈U)/\WU gk dW res/\He gk res res.length/\∀f∈dW,f∈res.map (·.1):=by
 obtain⟨more,h1,h2⟩:=fW (-1) dW [];obtain⟨res,r1,r2,r3,r4,r5,RC,r6⟩:=ph gk dW U B hB hU vq 0 (dc [] (-1) dW) (Nat.le_add_right_of_le ‹_›) (dI _) (sk _ _ _ lz) (λt ht=>by
  grind) (Hf gk dW) (λj g d hj=>absurd hj (Nat.not_lt_zero _))
 exact⟨res,r1,r2,r3,r4,r5,λf hff=>by rw[r6,bQ];exact dR _ (oA _ _ _ f hff)⟩
end
def Vx(k:bz):zy (si k)=some k:=by cases k<;>rfl
theorem K2:∀ks:List bz,cJ zy (ks.map si)=some ks
 | []=>rfl
 | k::ks=>by simp only[aI,cJ,Vx,K2 ks,dn,gI]
def ql(h:ks.length<1000):gA true (dw ks)=some ks:=by
 show(if(ks.map si).length<1000 then cJ zy (ks.map si)else none)=_
 rw[ak,if_pos h,K2]
def K3(k:bz):noRef (si k)=true:=by cases k<;>rfl
theorem E5:∀ks:List bz,ai (ks.map si)=true
 | []=>rfl
 | k::ks=>by simp[ai,K3,E5 ks]
def OY(ks:List bz):noRef (dw ks)=true:=by simp[dw,noRef,E5]
def hS(hd:List aq)(ag:eF):List aq:=hd++[⟨.lst,ag.map toldP⟩,⟨.dU true (ag.map (·.1)),ag.map λ_=>.bl true⟩]
section
variable {hd:List aq} {ag:eF}
def ZS:(hS hd ag)[hd.length]?=some ⟨.lst,ag.map toldP⟩:=by simp[hS]
def ZT:(hS hd ag)[hd.length+1]?=some ⟨.dU true (ag.map (·.1)),ag.map λ_=>.bl true⟩:=by simp[hS]
def RD(h:j<hd.length):(hS hd ag)[j]?=hd[j]?:=by unfold hS;rw[fJ h]
def ZU(a b c:aq):(hd++[a,b]).set (hd.length+1) c=hd++[a,c]:=by
 simp_all
def ZV(a b c:aq):(hd++[a,b]).set hd.length c=hd++[c,b]:=by
 grind
end
def mM:Gx dE :=
 (dP (toB (op2 (oY true) (rd 4) (rd 1)))
  (dX (Oq (aX (.bl true)) (rd 1) (rd 4))
  (gO (C5 "list" (jA (gW xh)) (rd 0) (au (op2 eE (rd 4) (lJ .ao (au (rd 3) (aX [])))) (aX [])))))
  (aX .nx))
def vt(hf:f.length<1000)(hl:ag.length<4000000) :
  Ev mM ⟨[some (.ref hd.length),some (.ref (hd.length+1)),x2,some (.int gF),some (dw f)],hS hd ag⟩ .nx ⟨[some (.ref hd.length),some (.ref (hd.length+1)),x2,some (.int gF),some (dw f)],hS hd (eM ag gF f)⟩:=by
 have dr:cm (hS hd ag) (.ref (hd.length+1))=some (.dU true (ag.map (·.1)),ag.map λ_=>.bl true):=by
  show((hS hd ag)[hd.length+1]?).bind _=_;rw[ZT];rfl
 have t:oY true (hS hd ag) (dw f) (.ref (hd.length+1))=some (.bl (!Dy (ag.map (·.1)) f)):=by
  unfold oY;rw[dr];show(gA true (dw f)).map _=_;rw[ql hf];rfl
 unfold mM eM;cases hm:Dy (ag.map (·.1)) f with
 | true =>
  rw[hm]at t;rw[if_pos rfl];exact iF (bT (b2 rfl rfl t)) rfl
 | false =>
  rw[hm]at t;rw[if_neg c9];refine iT (bT (b2 rfl rfl t)) (sq (s1:=⟨[some (.ref hd.length),some (.ref (hd.length+1)),x2,some (.int gF),some (dw f)],hd++[⟨.lst,ag.map toldP⟩,⟨.dU true (ag.map (·.1)++[f]),(ag.map λ_=>PV.bl true)++[.bl true]⟩]⟩) ?_ ?_)
  ·refine eB rfl (eB rfl (eB rfl ?_));show(zP (.ref (hd.length+1)) (dw f) (.bl true) _).map _=_;have c:mB (hS hd ag) (.ref (hd.length+1))=some (hd.length+1,⟨.dU true (ag.map (·.1)),ag.map λ_=>.bl true⟩):=by
    show((hS hd ag)[hd.length+1]?).bind _=_;rw[ZT];rfl
   unfold zP;rw[c];show((gA true (dw f)).bind _).map _=_;rw[ql hf];show Option.map _ (if(ag.map (λt:List bz×Int=>t.1)).length<fq then _ else _)=_
   rw[if_pos (show(ag.map (·.1)).length<fq by rw[ak];have:fq=4000000:=rfl;lia)]
   unfold lL;rw[show j6 f (ag.map (·.1))=false from hm,if_neg c9]
   show some (Rs.ok dE.nx,cx.mk _ ((hd++_).set (hd.length+1) _))=_;rw[ZU]
  ·have ad:∀h,eE h (dw f) (.ao [.int gF])=some (toldP (f,gF)):=λh=>by
    have e:eE h (dw f) (.ao [.int gF])=sizeOk ((f.map si).length+1) (toldP (f,gF)):=rfl;rw[e,ak];exact if_pos (show f.length+1<=fq by have:fq=4000000:=rfl;lia)
   have hT:(hd++[⟨.lst,ag.map toldP⟩,⟨.dU true (ag.map (·.1)++[f]),(ag.map λ_=>PV.bl true)++[.bl true]⟩]:List aq)[hd.length]?=some ⟨.lst,ag.map toldP⟩:=by simp
   refine dS (p:=.bB) (yF rfl hT (cA (b2 rfl (tU (cA rfl rfl) (by simp)) (ad _)) rfl) ((aC hT (by rw[ak];lia)).trans ?_))
   rw[ZV];simp[hS]
theorem vv:∀(fs:List (List bz)) (ag:eF) (o:Option PV),(∀f∈fs,f.length<1000)->ag.length+fs.length<4000000 ->
  ∃o',cY (aU 4) mM (fs.map dw) ⟨[some (.ref hd.length),some (.ref (hd.length+1)),x2,some (.int gF),o],hS hd ag⟩=some (.ok .nx,⟨[some (.ref hd.length),some (.ref (hd.length+1)),x2,some (.int gF),o'],hS hd (dc ag gF fs)⟩)
 | [],ag,o,_,_=>⟨o,rfl⟩
 | f::fs,ag,o,hf,hl=>by
  simp only[aK]at hl;have h2:=ox ag gF f;obtain⟨o',ih⟩:=vv fs (eM ag gF f) (some (dw f)) (λg hg=>hf g (aF _ hg)) (by lia)
  exact⟨o',fC rfl (vt (hf f aE) (by lia)) ih⟩
def Ar:Gx dE:=zH (jC (rd 2)) (aU 4) mM
def ZW(c:CT)(ω:PV->Gx PV)(n:Nat):Gx dE :=
 (dX (gO (bnd (au (rd 2) (au (rd 3) (au (Kb 1 n ω (cutE (op2 bN (rd 2) (rd 4)) (aX none) (rF (w9 (aX (.int 1)))))) (au (rd 4) (aX []))))) (b8 0 4 (c "tell_new"))))
  (c8 (op2 OR (rd 4) (aX (.int 1))) (aU 4)))
def Vy(c:CT)(ω:PV->Gx PV)(n:Nat):Gx dE :=
 (dX (c8 (zm (aX [])) (aU 2))
  (dX (c8 (J7 true) (aU 3))
  (dX (gO (bnd (au (rd 2) (au (rd 3) (au (rd 0) (au (w9 (aX (.int 1))) (aX []))))) (b8 0 4 (c "tell_new"))))
  (dX (c8 (aX (.int 0)) (aU 4))
  (dX (jg (toB (op2 Jw (rd 4) (gw gv (au (rd 2) (aX []))))) (ZW c ω n) ZQ)
  (retS (rd 2)))))))
def As(hf:∀f∈fs,f.length<1000)(hl:ag.length+fs.length<4000000) :
  dQ Ar 5 [.ref hd.length,.ref (hd.length+1),.lst (fs.map dw),.int gF] (hS hd ag)=some (.ok .bB,hS hd (dc ag gF fs)):=by
 obtain⟨o',e⟩:=vv fs ag none hf hl;exact Vw (fS (sV rfl rfl) e)
theorem su{all:List (List bz)}(hj:hd[j]?=some ⟨.lst,all.map dw⟩):∀(fs:List (List bz)) (i jh:Nat) (ag:eF) (o:Option PV),all.drop i=fs->(∀f∈fs,f.length<1000)->ag.length+fs.length<4000000->fs.length<jh ->
  ∃o',zG (aU 4) mM j jh i ⟨[some (.ref hd.length),some (.ref (hd.length+1)),x2,some (.int gF),o],hS hd ag⟩=some (.ok .nx,⟨[some (.ref hd.length),some (.ref (hd.length+1)),x2,some (.int gF),o'],hS hd (dc ag gF fs)⟩)
 | fs,i,0,ag,o,_,_,_,h=>by lia
 | fs,i,jh+1,ag,o,wF,hf,hl,hfu=>by
  have fx:=(bM.mp hj).1;have nx:JU j (hS hd ag) i=some ((all.map dw)[i]?):=by
   unfold JU;have:cm (hS hd ag) (.ref j)=some (.lst,all.map dw):=by
    show((hS hd ag)[j]?).bind _=_;rw[RD fx,hj];rfl
   rw[this]
  have st:zG (aU 4) mM j (jh+1) i ⟨[some (.ref hd.length),some (.ref (hd.length+1)),x2,some (.int gF),o],hS hd ag⟩=(match JU j (hS hd ag) i with
   | some (some p)=>bnd (stp (aU 4 p)) (λ_=>bnd mM (u6 (zG (aU 4) mM j jh (i+1)))) ⟨[some (.ref hd.length),some (.ref (hd.length+1)),x2,some (.int gF),o],hS hd ag⟩
   | some none=>some (.ok .nx,⟨[some (.ref hd.length),some (.ref (hd.length+1)),x2,some (.int gF),o],hS hd ag⟩)
   | none=>none):=rfl
  rw[st,nx,bH];cases fs with
  | nil =>
   have:=List.drop_eq_nil_iff.mp wF;rw[jP this];exact⟨o,rfl⟩
  | cons f fs =>
   have hi:i<all.length:=by
    rcases Nat.lt_or_ge i all.length with h | h
    ·exact h
    ·rw[List.drop_eq_nil_of_le h]at wF;cases wF
   rw[qx hi]at wF;injection wF with e1 e2
   simp only[aK]at hl hfu;have h2:=ox ag gF f;obtain⟨o',ih⟩:=su hj fs (i+1) jh (eM ag gF f) (some (dw f)) e2 (λg hg=>hf g (aF _ hg)) (by lia) (by lia)
   refine⟨o',?_⟩;rw[bW hi,e1];exact eB rfl (eB (vt (hf f aE) (by lia)) ih)
def Hh(hj:hd[j]?=some ⟨.lst,fs.map dw⟩)(hf:∀f∈fs,f.length<1000)(hl:ag.length+fs.length<4000000) :
  dQ Ar 5 [.ref hd.length,.ref (hd.length+1),.ref j,.int gF] (hS hd ag)=some (.ok .bB,hS hd (dc ag gF fs)):=by
 obtain⟨o',e⟩:=su hj fs 0 fq ag none rfl hf hl (by have:fq=4000000:=rfl;lia)
 have fx:=(bM.mp hj).1;refine Vw (eB (eB rfl ?_) (show YS (aU 4) mM (yD.cl j) _=_ from e))
 have:cm (hS hd ag) (.ref j)=some (.lst,fs.map dw):=by
  show((hS hd ag)[j]?).bind _=_;rw[RD fx,hj];rfl
 unfold JV;show Option.map _ (match cm (hS hd ag) (.ref j)with | some (.lst,_)=>some (yD.cl j) | _=>none)=_
 rw[this];rfl
def Vz(e:cm h (.ref n)=some (.lst,ps)):bN h (.ref n) (.int i)=L2.jJ ps i:=by
 unfold bN;simp only[e];rfl
def K4(ps:List PV)(p:PV):jy (ps++[p]) none (some (-1))=ps:=by
 unfold jy;have e:HT.eH (ps++[p]).length (ps++[p]).length (some (-1))=ps.length:=by
  simp[HT.eH]
  lia
 rw[HT.y8,e,List.drop_zero,Nat.sub_zero];simp
def cE'(h1:Ev fa s p s1)(h2:Ev fl s1 l s2)(h3:Ev fh s2 h s3)(h4:Ez s3.h l h p=some q):Ev (cutE fa fl fh) s q s3:=eB h1 (eB h2 (eB h3 (by show(Ez s3.h l h p).map _=_;rw[h4];rfl)))
section
variable {c:CT} {hd:List aq} {gk:List bz->Option (List (List bz))} {ω:PV->Gx PV} {n:Nat} (hc:c "tell_new"=dQ Ar 5)
  (hω:∀g fs,gk g=some fs->(∀f∈fs,f.length<1000)/\∀ag ρ,ω (dw g) ⟨ρ,hS hd ag⟩=some (.ok (.lst (fs.map dw)),⟨ρ,hS hd ag⟩))
include hc hω
theorem Au(p:Option PV):∀(N k jh:Nat) (ag res:eF),gE gk N k ag=some res->N<=jh->ag.length<4000000 ->
  ∃k',jg (toB (op2 Jw (rd 4) (gw gv (au (rd 2) (aX []))))) (ZW c ω n) jh ⟨[p,some (.ref n),some (.ref hd.length),some (.ref (hd.length+1)),some (.int (k:Int))],hS hd ag⟩=some (.ok .nx,⟨[p,some (.ref n),some (.ref hd.length),some (.ref (hd.length+1)),k'],hS hd res⟩)
 | 0,_,_,_,_,h,_,_=>by cases h
 | N+1,k,jh,ag,res,h,hf,hl=>by
  obtain⟨jh,rfl⟩:∃f,jh=f+1:=⟨jh-1,by lia⟩
  have dT:cm (hS hd ag) (.ref hd.length)=some (.lst,ag.map toldP):=by
   show((hS hd ag)[hd.length]?).bind _=_;rw[ZS];rfl
  have t:Ek (toB (op2 Jw (rd 4) (gw gv (au (rd 2) (aX []))))) ⟨[p,some (.ref n),some (.ref hd.length),some (.ref (hd.length+1)),some (.int k)],hS hd ag⟩ (decide (k<(ag.length:Int))):=bT (b2 rfl (bV (cA rfl rfl) (by
   have e:YC (hS hd ag) (.ref hd.length)=some ag.length:=by
    unfold YC;rw[dT];show some (ag.map toldP).length=_;rw[ak]
   show Option.map _ (Option.bind (YC (hS hd ag) (.ref hd.length)) _)=_;rw[e];rfl)) rfl)
  have h:(match ag[k]? with | none=>some ag | some t=>(gk t.1).bind λfs=>if ag.length+fs.length<fq then gE gk N (k+1) (dc ag k fs)else none)=some res:=h
  cases hk:ag[k]? with
  | none =>
   rw[hk]at h;cases h;have hkl:=jL.mp hk;rw[lx (by lia)]at t
   exact⟨_,eB t rfl⟩
  | some tt =>
   obtain⟨g,d⟩:=tt;rw[hk]at h;obtain⟨fs,h1,h⟩:=aY h;obtain⟨h2,h⟩:=b6 h;have h2:ag.length+fs.length<4000000:=h2;obtain⟨hs,hw⟩:=hω g fs h1;have fx:=(bM.mp hk).1;have tl:=oy k fs ag;obtain⟨k',ih⟩:=Au p N (k+1) jh (dc ag k fs) res h (by lia) (nC ‹_› ‹_›)
   refine⟨k',?_⟩;rw[gp (by lia)]at t
   have ct:Ez (hS hd ag) none (some (-1)) (toldP (g,d))=some (dw g):=by
    show some (PV.ao (jy (g.map si++[.int d]) none (some (-1))))=_;rw[K4];rfl
   refine eB t ?_;refine eB (sq (dS (clG (cA rfl (cA rfl (cA (eB rfl (eB (show Option.map _ (if n=n then some ()else none)=_ by rw[if_pos rfl];rfl) (eB (cE' (b2 rfl rfl (by
    rw[Vz dT];exact atI_nat (by grind))) rfl rfl ct) (hw ag _)))) (cA rfl rfl)))) rfl (by
    have:(hS hd ag).isEmpty=false:=by simp[hS]
    rw[this];rfl) (by rw[hc];exact As hs h2))) (aS (b2 rfl rfl rfl) rfl)) ih
def OZ(hp:p=.lst (fk.map dw)\/∃j,p=.ref j/\hd[j]?=some ⟨.lst,fk.map dw⟩)(hk:∀f∈fk,f.length<1000)(hl:fk.length<4000000)(hs:gE gk vq 0 (dc [] (-1) fk)=some res) :
  dQ (Vy c ω n) 5 [p,.ref n] hd=some (.ok (.ref hd.length),hS hd res):=by
 have tl:=oy (-1) fk [];simp only[wj,gr]at tl;obtain⟨k',e⟩:=Au hc hω (some p) vq 0 ZQ (dc [] (-1) fk) res hs (by decide) (nC ‹_› ‹_›)
 have h0:hS hd []=(hd++[⟨.lst,[]⟩])++[⟨.dU true [],[]⟩]:=by simp[hS]
 have a1:Ev (c8 (zm (aX [])) (aU 2)) ⟨[some p,some (.ref n),none,none,none],hd⟩ .nx ⟨[some p,some (.ref n),some (.ref hd.length),none,none],hd++[⟨.lst,[]⟩]⟩:=rfl;have run:c "tell_new" [.ref hd.length,.ref (hd.length+1),p,.int (-1)] (hS hd [])=some (.ok .bB,hS hd (dc [] (-1) fk)):=by
  rw[hc];rcases hp with rfl | ⟨j,rfl,hj⟩
  ·exact As hk (by grind)
  ·exact Hh hj hk (by grind)
 have a3:Ev (gO (bnd (au (rd 2) (au (rd 3) (au (rd 0) (au (w9 (aX (.int 1))) (aX []))))) (b8 0 4 (c "tell_new")))) ⟨[some p,some (.ref n),some (.ref hd.length),some (.ref (hd.length+1)),none],hS hd []⟩ .nx ⟨[some p,some (.ref n),some (.ref hd.length),some (.ref (hd.length+1)),none],hS hd (dc [] (-1) fk)⟩ :=
  dS (clG (s1:=⟨[some p,some (.ref n),some (.ref hd.length),some (.ref (hd.length+1)),none],hS hd []⟩) (cA rfl (cA rfl (cA rfl (cA rfl rfl)))) rfl (by
   have:(hS hd []).isEmpty=false:=by simp[hS]
   rw[this];rfl) run)
 exact jj (sq a1 (sq (by
  rw[h0,<-show(hd++[(⟨.lst,[]⟩:aq)]).length=hd.length+1 by simp]
  rfl) (sq a3 (sq rfl (sq e (rS rfl))))))
end
end L2.U
namespace bU
open PySem L2 L2.U
abbrev sv:Stmt:=top 16
abbrev ZX:Stmt:=top 83
abbrev kI (n : Int) : Gx PV := aX (.int n)
abbrev kS (s : Str) : Gx PV := aX (.str s)
abbrev Q2 := op2 bN (rd 1) (kI 1)
abbrev Q3 := c6 (aU 2) (c6 (aU 3) mn)
abbrev Q4 := lJ .ao (au (kS "lent") (au (kS "sole") (aX [])))
abbrev Q0 := dP (toB (op2 gT (op2 bN (rd 1) (kI 0)) (kS "give"))) (dP (toB (op2 Mu Q2 (kS ""))) (toB (op2 (oY false) (op2 bN (op2 bN (rd 0) Q2) (kI 0)) Q4)) (aX false)) (aX false)
abbrev Q5 := au (rd 1) (aX [])
abbrev Q6 := dP Q0 (c8 (lJ .lst (au (lJ .ao (au Q2 (au (aX (.bl true)) (au (lJ .ao (aX [])) (au (aX (.bB)) (aX [])))))) (aX []))) (aU 2)) (aX .nx)
abbrev Q7 := c6 (aU 4) (c6 (aU 5) mn)
abbrev Q8 := gw gv (au (rd 2) (aX []))
abbrev Q9 := dP (toB (op2 gT (rd 2) (op2 bN (rd 4) (kI 1)))) (dP (gf (rd 3)) (aX true) (toB (op2 gT (rd 5) (kS "lend")))) (aX false)
abbrev Qa := c8 (rd 2) (gC 6 (c6 (aU 3) (c6 (aU 4) (c6 (aU 5) (c6 (aU 6) (c6 (aU 7) (c6 (aU 8) mn)))))))
abbrev Qb := orG (rd 6) (lJ .lst (au (aX (.ao [(.str "rest"),(.str ""),(.bl false),(.int 0),(.int 0),(.str "")])) (aX [])))
abbrev Qc := gC 2 (c6 (aU 1) (c6 (aU 2) mn))
abbrev Qd := au (rd 2) (au (op2 bN (rd 1) (op2 bN (rd 0) (kI 0))) (au (rd 0) (aX [])))
abbrev Qe := au (rd 3) (aX [])
abbrev Qf := dP (toB (op2 gT (op2 bN (rd 2) (kI 0)) (kS "strip"))) (gf (rd 3)) (aX false)
abbrev Qg := gC 3 (c6 (aU 1) Q3)
abbrev Qh := toB (op2 (oY false) (op2 bN (op2 bN (rd 2) (rd 1)) (kI 0)) Q4)
abbrev Q1 := dP (toB (op2 gT (op2 bN (rd 1) (kI 0)) (kS "call"))) (c8 (da false [none,none,some 0] (jC (op2 bN (rd 1) (kI 3))) (jB (aU 1) Qh (lJ .ao (au (rd 1) (au (aX (.bl true)) (au (lJ .ao (aX [])) (au (aX (.bB)) (aX [])))))))) (aU 2)) (aX .nx)
abbrev Qi := op2 bN (rd 5) (kI 0)
abbrev Qj := gC 3 (c6 (aU 4) (c6 (aU 5) (c6 (aU 6) mn)))
abbrev Qk := dP (toB (op2 gT (rd 2) (rd 4))) (gf (rd 3)) (aX false)
abbrev Ql := zm (aX [])
abbrev Qm := toB (op2 gT Q2 (kS ""))
abbrev Qn := gC 2 (c6 (aU 12) (c6 (aU 13) mn))
abbrev Qo := au (rd 0) Q5
abbrev Qp := gC 2 (c6 (aU 3) (c6 (aU 4) mn))
abbrev Qq := op2 eE (rd 4) (kI 1)
abbrev Qr := toB (op2 (oY false) (op2 bN Q2 (kI 0)) Q4)
abbrev Qs := toB (op2 gT (op2 bN (rd 3) (kI 0)) (rd 1))
abbrev Qu := au (rd 5) (aX [])
abbrev Qv := op2 bN (rd 0) (rd 1)
abbrev Qw := op2 bN (rd 2) (kI 1)
abbrev Qx := au (rd 6) (aX [])
abbrev Qy := toB (op2 gT (gw gv Q5) (kI 4))
abbrev Qz := jC (rd 3)
abbrev QA := gw gv (au (rd 7) (aX []))
abbrev QB := au (rd 0) (au Q2 (aX []))
def VA:List (Str×Nat):=txt.defs.map λd=>(d.1,(params d.2).length)
abbrev Rn(x:Str)(F:CT->Gx dE)(n:Nat):Prop:=∀k,run txt (k+1) x=dQ (F (run txt k)) n
open Lean Meta in
dsimproc_decl pqF (Str.mk _):=λe=>do
 let .app _ (.app _ l):=e | return .continue
 let some l <-getListLit? l | return .continue
 return .done (mkApp (mkConst ``Str.ofString) (toExpr (String.ofList (l.toList.map λx=>Char.ofNat (x.nat?.getD 0)))))
open Lean in
dsimproc_decl pqI (Int.ofNat _):=λe=>do
 let .app _ n:=e | return .continue
 let some n:=n.nat? | return .continue
 return .done (toExpr (n:Int))
def fI(x:Str)(i n k:Nat){f:CT->Gx dE}(h:∀k,run txt (k+1) x=dQ (Rz txt x (top i) (run txt k)) n:=by intro _;kernel_rfl)(e:∀c,Rz txt x (top i) c=f c:=by intro c;conv=>(lhs;reduce;simp only[pqF,pqI])):run txt (k+1) x=dQ (f (run txt k)) n:=by rw[h,e]
noncomputable def lbP(s:List Stmt):List Nat->List Stmt
 | []=>s
 | i::r=>lbP (match s[i]? with | some (.For _ _ b _ _) | some (.If _ b _ _)=>b | _=>[]) r
def ni(x:Str)(i:Nat)(p:List Nat)(c:CT):Gx dE:=kf Dt (Vo txt x (top i) (Vn txt) (WS txt c) (Vp txt x c) none c) (lbP (dh (top i)) p)
abbrev lT(a:Gx dE){f:Gx dE}(_:a=f:=by conv=>(lhs;reduce;simp only[pqF,pqI])):Gx dE:=f
section
seal dX UK op2 bN rd bnd au aX b8 da jC lM jB aU gO C5 zB dP toB Mu retS lJ c8 zm zH gw Gy cB zj chain leO Jw gv OR GB cutE rF oY gT eE gC c6 mn gf J7 w9 jg Oq jA gW xh Ko zQ J8 orG CY rO GO Kc lrg TQ UX Uh YA GA mkP WS UJ uj xj Yx geO fO uh Gz hZ NR N4 JG TR EZ Kb dQ WT Oi J6 OJ OK
def DA(k:Nat):=fI "leaves" 5 3 k
def sx(k:Nat):=fI "check_part" 6 2 k
noncomputable def K5(c:CT):=lT (ni "part" 7 [1] c)
def K6(k:Nat):=fI "part" 7 4 k
noncomputable def Hi(c:CT):=lT (ni "first" 8 [2] c)
def Hj(k:Nat):=fI "first" 8 5 k
def ux(k:Nat):=fI "is_copied" 9 1 k
noncomputable def Av(c:CT):=lT (ni "kind_of" 12 [0] c)
def Aw(k:Nat):=fI "kind_of" 12 4 k
def uy(k:Nat):=fI "is_holder" 13 1 k
def xN(k:Nat):=fI "shape_of" 14 1 k
def xO(k:Nat):=fI "tell_new" 17 5 k
noncomputable def pj(c:CT):=lT (Rz txt "row_nexts" (top 29) c)
theorem uz:Rn "row_nexts" pj 3:=λ_=>by kernel_rfl
noncomputable def sy(c:CT):Gx dE :=
 (dX (c8 (zQ VA c (J8 (λk=>(List.lookup k jd).map .fn) Qi) (au (rd 2) Qu)) (aU 6))
  (gO (C5 "list" zB (rd 3) (au (da false [none,none,some 4] (jC Qb) (lM (aU 1) (op2 eE (lJ .ao (au (rd 2) (aX []))) (rd 1)))) (aX [])))))
noncomputable def VB(c:CT):Gx dE :=
 (dX (c8 Qv (aU 2))
  (dX (c8 Ql (aU 3))
  (dX (zH (CY (rO (op2 bN (rd 2) (kI 4)))) (gC 2 Q7) (sy c))
  (retS (rd 3)))))
theorem K8:Rn "acts" VB 7:=λ_=>by kernel_rfl
noncomputable def vw(c:CT):=lT (ni "nexts" 31 [2] c)
noncomputable def oC(c:CT):=lT (ni "nexts" 31 [4] c)
def Hk(k:Nat):=fI "nexts" 31 7 k
def Ax(k:Nat):=fI "touched" 32 1 k
def sE(k:Nat):=fI "is_lending" 33 1 k
def Hl(k:Nat):=fI "touch" 34 6 k
def pW(k:Nat):=fI "touch_whole" 35 4 k
def Ay(k:Nat):=fI "at_acts" 36 2 k
def oE(k:Nat):=fI "operand_acts" 37 2 k
noncomputable def kX(c:CT):=lT (Rz txt "target_acts" (top 38) c)
theorem pX:Rn "target_acts" kX 2:=λ_=>by kernel_rfl
def xP(k:Nat):=fI "put_acts" 39 2 k
def xQ(k:Nat):=fI "set_acts" 40 2 k
def uA(k:Nat):=fI "copy_acts" 41 2 k
def uB(k:Nat):=fI "move_acts" 42 2 k
def uC(k:Nat):=fI "drop_acts" 43 2 k
def uD(k:Nat):=fI "lend_acts" 44 2 k
def uE(k:Nat):=fI "call_acts" 45 3 k
def Az(k:Nat):=fI "arg_act" 46 4 k
def uF(k:Nat):=fI "owner_act" 47 2 k
def AA(k:Nat):=fI "if_acts" 48 2 k
def AB(k:Nat):=fI "go_acts" 49 2 k
def xT(k:Nat):=fI "say_acts" 50 2 k
def kY(k:Nat):=fI "give_acts" 51 2 k
noncomputable def vx(c:CT):=lT (ni "needs" 54 [3] c)
noncomputable def O0(c:CT):Gx dE :=
 (dX (c8 (bnd Qo (b8 0 2 (c "acts"))) (aU 6))
  (dX (c8 (bnd (au (bnd Qo (b8 0 2 (c "nexts"))) (aX [])) (b8 0 1 (c "acts_ahead"))) (aU 5))
  (dX (c8 Ql (aU 2))
  (dX (zH (CY (rO (rd 6))) Qp (vx c))
  (retS (Kc (λω n=>dQ (WT txt sv c ω n) 5) (rd 2) (bnd Qd (b8 0 3 (c "needed_ahead"))) [some 5,some 6]))))))
theorem Hm:Rn "needs" O0 7:=λ_=>by kernel_rfl
noncomputable def kj(c:CT):=lT (ni "acts_ahead" 55 [1,0] c)
noncomputable def sF(c:CT):=lT (ni "acts_ahead" 55 [1] c)
def sH(k:Nat):=fI "acts_ahead" 55 5 k
def uG(k:Nat):=fI "needed_by" 56 2 k
noncomputable def DB(c:CT):=lT (ni "handed" 57 [1] c)
def DC(k:Nat):=fI "handed" 57 4 k
def oF(k:Nat):=fI "needed_ahead" 58 3 k
def xU(k:Nat):=fI "_law_cell_at" 60 2 k
def DD(k:Nat):=fI "_law_mixed" 61 4 k
noncomputable def sJ(c:CT):=lT (ni "_law_names" 62 [5,1] c)
noncomputable def sL(c:CT):=lT (ni "_law_names" 62 [5] c)
def DE(k:Nat):=fI "_law_names" 62 10 k
def DF(k:Nat):=fI "_law_shape" 63 4 k
noncomputable def pw(c:CT):=lT (ni "_law_leaves" 64 [2] c)
def px(k:Nat):=fI "_law_leaves" 64 3 k
noncomputable def sM(c:CT):=lT (ni "_law_parts" 65 [1,0] c)
def sN(k:Nat):=fI "_law_parts" 65 4 k
noncomputable def Hn(c:CT):=lT (ni "_law_lets" 66 [3] c)
def Ho(k:Nat):=fI "_law_lets" 66 8 k
noncomputable def DG(c:CT):=lT (ni "_law_spots" 67 [1,3] c)
noncomputable def DH(c:CT):=lT (ni "_law_spots" 67 [1] c)
def DI(k:Nat):=fI "_law_spots" 67 8 k
noncomputable def mN(c:CT):=lT (ni "_law_numbers" 68 [1] c)
def xV(k:Nat):=fI "_law_numbers" 68 7 k
def xW(k:Nat):=fI "_law_operand" 69 3 k
def xX(k:Nat):=fI "_law_carried" 70 9 k
def xY(k:Nat):=fI "_law_lending" 71 9 k
def Hq(k:Nat):=fI "_law_call" 72 10 k
def sO(k:Nat):=fI "_law_small_row" 73 6 k
def K9(k:Nat):=fI "_law_row" 74 14 k
noncomputable def sP(c:CT):=lT (Rz txt "_law_program" (top 75) c)
theorem xZ:Rn "_law_program" sP 24:=λ_=>by kernel_rfl
noncomputable def DJ(c:CT):=lT (ni "_law_first" 76 [1,0] c)
noncomputable def DK(c:CT):=lT (ni "_law_first" 76 [1] c)
def DL(k:Nat):=fI "_law_first" 76 5 k
def fX(k:Nat):=fI "_law_nexts" 77 2 k
noncomputable def pz(c:CT):=lT (ni "_law_starts" 78 [1] c)
def AD(k:Nat):=fI "_law_starts" 78 4 k
noncomputable def ya(c:CT):=lT (ni "_law_touched" 79 [3] c)
def yb(k:Nat):=fI "_law_touched" 79 5 k
noncomputable def yc(c:CT):=lT (ni "_law_through" 80 [4] c)
def yd(k:Nat):=fI "_law_through" 80 5 k
def sQ(k:Nat):=fI "_law_given" 81 1 k
noncomputable def fZ(c:CT):=lT (ni "_law_way_from" 82 [1] c)
def uH(k:Nat):=fI "_law_way_from" 82 6 k
noncomputable def E6(c:CT):=lT (ni "law" 83 [5] c)
noncomputable def O1(c:CT):=lT (ni "law" 83 [9,1] c)
noncomputable def E7(c:CT):=lT (ni "law" 83 [9,2] c)
noncomputable def O2(c:CT):=lT (ni "law" 83 [9,3] c)
noncomputable def E8(c:CT):=lT (ni "law" 83 [9] c)
def O3(k:Nat):=fI "law" 83 15 k
noncomputable def AE(c:CT)(ω:PV->Gx PV)(n:Nat):Gx dE :=
 (dX (gO (bnd (au (rd 2) (au (rd 3) (au (Kb 1 n ω (cutE (op2 bN (rd 2) (rd 4)) (aX none) (rF (w9 (kI 1))))) (au (rd 4) (aX []))))) (b8 0 4 (c "tell_new"))))
  (c8 (op2 OR (rd 4) (kI 1)) (aU 4)))
noncomputable def Hr(c:CT)(ω:PV->Gx PV)(n:Nat):Gx dE :=
 (dX (c8 Ql (aU 2))
  (dX (c8 (J7 true) (aU 3))
  (dX (gO (bnd (au (rd 2) (au (rd 3) (au (rd 0) (au (w9 (kI 1)) (aX []))))) (b8 0 4 (c "tell_new"))))
  (dX (c8 (kI 0) (aU 4))
  (dX (jg (toB (op2 Jw (rd 4) Q8)) (AE c ω n) ZQ)
  (retS (rd 2)))))))
theorem DM(c:CT)(ω:PV->Gx PV)(n:Nat):WT txt sv c ω n=Hr c ω n:=by kernel_rfl
end
abbrev S0(l:List (Option PV)):cx:=⟨l,[]⟩
section
variable {s s1:cx} {ts:Gx (List PV)} {as:List PV} {q:PV}
theorem cU{n:Nat}{g:oi}(ha:Ev ts s as s1)(hl:as.length=n)(hn:(s1.h.isEmpty || ai as)=true)(hc:Gives (g as []) q):Ev (bnd ts (b8 0 n g)) s q s1:=let ⟨_,_,h1,h2⟩:=hc;clV ha hl hn h1 h2
theorem gV{f:Gx dE}{n:Nat}{p:PV}{Bn:List (Option PV)}{h':List aq}(e:f ⟨gy n as,[]⟩=some (.ok (.rt p),⟨Bn,h'⟩))(hp:noRef p=true):Gives (dQ f n as []) p:=⟨p,h',jj e,Dw hp⟩
theorem gN{f:Gx dE}{n:Nat}{Bn:List (Option PV)}{h':List aq}(e:f ⟨gy n as,[]⟩=some (.ok .nx,⟨Bn,h'⟩)):Gives (dQ f n as []) .bB:=⟨.bB,h',Vw e,Dw rfl⟩
end
theorem fE(h:List aq)(a b:Str):gT h (.str a) (.str b)=some (.bl (a==b)):=rfl
noncomputable def WV:Sh->Str
 | .num=>"num"
 | .own=>"own"
 | .bJ _=>"strip"
 | .br _=>"rec"
theorem pA(h:List aq)(s:Sh):bN h (enc s) (.int 0)=some (.str (WV s)):=by cases s<;>rfl
inductive Kn where
 | ow (s:Sh) | ho (ahx:Bool) (s:Sh)
noncomputable def hw(b:Bool):Str:=if b then "sole" else "lent"
def encK:Kn->PV
 | .ow s=>enc s
 | .ho b s=>.ao [.str (hw b),enc s]
def bE:Kn->Sh
 | .ow s=>s
 | .ho _ s=>s
noncomputable def dA:Kn->Bool
 | .ow _=>false
 | .ho _ _=>true
theorem ye(d:Kn):noRef (encK d)=true:=by
 cases d with
 | ow s=>exact dv s
 | ho b s=>simp[encK,noRef,ai,dv]
theorem O4(d:Kn):((bN [] (encK d) (.int 0)).bind λw=>oY false [] w (.ao [.str "lent",.str "sole"]))=some (.bl (dA d)):=by
 cases d with
 | ow s=>cases s<;>kernel_rfl
 | ho b s=>cases b<;>kernel_rfl
theorem gi(k:Nat)(d:Kn):Gives (run txt (k+1) "is_holder" [encK d] []) (.bl (dA d)):=by
 rw[uy];obtain⟨w,h1,h2⟩:=la.mp (O4 d);exact gV (rS (b2 (b2 rfl rfl h1) rfl h2)) rfl
theorem DN(k:Nat)(d:Kn):Gives (run txt (k+2) "shape_of" [encK d] []) (enc (bE d)):=by
 rw[xN];have h:=gi k d;refine gV (Bn:=[some (encK d)]) (h':=[]) (rS (eI (tR (cU (cA rfl rfl) rfl rfl h) rfl) ?_)) (dv _);cases d with
 | ow s=>rfl
 | ho b s=>rfl
abbrev Rk:=Str×Kn
def bD(r:Rk):PV:=.ao [.str r.1,encK r.2]
def ju:List Rk->Str->Option Kn
 | [],_=>none
 | r::l,x=>if r.1=x then some r.2 else ju l x
theorem iR:∀(l:List Rk) (r:Rk),(l.map (·.1)).Nodup->r∈l->ju l r.1=some r.2
 | s::l,r,hn,h=>by
  rw[aI,gJ]at hn;rcases aD.mp h with rfl | h
  ·rw[ju,if_pos rfl]
  ·rw[ju,if_neg,iR l r hn.2 h];intro e;exact hn.1 (aM.mpr ⟨r,h,e.symm⟩)
theorem vy(c:CT)(f:Option PV)(x:Str):∀(R:List Rk) (o2 o3:Option PV) (d:Kn),ju R x=some d->∃ρ,cY (gC 2 Q3) (Av c) (R.map bD) (S0 [f,some (.str x),o2,o3])=some (.ok (.rt (encK d)),S0 ρ)
 | [],_,_,_,h=>by cases h
 | r::R,o2,o3,d,h=>by
  have t:gC 2 Q3 (bD r) (S0 [f,some (.str x),o2,o3])=some (S0 [f,some (.str x),some (.str r.1),some (encK r.2)]):=rfl;have e:Ek (toB (op2 gT (rd 2) (rd 1))) (S0 [f,some (.str x),some (.str r.1),some (encK r.2)]) (r.1==x):=bT (b2 rfl rfl (fE _ _ _));unfold ju at h;by_cases hx:r.1=x
  ·rw[if_pos hx]at h;cases h;rw[show(r.1==x)=true by rw[hx];exact nH x]at e
   exact⟨_,fR t (iT e (rS rfl))⟩
  ·rw[if_neg hx]at h;obtain⟨ρ,ih⟩:=vy c f x R (some (.str r.1)) (some (encK r.2)) d h;rw[show(r.1==x)=false by rw[fK];exact hx]at e
   exact⟨ρ,fC t (iF e rfl) ih⟩
def Bp(nm res body:PV)(R1 R2:List Rk):PV:=.ao [nm,.ao (R1.map bD),res,.ao (R2.map bD),body]
theorem aT{h:List aq}{ps qs:List PV}(hl:ps.length+qs.length<=4000000):eE h (.ao ps) (.ao qs)=some (.ao (ps++qs)):=if_pos (show ps.length+qs.length<=fq from hl)
theorem Hs(k:Nat)(n res body:PV)(R1 R2:List Rk)(x:Str)(d:Kn)(hd:ju (R1++R2) x=some d)(h:R1.length+R2.length<=1000):Gives (run txt (k+1) "kind_of" [Bp n res body R1 R2,.str x] []) (encK d):=by
 rw[Aw];obtain⟨ρ,e⟩:=vy (run txt k) (some (Bp n res body R1 R2)) x (R1++R2) none none d hd;have hs:eE [] (.ao (R1.map bD)) (.ao (R2.map bD))=some (.ao ((R1++R2).map bD)):=by
  rw[bQ];exact aT (by simp;lia)
 exact gV (pV (fS (sV (b2 (b2 rfl rfl rfl) (b2 rfl rfl rfl) hs) rfl) e)) (ye d)
theorem LA:eK (run txt):=⟨λk=>DA k⟩
theorem qm{ps:List Sh}{i:Int}{y:Sh}(h0:0<=i)(hg:ps[i.toNat]?=some y):L2.jJ (bR ps) i=some (enc y):=by
 have:=atI_nat (xs:=bR ps) (by rw[iQ,bH,hg];rfl)
 rw[lg h0]at this;exact this
theorem km{s:Sh}{i:Int}{x:Sh×Int}(h:HZ s i=some x):∃ps,s=.br ps/\0<=i/\ps[i.toNat]?=some x.1/\x.2=((gg (ps.take i.toNat)).length:Int):=by
 cases s with
 | br ps =>
  simp only[HZ]at h;by_cases h0:0<=i
  ·rw[if_pos h0]at h;cases hg:ps[i.toNat]? with
   | none=>rw[hg]at h;simp at h
   | some y=>rw[hg]at h;simp at h;subst h;exact⟨ps,rfl,h0,hg,rfl⟩
  ·rw[if_neg h0]at h;cases h
 | num=>simp[HZ]at h
 | own=>simp[HZ]at h
 | bJ n=>simp[HZ]at h
theorem La{ps:List Sh}{y:Sh}(h:y∈ps):dp y<=pd ps:=by
 induction ps with
 | nil=>cases h
 | cons z zs ih =>
  simp only[pd];rcases aD.mp h with rfl | hm
  ·lia
  ·have:=ih hm
   lia
mutual
theorem yf:∀(s:Sh),∀r∈tab s,r.2.2.1=sz r.2.2.2
 | .num,r,h=>by simp[tab]at h;subst h;simp[sz,lv]
 | .own,r,h=>by simp[tab]at h;subst h;simp[sz,lv]
 | .bJ n,r,h=>by simp[tab]at h;subst h;simp[sz,lv]
 | .br ps,r,h=>by
  simp only[tab,aD]at h;rcases h with rfl | h
  ·simp[sz,lv]
  ·exact E9 ps 0 0 r h
theorem E9:∀(l:List Sh) (k:Nat) (a:Int),∀r∈tabs k a l,r.2.2.1=sz r.2.2.2
 | [],_,_,r,h=>by simp[tabs]at h
 | s::l,k,a,r,h=>by
  simp only[tabs,bh,aM]at h;rcases h with⟨r0,h0,rfl⟩ | h
  ·exact yf s r0 h0
  ·exact E9 l _ _ r h
end
mutual
theorem oG:∀(s:Sh),∀r∈tab s,dp r.2.2.2<=dp s/\(lv r.2.2.2).length<=(lv s).length
 | .num,r,h=>by simp[tab]at h;subst h;simp
 | .own,r,h=>by simp[tab]at h;subst h;simp
 | .bJ n,r,h=>by simp[tab]at h;subst h;simp
 | .br ps,r,h=>by
  simp only[tab,aD]at h;rcases h with rfl | h
  ·simp
  ·have:=Fb ps 0 0 r h;simp only[dp,lv]
   lia
theorem Fb:∀(l:List Sh) (k:Nat) (a:Int),∀r∈tabs k a l,dp r.2.2.2<=pd l/\(lv r.2.2.2).length<=(gg l).length
 | [],_,_,r,h=>by simp[tabs]at h
 | s::l,k,a,r,h=>by
  simp only[tabs,bh,aM]at h;simp only[pd,gg,aR];rcases h with⟨r0,h0,rfl⟩ | h
  ·have:=oG s r0 h0;simp only[mL]
   lia
  ·have:=Fb l _ _ r h
   lia
end
section
variable {s s1 s2 s3:cx} {fa fb fc:Gx PV} {x y z r:PV}
theorem eCh{g g':G2}(ha:Ev fa s x s1)(hb:Ev fb s1 y s2)(h1:g s2.h x y=some (.bl true))(hc:Ev fc s2 z s3)(h2:g' s3.h y z=some r):Ev (chain g g' fa fb fc) s r s3 :=
 eB ha (eB hb (eB (by show((g s2.h x y).bind Ep).map _=_;rw[h1];rfl) (by rw[if_pos rfl];exact eB hc (by show(g' s3.h y z).map _=_;rw[h2];rfl))))
end
theorem le_int(h:List aq)(i j:Int):leO h (.int i) (.int j)=some (.bl (decide (i<=j))):=rfl
theorem lt_int(h:List aq)(i j:Int):Jw h (.int i) (.int j)=some (.bl (decide (i<j))):=rfl
theorem Fc(k:Nat){s:Sh}{i:Int}{x:Sh×Int}(hx:HZ s i=some x):Gives (run txt (k+1) "check_part" [enc s,.int i] []) .bB:=by
 obtain⟨ps,rfl,h0,hg,_⟩:=km hx;rw[sx];have hl:i.toNat<ps.length:=(bM.mp hg).1;have h1:leO [] (.int 0) (.int i)=some (.bl true):=by rw[le_int,gp h0]
 have h2:Jw [] (.int i) (.int ((bR ps).length:Int))=some (.bl true):=by rw[lt_int,gp (by rw[fB];lia)]
 exact gN (sq (iF (s1:=S0 [some (enc (.br ps)),some (.int i)]) (bT (by kernel_rfl)) rfl) (iF (nB (b:=true) (bT (eCh rfl rfl h1 (bV (cA (b2 rfl rfl rfl) rfl) rfl) h2))) rfl))
theorem vz(k:Nat)(A P:Option PV):∀(p:List Int) (s:Sh) (a:Int) (o:Option PV) (s':Sh) (a':Int),walk s a p=some (s',a')->∃o',cY (aU 3) (K5 (run txt (k+1))) (p.map .int) (S0 [A,P,some (enc s),o])=some (.ok .nx,S0 [A,P,some (enc s'),o'])
 | [],s,a,o,s',a',h=>by
  simp[walk]at h;obtain⟨rfl,rfl⟩:=h;exact⟨o,rfl⟩
 | i::p,s,a,o,s',a',h=>by
  obtain⟨x,hx,hw⟩:=la.mp (show(HZ s i).bind (λx=>walk x.1 (a+x.2) p)=some (s',a')from h)
  have hc:=Fc k hx;obtain⟨ps,rfl,h0,hg,_⟩:=km hx;obtain⟨o',q⟩:=vz k A P p x.1 (a+x.2) (some (.int i)) s' a' hw;have xp:=qm h0 hg;exact⟨o',fC rfl (sq (dS (cU (cA rfl (cA rfl rfl)) rfl rfl hc)) (aS (b2 (b2 rfl rfl rfl) rfl xp) rfl)) q⟩
theorem VC(k:Nat)(s:Sh)(p:List Int)(x:Sh×Int)(h:walk s 0 p=some x):Gives (run txt (k+2) "part" [enc s,.ao (p.map .int)] []) (enc x.1):=by
 rw[K6];obtain⟨o',q⟩:=vz k (some (enc s)) (some (.ao (p.map .int))) p s 0 none x.1 x.2 h;exact gV (sq (aS rfl rfl) (sq (fS rfl q) (rS rfl))) (dv _)
theorem O5(l:List Sh):(l.map λs=>((lv s).length:Int)).sum=((gg l).length:Int):=by
 induction l with
 | nil=>simp[gg]
 | cons s l ih=>simp[gg,ih]
theorem vA:∀ns:List Int,rG (ns.map .int)=some ns
 | []=>rfl
 | n::r=>by
  have e:cJ kM (r.map PV.int)=some r:=vA r;simp only[rG,aI,cJ,kM,dn,e,gI]
theorem Ht(h:List aq)(ns:List Int):GB h [.lst (ns.map .int)]=some (.int ns.sum):=by
 show(rG _).map _=_;rw[vA];rfl
theorem DO(ps:List PV)(q:Nat):jy ps none (some (q:Int))=ps.take q:=by
 unfold jy;rw[HT.wM,HT.y8,List.drop_zero,Nat.sub_zero];by_cases h:q<=ps.length
 ·rw[Nat.min_eq_left h]
 ·rw[Nat.min_eq_right (by lia),qy (by lia),qy (by lia)]
theorem cM{α:Type}{link:List (Option Nat)}{fi:Gx yD}{bd:Bd}{s s1:cx}{l:List α}{e G:α->PV}(hi:Ev fi s (.sq (l.map e)) s1)(hl:l.length<=4000000)(hb:∀a∈l,bd (bK link s1.ρ) (e a) s1.h=some (some (G a),s1.h)):Ev (da false link fi bd) s (.lst (l.map G)) s1:=eB hi (by
 have:∀l:List α,(∀a∈l,bd (bK link s1.ρ) (e a) s1.h=some (some (G a),s1.h))->dO (bd (bK link s1.ρ)) (l.map e) s1.h=some (l.map G,s1.h):=by
  intro l;induction l with
  | nil=>intro _;rfl
  | cons a l ih =>
   intro H;show(bd (bK link s1.ρ) (e a) s1.h).bind _=_;rw[H a aE];show(dO (bd (bK link s1.ρ)) (l.map e) s1.h).map _=_;rw[ih λb hb=>H b (aF _ hb)]
   rfl
 show(if(l.map e).length<=fq then dO _ (l.map e) s1.h else none).bind _=_
 rw[if_pos (show(l.map e).length<=fq by rw[ak];exact hl),this l hb]
 rfl)
theorem cE{fa:Gx PV}{fl fh:Gx (Option Int)}{s s1 s2 s3:cx}{p q:PV}{l h:Option Int}(h1:Ev fa s p s1)(h2:Ev fl s1 l s2)(h3:Ev fh s2 h s3)(h4:Ez s3.h l h p=some q):Ev (cutE fa fl fh) s q s3:=eB h1 (eB h2 (eB h3 (by show(Ez s3.h l h p).map _=_;rw[h4];rfl)))
theorem O6(k:Nat)(ps:List Sh)(q:Nat)(hd:pd ps<=k)(hl:(gg ps).length<=1000)(hn:ps.length<=1000)(a b d:Option PV) :
  Ek (gw GB (au (da false [none,none] (jC (cutE Qw (aX none) (rF (rd 4)))) (lM (aU 1) (gw gv (au (bnd Q5 (b8 0 1 (run txt (k+1) "leaves"))) (aX []))))) (aX []))) (S0 [a,b,some (enc (.br ps)),d,some (.int (q:Int))]) (.int ((gg (ps.take q)).length:Int)):=by
 have e2:=Ht [] ((ps.take q).map λs=>((lv s).length:Int))
 rw[O5,cX]at e2;have DP:Ez [] none (some (q:Int)) (.ao (bR ps))=some (.ao ((ps.take q).map enc)):=by
  show some (PV.ao (jy (bR ps) none (some (q:Int))))=_;rw[DO,iQ,wt]
 refine bV (cA (cM (sV (cE (b2 rfl rfl rfl) rfl rfl DP) rfl) (by rw[lr];lia) λs hs=>?_) rfl) e2
 have hm:=eK.each LA ps k hd (by lia) s (List.mem_of_mem_take hs)
 refine e1 rfl (bV (cA (cU (cA rfl rfl) rfl rfl hm) rfl) ?_);show some (PV.int ((bR (lv s)).length:Int))=_;rw[fB];rfl
theorem sR(k:Nat)(A P:Option PV):∀(p:List Int) (s:Sh) (a:Int) (o:Option PV) (s':Sh) (a':Int),(tab s).length<=500->dp s<=k->walk s a p=some (s',a')->∃o',cY (aU 4) (Hi (run txt (k+1))) (p.map .int) (S0 [A,P,some (enc s),some (.int a),o])=some (.ok .nx,S0 [A,P,some (enc s'),some (.int a'),o'])
 | [],s,a,o,s',a',_,_,h=>by
  simp[walk]at h;obtain⟨rfl,rfl⟩:=h;exact⟨o,rfl⟩
 | i::p,s,a,o,s',a',ht,hd,h=>by
  obtain⟨x,hx,hw⟩:=la.mp (show(HZ s i).bind (λx=>walk x.1 (a+x.2) p)=some (s',a')from h)
  have hc:=Fc k hx;obtain⟨ps,rfl,h0,hg,Zs⟩:=km hx;have G1:x.1∈ps:=dm hg;have CS:=vo G1;have htl:(tab (.br ps)).length=gX ps+1:=by simp only[tab,aK,gh]
  have hll:=xM ps;have hnl:=se ps;have hdm:=La G1;have hdd:pd ps+1<=k:=by simpa only[dp]using hd
  obtain⟨o',q⟩:=sR k A P p x.1 (a+x.2) (some (.int i)) s' a' (by lia) (by lia) hw
  have Lb:=O6 k ps i.toNat (by lia) (by lia) (by lia) A P (some (.int a))
  rw[lg h0,<-Zs]at Lb;have xp:=qm h0 hg;exact⟨o',fC rfl (sq (dS (cU (cA rfl (cA rfl rfl)) rfl rfl hc)) (sq (aS (b2 rfl Lb rfl) rfl) (aS (b2 (b2 rfl rfl rfl) rfl xp) rfl))) q⟩
theorem O7(k:Nat)(s:Sh)(p:List Int)(x:Sh×Int)(ht:(tab s).length<=500)(hd:dp s<=k)(h:walk s 0 p=some x):Gives (run txt (k+2) "first" [enc s,.ao (p.map .int)] []) (.int x.2):=by
 rw[Hj];obtain⟨o',q⟩:=sR k (some (enc s)) (some (.ao (p.map .int))) p s 0 none x.1 x.2 ht hd h;exact gV (sq (aS rfl rfl) (sq (aS rfl rfl) (sq (fS rfl q) (rS rfl)))) rfl
structure cD where
 w:Str
 n:Str
 t:Bool
 f:Int
 m:Int
 k:Str
def kP(a:cD):PV:=.ao [.str a.w,.str a.n,.bl a.t,.int a.f,.int a.m,.str a.k]
noncomputable def Fd:cD:=⟨"rest","",false,0,0,""⟩
noncomputable def pB:cD:=⟨"hand","",false,0,0,""⟩
def Ld(x:Str)(th:Bool)(p:List Int)(at_:PV):PV:=.ao [.str x,.bl th,.ao (p.map .int),at_]
def yg(s:Sh):Prop:=(tab s).length<=100/\dp s<=3
def sS(F:PV)(ks:List Rk):Prop:=∀k,∀r∈ks,Gives (run txt (k+1) "kind_of" [F,.str r.1] []) (encK r.2)
def tA(w x:Str)(d:Kn)(r:Rw)(t:Str):cD:=⟨w,x,dA d,r.2.1,r.2.2.1,t⟩
theorem Jg(n res body:PV)(R1 R2:List Rk)(h:R1.length+R2.length<=1000)(hn:((R1++R2).map (·.1)).Nodup):sS (Bp n res body R1 R2) (R1++R2):=λk r hr=>Hs k n res body R1 R2 r.1 r.2 (iR _ r hn hr) h
theorem f9{F:PV}{ks:List Rk}(hF:sS F ks)(k:Nat)(hk:3<=k)(w t:Str){x:Str}{d:Kn}(hx:(x,d)∈ks)(hs:yg (bE d)){r:Rw}(hr:r∈tab (bE d))(a:PV):Gives (run txt (k+3) "touch" [F,.str w,Ld x (dA d) r.1 a,.str t] []) (kP (tA w x d r t)):=by
 rw[Hl];have hw:=sg (bE d) r hr 0;have hd:=oG (bE d) r hr;have hl:=Ao (bE d);have h1:=hF (k+1) (x,d) hx;have h2:=DN k d;have h3:=VC k (bE d) r.1 _ hw;have h4:=eK.all LA r.2.2.2 (k+1) (by have:=hs.2;lia) (by have:=hs.1;lia)
 have h5:=O7 k (bE d) r.1 _ (by have:=hs.1;lia) (by have:=hs.2;lia) hw
 have h6:=yf (bE d) r hr;have e4:0+r.2.1=r.2.1:=by lia
 rw[e4]at h5;have eG:gv [] [.ao (bR (lv r.2.2.2))]=some (.int r.2.2.1):=by
  show some (PV.int ((bR (lv r.2.2.2)).length:Int))=_;rw[fB,h6];rfl
 exact gV (sq (aS (cU (cA (cU (cA rfl (cA (b2 rfl rfl rfl) rfl)) rfl rfl h1) rfl) rfl rfl h2) rfl)
  (sq (aS (bV (cA (cU (cA (cU (cA rfl (cA (b2 rfl rfl rfl) rfl)) rfl rfl h3) rfl) rfl rfl h4) rfl) eG) rfl)
  (rS (tU (cA rfl (cA (b2 rfl rfl rfl) (cA (b2 rfl rfl rfl) (cA (cU (cA rfl (cA (b2 rfl rfl rfl) rfl)) rfl rfl h5) (cA rfl (cA rfl rfl)))))) (by simp))))) rfl
theorem gj(s:Sh):(([],0,sz s,s):Rw)∈tab s:=by
 obtain⟨L,e⟩:=An s;rw[e];exact aE
theorem eP{F:PV}{ks:List Rk}(hF:sS F ks)(k:Nat)(hk:3<=k)(w t:Str){x:Str}{d:Kn}(hx:(x,d)∈ks)(hs:yg (bE d)):Gives (run txt (k+4) "touch_whole" [F,.str w,.str x,.str t] []) (kP (tA w x d ([],0,sz (bE d),bE d) t)):=by
 rw[pW];have h1:=hF (k+2) (x,d) hx;have h2:=gi (k+2) d;have h3:=f9 hF k hk w t hx hs (gj (bE d)) .bB;exact gV (rS (cU (cA rfl (cA rfl (cA (tU (cA rfl (cA (cU (cA (cU (cA rfl (cA rfl rfl)) rfl rfl h1) rfl) rfl rfl h2) (cA (tU rfl (by simp)) (cA rfl rfl)))) (by simp)) (cA rfl rfl)))) rfl rfl h3)) rfl
def fj(as:List cD):PV:=.lst (as.map kP)
theorem adP(a:cD):noRef (kP a)=true:=rfl
theorem Le:∀as:List cD,ai (as.map kP)=true
 | []=>rfl
 | a::as=>by simp[ai,adP,Le as]
theorem AG(as:List cD):noRef (fj as)=true:=by simp[fj,noRef,Le]
theorem aL{h:List aq}{ps qs:List PV}(hl:ps.length+qs.length<=4000000):eE h (.lst ps) (.lst qs)=some (.lst (ps++qs)):=by
 have e:eE h (.lst ps) (.lst qs)=sizeOk (ps.length+qs.length) (.lst (ps++qs)):=rfl;rw[e];exact if_pos (show ps.length+qs.length<=fq from hl)
theorem lE(as bs:List cD)(h:List aq)(hl:as.length+bs.length<=1000):eE h (fj as) (fj bs)=some (fj (as++bs)):=by
 unfold fj;rw[bQ];exact aL (by simp only[ak];lia)
inductive uI (ks:List Rk):PV->Prop
 | bB:uI ks .bB
 | int (i:Int):uI ks (.int i)
 | str (y:Str) (h:(y,Kn.ow .num)∈ks):uI ks (.str y)
noncomputable def H0:PV->List cD
 | .str y=>[⟨"read",y,false,0,1,""⟩]
 | _=>[]
theorem vD{F:PV}{ks:List Rk}(hF:sS F ks)(k:Nat)(hk:3<=k)(x:Str)(th:Bool)(p:List Int){a:PV}(ha:uI ks a):Gives (run txt (k+5) "at_acts" [F,Ld x th p a] []) (fj (H0 a)):=by
 rw[Ay];cases ha with
 | bB=>exact gV (pV (iT (nB (tR (p:=.bl false) (by rfl) rfl)) (rS rfl))) rfl
 | int i=>exact gV (pV (iT (nB (tR (p:=.bl false) (by rfl) rfl)) (rS rfl))) rfl
 | str y h =>
  have h1:=eP hF k hk "read" "" h ⟨by simp[bE,tab],by simp[bE,dp]⟩
  have e:tA "read" y (.ow .num) ([],0,sz (bE (.ow .num)),bE (.ow .num)) ""=⟨"read",y,false,0,1,""⟩:=by
   simp[tA,dA,bE,sz,lv]
  rw[e]at h1;exact gV (sq (iF (nB (tR (p:=.bl true) (by rfl) rfl)) rfl) (rS (lS (cA (cU (cA rfl (cA rfl (cA (b2 rfl rfl rfl) (cA rfl rfl)))) rfl rfl h1) rfl) (by show 1<=4000000;decide)))) rfl
structure Sp where
 x:Str
 d:Kn
 r:Rw
 a:PV
def aO(s:Sp):PV:=Ld s.x (dA s.d) s.r.1 s.a
structure cy (ks:List Rk) (s:Sp):Prop where
 mem:(s.x,s.d)∈ks
 ok:yg (bE s.d)
 row:s.r∈tab (bE s.d)
 at_:uI ks s.a
def pC(w:Str)(s:Sp)(t:Str):cD:=tA w s.x s.d s.r t
inductive Op where
 | n (i:Int) | s (s:Sp)
def dM:Op->PV
 | .n i=>.int i
 | .s s=>aO s
def dH(ks:List Rk):Op->Prop
 | .n _=>True
 | .s s=>cy ks s
def nj:Op->List cD
 | .n _=>[]
 | .s s=>H0 s.a++[pC "read" s ""]
theorem yh(a:PV):(H0 a).length<=1:=by
 unfold H0;split<;>simp
theorem dy{F:PV}{ks:List Rk}(hF:sS F ks)(k:Nat)(hk:3<=k){o:Op}(ho:dH ks o):Gives (run txt (k+6) "operand_acts" [F,dM o] []) (fj (nj o)):=by
 rw[oE];cases o with
 | n i=>exact gV (pV (iT (nB (tR (p:=.bl false) (by rfl) rfl)) (rS rfl))) rfl
 | s s =>
  obtain⟨h1,h2,h3,h4⟩:=ho;have e1:=vD hF k hk s.x (dA s.d) s.r.1 h4;have e2:=f9 hF (k+2) (by lia) "read" "" h1 h2 h3 s.a
  have hl:=yh s.a;exact gV (sq (iF (nB (tR (p:=.bl true) (by rfl) rfl)) rfl) (rS (b2 (cU (cA rfl (cA rfl rfl)) rfl rfl e1) (lS (cA (cU (cA rfl (cA rfl (cA rfl (cA rfl rfl)))) rfl rfl e2) rfl) (by simp)) (lE (H0 s.a) [pC "read" s ""] [] (by simp;lia))))) (AG _)
def yi(s:Sp):List cD:=match s.a with
 | .bB=>[pC "fill" s ""]
 | a=>H0 a++[pC "turn" s ""]
theorem kZ{F:PV}{ks:List Rk}(hF:sS F ks)(k:Nat)(hk:3<=k){s:Sp}(hs:cy ks s):Gives (run txt (k+6) "target_acts" [F,aO s] []) (fj (yi s)):=by
 rw[pX];obtain⟨h1,h2,h3,h4⟩:=hs;have e1:=vD hF k hk s.x (dA s.d) s.r.1 h4;have ef:=f9 hF (k+2) (by lia) "fill" "" h1 h2 h3 s.a
 have et:=f9 hF (k+2) (by lia) "turn" "" h1 h2 h3 s.a
 obtain⟨x,d,r,a⟩:=s;have hl:=yh a;have lG:∀(z:YA [] a .bB=some (.bl false)) (q:yi ⟨x,d,r,a⟩=H0 a++[pC "turn" ⟨x,d,r,a⟩ ""]),Gives (dQ (kX (run txt (k+5))) 2 [F,aO ⟨x,d,r,a⟩] []) (fj (yi ⟨x,d,r,a⟩)):=by
  intro z q;rw[q];exact gV (sq (iF (bT (b2 (b2 rfl rfl rfl) rfl z)) rfl) (rS (b2 (cU (cA rfl (cA rfl rfl)) rfl rfl e1) (lS (cA (cU (cA rfl (cA rfl (cA rfl (cA rfl rfl)))) rfl rfl et) rfl) (by simp)) (lE (H0 a) [pC "turn" ⟨x,d,r,a⟩ ""] [] (by simp;lia))))) (AG _)
 cases h4 with
 | bB=>exact gV (pV (iT (bT (b2 (b2 rfl rfl rfl) rfl rfl)) (rS (lS (cA (cU (cA rfl (cA rfl (cA rfl (cA rfl rfl)))) rfl rfl ef) rfl) (by show 1<=4000000;decide))))) rfl
 | int i=>exact lG rfl rfl
 | str y h=>exact lG rfl rfl
theorem iu(o:Op):(nj o).length<=2:=by
 cases o with
 | n i=>simp[nj]
 | s s=>have:=yh s.a;simp[nj];lia
theorem yj(s:Sp):(yi s).length<=2:=by
 unfold yi;split
 ·simp
 ·rename_i a _;have:=yh s.a;simp
  lia
section
variable {F:PV} {ks:List Rk} (hF:sS F ks) (k:Nat) (hk:3<=k)
include hF hk
theorem DQ(w:Str){s:Sp}(hs:cy ks s){o:Op}(ho:dH ks o):Gives (run txt (k+7) "put_acts" [F,.ao [.str w,aO s,dM o]] []) (fj (nj o++yi s)):=by
 rw[xP];have h1:=dy hF k hk ho;have h2:=kZ hF k hk hs;have l1:=iu o;have l2:=yj s;exact gV (rS (b2 (cU (cA rfl (cA (b2 rfl rfl rfl) rfl)) rfl rfl h1) (cU (cA rfl (cA (b2 rfl rfl rfl) rfl)) rfl rfl h2) (lE _ _ _ (by lia)))) (AG _)
theorem DR(w:Str){s:Sp}(hs:cy ks s)(q:PV){a b:Op}(ha:dH ks a)(hb:dH ks b):Gives (run txt (k+7) "set_acts" [F,.ao [.str w,aO s,q,dM a,dM b]] []) (fj (nj a++nj b++yi s)):=by
 rw[xQ];have h1:=dy hF k hk ha;have h3:=dy hF k hk hb;have h2:=kZ hF k hk hs;have l1:=iu a;have l3:=iu b;have l2:=yj s;exact gV (rS (b2 (b2 (cU (cA rfl (cA (b2 rfl rfl rfl) rfl)) rfl rfl h1) (cU (cA rfl (cA (b2 rfl rfl rfl) rfl)) rfl rfl h3) (lE _ _ _ (by lia))) (cU (cA rfl (cA (b2 rfl rfl rfl) rfl)) rfl rfl h2) (lE _ _ _ (by rw[aR];lia)))) (AG _)
theorem Hu(w:Str)(q:PV){a b:Op}(ha:dH ks a)(hb:dH ks b):Gives (run txt (k+7) "if_acts" [F,.ao [.str w,dM a,dM b,q]] []) (fj (nj a++nj b)):=by
 rw[AA];have h1:=dy hF k hk ha;have h3:=dy hF k hk hb;have l1:=iu a;have l3:=iu b;exact gV (rS (b2 (cU (cA rfl (cA (b2 rfl rfl rfl) rfl)) rfl rfl h1) (cU (cA rfl (cA (b2 rfl rfl rfl) rfl)) rfl rfl h3) (lE _ _ _ (by lia)))) (AG _)
theorem DS(w:Str){a:Op}(ha:dH ks a):Gives (run txt (k+7) "say_acts" [F,.ao [.str w,dM a]] []) (fj (nj a)):=by
 rw[xT];have h1:=dy hF k hk ha;exact gV (rS (cU (cA rfl (cA (b2 rfl rfl rfl) rfl)) rfl rfl h1)) (AG _)
omit hF hk in
theorem Hv(p:PV):Gives (run txt (k+7) "go_acts" [F,p] []) (fj []):=by
 rw[AB];exact gV (rS rfl) rfl
omit hF hk in
theorem yk(w:Str):Gives (run txt (k+7) "give_acts" [F,.ao [.str w,.str ""]] []) (fj []):=by
 rw[kY];exact gV (pV (iT (bT (b2 (b2 rfl rfl rfl) rfl (show gT [] (.str "") (.str "")=some (.bl true) by kernel_rfl))) (rS rfl))) rfl
theorem AI(w:Str){s t:Sp}(hs:cy ks s)(ht:cy ks t):Gives (run txt (k+7) "copy_acts" [F,.ao [.str w,aO s,aO t]] []) (fj [pC "read" t "",pC "fill" s ""]):=by
 rw[uA];have h1:=f9 hF (k+3) (by lia) "read" "" ht.mem ht.ok ht.row t.a
 have h2:=f9 hF (k+3) (by lia) "fill" "" hs.mem hs.ok hs.row s.a
 exact gV (rS (lS (cA (cU (cA rfl (cA rfl (cA (b2 rfl rfl rfl) (cA rfl rfl)))) rfl rfl h1) (cA (cU (cA rfl (cA rfl (cA (b2 rfl rfl rfl) (cA rfl rfl)))) rfl rfl h2) rfl)) (by simp))) rfl
theorem AJ(w:Str){s t:Sp}(hs:cy ks s)(ht:cy ks t):Gives (run txt (k+7) "move_acts" [F,.ao [.str w,aO s,aO t]] []) (fj [pC "empty" t "",pC "fill" s ""]):=by
 rw[uB];have h1:=f9 hF (k+3) (by lia) "empty" "" ht.mem ht.ok ht.row t.a
 have h2:=f9 hF (k+3) (by lia) "fill" "" hs.mem hs.ok hs.row s.a
 exact gV (rS (lS (cA (cU (cA rfl (cA rfl (cA (b2 rfl rfl rfl) (cA rfl rfl)))) rfl rfl h1) (cA (cU (cA rfl (cA rfl (cA (b2 rfl rfl rfl) (cA rfl rfl)))) rfl rfl h2) rfl)) (by simp))) rfl
theorem AK(w:Str){s:Sp}(hs:cy ks s):Gives (run txt (k+7) "drop_acts" [F,.ao [.str w,aO s]] []) (fj [pC "empty" s ""]):=by
 rw[uC];have h1:=f9 hF (k+3) (by lia) "empty" "" hs.mem hs.ok hs.row s.a
 exact gV (rS (lS (cA (cU (cA rfl (cA rfl (cA (b2 rfl rfl rfl) (cA rfl rfl)))) rfl rfl h1) rfl) (by simp))) rfl
theorem AL(w t:Str){s:Sp}(hs:cy ks s):Gives (run txt (k+7) "lend_acts" [F,.ao [.str w,.str t,aO s]] []) (fj [pC w s t]):=by
 rw[uD];have h1:=f9 hF (k+3) (by lia) w t hs.mem hs.ok hs.row s.a
 exact gV (rS (lS (cA (cU (cA rfl (cA (b2 rfl rfl rfl) (cA (b2 rfl rfl rfl) (cA (b2 rfl rfl rfl) rfl)))) rfl rfl h1) rfl) (by simp))) rfl
end
noncomputable def pE:Sh->Bool
 | .own=>true
 | _=>false
abbrev oP:PV:=.ao [.str "own"]
mutual
def vE:Sh->Tr
 | .num=>.ao [.str "num"]
 | .own=>.ao [.str "own"]
 | .bJ n=>.ao [.str "strip",.int n]
 | .br ps=>.ao [.str "rec",.ao (mO ps)]
def mO:List Sh->List Tr
 | []=>[]
 | s::l=>vE s::mO l
end
mutual
theorem toT_enc(h:List aq):∀(s:Sh) (n:Nat),2*dp s+2<n->toT h n (enc s)=some (vE s)
 | .num,n+3,_=>rfl
 | .own,n+3,_=>rfl
 | .bJ _,n+3,_=>rfl
 | .br ps,n+3,hn=>by
  have:=toT_encs h ps (n+1) (by simp only[dp]at hn;lia)
  have e1:toT h (n+2) (.str "rec")=some (.str "rec"):=rfl;have e2:toT h (n+2) (.ao (bR ps))=some (.ao (mO ps)):=by
   show((cJ (toT h (n+1)) (bR ps)).bind (Jy .ao))=_;rw[this];rfl
  show((cJ (toT h (n+2)) [.str "rec",.ao (bR ps)]).bind (Jy .ao))=_;simp only[cJ,e1,e2,dn,gI,vE,Jy]
 | .num,0,hn=>by lia
 | .num,1,hn=>by lia
 | .num,2,hn=>by lia
 | .own,0,hn=>by lia
 | .own,1,hn=>by lia
 | .own,2,hn=>by lia
 | .bJ _,0,hn=>by lia
 | .bJ _,1,hn=>by lia
 | .bJ _,2,hn=>by lia
 | .br _,0,hn=>by lia
 | .br _,1,hn=>by lia
 | .br _,2,hn=>by lia
theorem toT_encs(h:List aq):∀(l:List Sh) (n:Nat),2*pd l+2<n->cJ (toT h n) (bR l)=some (mO l)
 | [],_,_=>rfl
 | s::l,n,hn=>by
  simp only[pd]at hn;have h1:=toT_enc h s n (by lia)
  have h2:=toT_encs h l n (by lia)
  simp only[bR,cJ,h1,h2,dn,gI,mO]
end
theorem VD(s:Sh):eqT (vE s) (.ao [.str "own"])=pE s:=by
 cases s with
 | br ps=>show((Str.ofString "rec"==Str.ofString "own")&&mq [.ao (mO ps)] [])=false;rw[show(Str.ofString "rec"==Str.ofString "own")=false by decide +kernel];rfl
 | num=>decide +kernel
 | own=>decide +kernel
 | bJ n=>show((Str.ofString "strip"==Str.ofString "own")&&mq [.int n] [])=false;rw[show(Str.ofString "strip"==Str.ofString "own")=false by decide +kernel];rfl
theorem DT:∀l:List Sh,((mO l).any λy=>eqT y (.ao [.str "own"]))=l.any pE
 | []=>rfl
 | s::l=>by rw[mO,i8,i8,DT l,VD]
def ZY(s:Sh):Bool:=!(lv s).any pE
theorem sU:∀{l:List Sh},(∀x∈l,ir x=true)->pd l=0
 | [],_=>rfl
 | s::l,h=>by
  have h1:=(Dv (h s aE)).2;have h2:=sU λx hx=>h x (aF _ hx)
  simp only[pd]
  lia
theorem VE(s:Sh):oY true [] oP (.ao (bR (lv s)))=some (.bl (ZY s)):=by
 have hd:=sU (xG s);have e:=toT_encs [] (lv s) fQ (by rw[hd];decide)
 have e0:NW [] oP (bR (lv s))=some ((lv s).any pE):=by
  unfold NW;rw[e,show toT [] fQ oP=some (.ao [.str "own"])from rfl,<-DT]
  rfl
 have e1:oY true [] oP (.ao (bR (lv s)))=(NW [] oP (bR (lv s))).map λb=>.bl (if true=true then !b else b):=rfl
 rw[e1,e0];unfold ZY;cases(lv s).any pE<;>rfl
def oW(s:Sh):Str:=if ZY s=true then "read" else "empty"
abbrev jE(s:Sh):Rw:=([],0,sz s,s)
def WX(x:Str)(d:Kn)(t:Str):cD:=match d with
 | .ow s=>tA (oW s) x (.ow s) (jE s) ""
 | .ho b s=>tA (if b=true then "sole" else "lend") x (.ho b s) (jE s) t
def ZZ(x:Str)(d:Kn):cD:=match d with
 | .ow s=>tA (oW s) x (.ow s) (jE s) ""
 | .ho b s=>tA "give" x (.ho b s) (jE s) ""
theorem AM(k:Nat)(s:Sh)(hd:dp s<=k)(hz:(lv s).length<=4000000):Gives (run txt (k+2) "is_copied" [enc s] []) (.bl (ZY s)):=by
 rw[ux];have h:=eK.all LA s k hd hz;exact gV (rS (b2 (tU (cA rfl rfl) (by simp)) (cU (cA rfl rfl) rfl rfl h) (VE s))) rfl
section
variable {F:PV} {ks:List Rk} (hF:sS F ks) (k:Nat) (hk:3<=k)
include hF hk
theorem pF{x:Str}{s:Sh}(hx:(x,Kn.ow s)∈ks)(hs:yg s):Gives (run txt (k+5) "owner_act" [F,.str x] []) (kP (tA (oW s) x (.ow s) (jE s) "")):=by
 rw[uF];have h1:=hF (k+3) _ hx;have hl:=Ao s;have h2:=AM (k+2) s (by have:=hs.2;lia) (by have:=hs.1;lia)
 have h3:=eP hF k hk (oW s) "" hx hs;have hw:Ek (dP (gf (bnd (au (bnd Qo (b8 0 2 (run txt (k+4) "kind_of"))) (aX [])) (b8 0 1 (run txt (k+4) "is_copied")))) (aX (PV.str "read")) (aX (PV.str "empty"))) (S0 [some F,some (.str x)]) (PV.str (oW s)):=by
  refine eI (tR (cU (cA (cU (cA rfl (cA rfl rfl)) rfl rfl h1) rfl) rfl rfl h2) rfl) ?_;unfold oW;cases ZY s<;>rfl
 exact gV (rS (cU (cA rfl (cA hw (cA rfl (cA rfl rfl)))) rfl rfl h3)) rfl
theorem Hw{x:Str}{d:Kn}(hx:(x,d)∈ks)(hs:yg (bE d))(t:Str):Gives (run txt (k+6) "arg_act" [F,.str x,.str t] []) (kP (WX x d t)):=by
 rw[Az];have h1:=hF (k+4) _ hx;have h2:=gi (k+4) d;have a0:Ev (c8 (bnd Qo (b8 0 2 (run txt (k+5) "kind_of"))) (aU 3)) (S0 [some F,some (.str x),some (.str t),none]) .nx (S0 [some F,some (.str x),some (.str t),some (encK d)]):=aS (cU (cA rfl (cA rfl rfl)) rfl rfl h1) rfl;have t0:Ek (zj (gf (bnd Qe (b8 0 1 (run txt (k+5) "is_holder"))))) (S0 [some F,some (.str x),some (.str t),some (encK d)]) (!dA d):=nB (tR (cU (cA rfl rfl) rfl rfl h2) rfl);cases d with
 | ow s =>
  have h3:=pF hF k hk hx hs;exact gV (sq a0 (pV (iT t0 (rS (cU (cA rfl (cA rfl rfl)) rfl rfl h3))))) rfl
 | ho b s =>
  have h3:=eP hF (k+1) (by lia) (if b=true then "sole" else "lend") t hx hs
  have hw:Ek (dP (toB (op2 gT (op2 bN (rd 3) (kI 0)) (aX (PV.str "lent")))) (aX (PV.str "lend")) (aX (PV.str "sole"))) (S0 [some F,some (.str x),some (.str t),some (encK (.ho b s))]) (PV.str (if b=true then "sole" else "lend")):=by
   cases b with
   | false=>exact iT (bT (b2 (b2 rfl rfl rfl) rfl (show gT [] (.str (hw false)) (.str "lent")=some (.bl true) by kernel_rfl))) rfl
   | true=>exact iF (bT (b2 (b2 rfl rfl rfl) rfl (show gT [] (.str (hw true)) (.str "lent")=some (.bl false) by kernel_rfl))) rfl
  exact gV (sq a0 (sq (iF t0 rfl) (rS (cU (cA rfl (cA hw (cA rfl (cA rfl rfl)))) rfl rfl h3)))) rfl
theorem AN(w:Str){x:Str}{d:Kn}(hx:(x,d)∈ks)(hs:yg (bE d))(hne:(x==(Str.ofString ""))=false):Gives (run txt (k+7) "give_acts" [F,.ao [.str w,.str x]] []) (fj [ZZ x d]):=by
 rw[kY];have h1:=hF (k+5) _ hx;have h2:=gi (k+5) d;have t0:Ek Qm (S0 [some F,some (.ao [.str w,.str x])]) false:=by
  refine bT (b2 (b2 rfl rfl rfl) rfl ?_);rw[fE,hne]
 have t1:Ek (gf (bnd (au (bnd QB (b8 0 2 (run txt (k+6) "kind_of"))) (aX [])) (b8 0 1 (run txt (k+6) "is_holder")))) (S0 [some F,some (.ao [.str w,.str x])]) (dA d):=tR (cU (cA (cU (cA rfl (cA (b2 rfl rfl rfl) rfl)) rfl rfl h1) rfl) rfl rfl h2) rfl;cases d with
 | ow s =>
  have h3:=pF hF (k+1) (by lia) hx hs
  exact gV (sq (iF t0 rfl) (sq (iF t1 rfl) (rS (lS (cA (cU (cA rfl (cA (b2 rfl rfl rfl) rfl)) rfl rfl h3) rfl) (by simp))))) rfl
 | ho b s =>
  have h3:=eP hF (k+2) (by lia) "give" "" hx hs
  exact gV (sq (iF t0 rfl) (pV (iT t1 (rS (lS (cA (cU (cA rfl (cA rfl (cA (b2 rfl rfl rfl) (cA rfl rfl)))) rfl rfl h3) rfl) (by simp)))))) rfl
end
noncomputable abbrev sI(i:Nat):Str:=Str.ofString (toString (i:Int))
def jF:Nat->List Rk->List cD
 | _,[]=>[]
 | i,r::l=>WX r.1 r.2 (sI i)::jF (i+1) l
theorem sW:∀(l:List Rk) (i:Nat),(jF i l).length=l.length
 | [],_=>rfl
 | r::l,i=>by simp[jF,sW l]
def pY:Option Rk->List cD
 | none=>[]
 | some (x,.ow s)=>[tA "fill" x (.ow s) (jE s) ""]
 | some (x,.ho _ _)=>[⟨"take","",false,0,0,x⟩]
def AO:Option Rk->Str
 | none=>""
 | some r=>r.1
def VF(ks:List Rk):Prop:=∀q∈ks,yg (bE q.2)
theorem Z0(h:List aq)(i:Nat)(hi:i<1000):GA h [.int (i:Int)]=some (.str (sI i)):=if_pos ⟨by lia,by lia⟩
theorem cF{bd:PV->List aq->Option (Option PV×List aq)}{h:List aq}{α:Type}{e G:α->PV}:∀l:List α,(∀a∈l,bd (e a) h=some (some (G a),h))->dO bd (l.map e) h=some (l.map G,h)
 | [],_=>rfl
 | a::l,H=>by
  show(bd (e a) h).bind _=_;rw[H a aE];show(dO bd (l.map e) h).map _=_;rw[cF l λb hb=>H b (aF _ hb)]
  rfl
theorem cN{link:List (Option Nat)}{fi:Gx yD}{bd:Bd}{s s1:cx}{ps qs:List PV}(hi:Ev fi s (.sq ps) s1)(hl:ps.length<=4000000)(hb:dO (bd (bK link s1.ρ)) ps s1.h=some (qs,s1.h)):Ev (da true link fi bd) s (.ref s1.h.length) ⟨s1.ρ,s1.h++[⟨.lst,qs⟩]⟩:=eB hi (by
 show(if ps.length<=fq then dO _ ps s1.h else none).bind _=_
 rw[if_pos (show ps.length<=fq from hl),hb]
 rfl)
theorem AQ{h:List aq}{n:Nat}:∀ps:List PV,ai ps=true->cJ (o8 h n) ps=some ps
 | [],_=>rfl
 | p::ps,hp=>by
  simp only[ai,aV]at hp;have e:o8 h n p=some p:=by cases n<;>(unfold o8;rw[if_pos hp.1])
  simp only[cJ,e,AQ ps hp.2,dn,gI]
theorem oH{ps:List PV}{r:List aq}(hp:ai ps=true):kO (⟨.lst,ps⟩::r) (.ref 0)=some (.lst ps):=by
 unfold kO;rw[if_neg (by simp)]
 unfold o8;rw[if_neg (by simp[noRef])]
 show((cJ (o8 _ 3) ps).map _)=_;rw[AQ ps hp];rfl
theorem Ff{bd:PV->List aq->Option (Option PV×List aq)}{h:List aq}:∀(l:List Rk) (i:Nat),(∀r∈l,∀j:Nat,j<1000->bd (zF (.int (j:Int)) (.str r.1)) h=some (some (kP (WX r.1 r.2 (sI j))),h))->i+l.length<=1000->dO bd (d8 i (l.map λr=>PV.str r.1)) h=some ((jF i l).map kP,h)
 | [],_,_,_=>rfl
 | r::l,i,H,hz=>by
  simp only[aK]at hz;show(bd (zF (.int (i:Int)) (.str r.1)) h).bind _=_;rw[H r aE i (by lia)]
  show(dO bd (d8 (i+1) (l.map λr=>PV.str r.1)) h).map _=_
  rw[Ff l (i+1) (λq hq=>H q (aF _ hq)) (by lia)]
  rfl
theorem vF:∀(l:List PV) (i:Nat),(d8 i l).length=l.length
 | [],_=>rfl
 | a::l,i=>by simp[d8,vF l]
theorem eV{fa:Gx PV}{s s1:cx}{p:PV}{ps:List PV}(h:Ev fa s p s1)(hp:ui p=some ps):Ev (rO fa) s (d8 0 ps) s1:=eB h (by show((ui p).map _).map _=_;rw[hp];rfl)
section
variable {F:PV} {ks:List Rk} (hF:sS F ks) (k:Nat) (hk:3<=k) (hN:noRef F=true)
include hF hk hN
theorem AR(w:Str)(fn:PV){ar:List Rk}(ha:∀r∈ar,r∈ks)(ho:VF ks)(hl:ar.length<=10){tk:Option Rk}(ht:∀r,tk=some r->r∈ks/\(r.1==(Str.ofString ""))=false):Gives (run txt (k+7) "call_acts" [F,.ao [.str w,.str (AO tk),fn,.ao (ar.map λr=>.str r.1)]] []) (fj (jF 0 ar++pB::pY tk)):=by
 rw[uE];obtain⟨p,hp⟩:∃p,p=PV.ao [.str w,.str (AO tk),fn,.ao (ar.map λr=>.str r.1)]:=⟨_,rfl⟩
 have i3:∀h,bN h p (.int 3)=some (.ao (ar.map λr=>.str r.1)):=λh=>by rw[hp];rfl
 have i1:∀h,bN h p (.int 1)=some (.str (AO tk)):=λh=>by rw[hp];rfl
 rw[<-hp];have tl:=sW ar 0;have s1:Ev (c8 (da true [none,none,none,some 0] (CY (rO (op2 bN (rd 1) (kI 3)))) (lM Qc (bnd (au (rd 3) (au (rd 2) (au (gw GA Q5) (aX [])))) (b8 0 3 (run txt (k+6) "arg_act"))))) (aU 2)) (S0 [some F,some p,none]) .nx ⟨[some F,some p,some (.ref 0)],[⟨.lst,(jF 0 ar).map kP⟩]⟩:=by
  refine aS (cN (sG (eV (b2 rfl rfl (i3 _)) rfl)) (by rw[vF,ak];lia) (Ff ar 0 (λr hr j hj=>?_) (by lia))) rfl
  have h:=Hw hF k hk (ha r hr) (ho r (ha r hr)) (sI j);exact e1 rfl (cU (cA rfl (cA rfl (cA (bV (cA rfl rfl) (Z0 _ j hj)) rfl))) rfl rfl h)
 obtain⟨L,hL⟩:∃L,L=(jF 0 ar++[pB]).map kP:=⟨_,rfl⟩
 have hLl:L.length<=100:=by rw[hL];simp[tl];lia
 have s2:Ev (gO (C5 "list" (jA (gW xh)) (rd 2) (au (aX (.ao [(.str "hand"),(.str ""),(.bl false),(.int 0),(.int 0),(.str "")])) (aX [])))) ⟨[some F,some p,some (.ref 0)],[⟨.lst,(jF 0 ar).map kP⟩]⟩ .nx ⟨[some F,some p,some (.ref 0)],[⟨.lst,L⟩]⟩:=by
  rw[hL,bQ];exact dS (yF rfl rfl (cA rfl rfl) (aC rfl (by rw[ak];lia)))
 have t0:Ek Qm ⟨[some F,some p,some (.ref 0)],[⟨.lst,L⟩]⟩ (AO tk==(Str.ofString "")):=bT (b2 (b2 rfl rfl (i1 _)) rfl (fE _ _ _));have nrL:ai L=true:=by rw[hL];exact Le _
 have add:∀q:cD,eE [⟨.lst,L⟩] (.ref 0) (.lst [kP q])=some (fj (jF 0 ar++pB::[q])):=λq=>by
  have e:eE [⟨.lst,L⟩] (.ref 0) (.lst [kP q])=sizeOk (L.length+1) (.lst (L++[kP q])):=rfl;rw[e];refine(if_pos (show L.length+1<=fq from by have:fq=4000000:=rfl;lia)).trans ?_
  rw[hL];simp[fj]
 cases tk with
 | none =>
  rw[show(AO none==(Str.ofString ""))=true by decide +kernel]at t0
  refine⟨_,_,jj (sq s1 (sq s2 (pV (iT t0 (rS rfl))))),?_⟩;rw[oH nrL,hL];rfl
 | some r =>
  obtain⟨g1,g2⟩:=ht r rfl;obtain⟨x,d⟩:=r;have i1:∀h,bN h p (.int 1)=some (.str x):=i1
  simp only at g2;have t2:Ek Qm ⟨[some F,some p,some (.ref 0)],[⟨.lst,L⟩]⟩ false:=bT (b2 (b2 rfl rfl (i1 _)) rfl (by rw[fE,g2]))
  have h1:=hF (k+5) _ g1;have h2:=gi (k+5) d;have nFx:ai [F,PV.str x]=true:=by simp[ai,hN,noRef]
  have t1:Ek (gf (bnd (au (bnd QB (b8 0 2 (run txt (k+6) "kind_of"))) (aX [])) (b8 0 1 (run txt (k+6) "is_holder")))) ⟨[some F,some p,some (.ref 0)],[⟨.lst,L⟩]⟩ (dA d):=tR (cU (cA (cU (cA rfl (cA (b2 rfl rfl (i1 _)) rfl)) rfl (by rw[nFx];rfl) h1) rfl) rfl (by simp[ai,ye]) h2) rfl
  cases d with
  | ho b s =>
   exact gV (sq s1 (sq s2 (sq (iF t2 rfl) (pV (iT t1 (rS (b2 rfl (lS (cA (tU (cA rfl (cA rfl (cA rfl (cA rfl (cA rfl (cA (b2 rfl rfl (i1 _)) rfl)))))) (by simp)) rfl) (by simp)) (add ⟨"take","",false,0,0,x⟩)))))))) (AG _)
  | ow s =>
   have h3:=eP hF (k+2) (by lia) "fill" "" g1 (ho _ g1)
   exact gV (sq s1 (sq s2 (sq (iF t2 rfl) (sq (iF t1 rfl) (rS (b2 rfl (lS (cA (cU (cA rfl (cA rfl (cA (b2 rfl rfl (i1 _)) (cA rfl rfl)))) rfl (by simp[ai,hN,noRef]) h3) rfl) (by simp)) (add (tA "fill" x (.ow s) (jE s) "")))))))) (AG _)
end
def jk(i:Nat)(a:cD):PV:=.ao [.int i,.str a.w,.str a.n,.bl a.t,.int a.f,.int a.m,.str a.k]
def dz:List cD->List cD
 | []=>[Fd]
 | a::r=>a::r
structure Lf (c:CT) (F p:PV) (as:List cD):Prop where
 ex:∃w fn rest,p=.ao (.str w::rest)/\jd.lookup w=some fn/\VA.lookup fn=some 2/\Gives (c fn [F,p] []) (fj as)
 few:as.length<=20
 nr:noRef p=true
theorem RE{as:List cD}(h:as.length<=20):(dz as).length<=20:=by
 cases as with
 | nil=>simp[dz]
 | cons a r=>exact h
theorem clF{fns:List (Str×Nat)}{tab:List (Str×Str)}{c:CT}{fk:Gx PV}{ts:Gx (List PV)}{s s1 s2:cx}{w fn:Str}{n:Nat}{as:List PV}{q:PV}(hk:Ev fk s (.str w) s1)(h1:tab.lookup w=some fn)(h2:fns.lookup fn=some n)(ha:Ev ts s1 as s2)(hl:as.length=n)(hn:(s2.h.isEmpty || ai as)=true)(hc:Gives (c fn as []) q):Ev (zQ fns c (J8 (λk=>(List.lookup k tab).map .fn) fk) ts) s q s2:=by
 obtain⟨p,h',e1,e2⟩:=hc;refine eB (eB hk (show(jK ((UH (.str w)).bind λk=>(List.lookup k tab).map PV.fn)) s1=some (.ok (.fn fn),s1)from ?_)) (eB (a:=(fn,n)) ?_ (eB ha ?_))
 ·show((List.lookup w tab).map PV.fn).map _=_;rw[h1];rfl
 ·show((fns.lookup fn).map _).map _=_;rw[h2];rfl
 ·unfold oj;rw[if_pos ⟨hl,hn⟩,e1];show(kO h' p).map _=_;rw[e2];rfl
theorem mkN(i:Nat)(a:cD)(h:List aq):eE h (.ao [.int (i:Int)]) (kP a)=some (jk i a):=aT (by simp)
theorem Hx{c:CT}{F p:PV}{as:List cD}(hN:noRef F=true)(M:Lf c F p as)(i:Nat)(ag:List PV)(hl:ag.length<=90000)(x0 x1 x6:Option PV):Ev (sy c) ⟨[x0,x1,some F,some (.ref 0),some (.int (i:Int)),some p,x6],[⟨.lst,ag⟩]⟩ .nx ⟨[x0,x1,some F,some (.ref 0),some (.int (i:Int)),some p,some (fj as)],[⟨.lst,ag++(dz as).map (jk i)⟩]⟩:=by
 obtain⟨w,fn,rest,rfl,h1,h2,h3⟩:=M.ex;have hf:=M.few;have hn:=M.nr;have i0:∀h,bN h (.ao (.str w::rest)) (.int 0)=some (.str w):=λh=>(show bN h (.ao (.str w::rest)) (.int 0)=L2.jJ (PV.str w::rest) ((0:Nat):Int)from rfl).trans (atI_nat rfl)
 refine sq (aS (clF (b2 rfl rfl (i0 _)) h1 h2 (cA rfl (cA rfl rfl)) rfl (by simp[ai,hN,hn]) h3) rfl) ?_
 have ho:Ek Qb ⟨[x0,x1,some F,some (.ref 0),some (.int (i:Int)),some (.ao (.str w::rest)),some (fj as)],[⟨.lst,ag⟩]⟩ (fj (dz as)):=by
  cases as with
  | nil=>rfl
  | cons a r=>rfl
 have hor:=RE hf;exact dS (yF rfl rfl (cA (cM (sV ho rfl) (by lia) λa _=>e1 rfl (b2 (tU (cA rfl rfl) (by simp)) rfl (mkN i a _))) rfl) (xC rfl rfl (by rw[ak];lia)))
def sX:Nat->List (List cD)->List PV
 | _,[]=>[]
 | i,as::r=>(dz as).map (jk i)++sX (i+1) r
theorem vG{c:CT}{F:PV}(hN:noRef F=true)(x0 x1:Option PV):∀(L:List (PV×List cD)) (i:Nat) (ag:List PV) (x4 x5 x6:Option PV),(∀q∈L,Lf c F q.1 q.2)->ag.length+20*L.length<=90000 ->
  ∃lX yG x6',cY (gC 2 Q7) (sy c) (d8 i (L.map (·.1))) ⟨[x0,x1,some F,some (.ref 0),x4,x5,x6],[⟨.lst,ag⟩]⟩=some (.ok .nx,⟨[x0,x1,some F,some (.ref 0),lX,yG,x6'],[⟨.lst,ag++sX i (L.map (·.2))⟩]⟩)
 | [],i,ag,x4,x5,x6,_,_=>⟨x4,x5,x6,by simp[sX];rfl⟩
 | (p,as)::L,i,ag,x4,x5,x6,h,hz=>by
  have M:=h (p,as) aE;have hor:=RE (as:=as) M.few;simp only[aK]at hz;obtain⟨lX,yG,x6',e⟩:=vG hN x0 x1 L (i+1) (ag++(dz as).map (jk i)) (some (.int (i:Int))) (some p) (some (fj as)) (λq hq=>h q (aF _ hq)) (by rw[aR,ak];lia)
  refine⟨lX,yG,x6',?_⟩;rw[cW]at e;exact fC rfl (Hx hN M i ag (by lia) x0 x1 x6) e
theorem AS:∀(L:List (List cD)) (i:Nat),∀p∈sX i L,∃j a,p=jk j a
 | [],i,p,h=>by simp[sX]at h
 | as::L,i,p,h=>by
  rw[sX,bh]at h;rcases h with h | h
  ·obtain⟨a,_,rfl⟩:=aM.mp h;exact⟨i,a,rfl⟩
  ·exact AS L (i+1) p h
theorem VG(L:List (List cD))(i:Nat):ai (sX i L)=true:=by
 have:∀l:List PV,(∀p∈l,noRef p=true)->ai l=true:=λl=>by
  induction l with
  | nil=>intro _;rfl
  | cons p l ih=>intro h;simp[ai,h p aE,ih λq hq=>h q (aF _ hq)]
 exact this _ λp hp=>by
  obtain⟨j,a,rfl⟩:=AS L i p hp;rfl
theorem VH{P F:PV}{at_:Int}{a b d e:PV}{L:List (PV×List cD)}(k:Nat)(hP:∀h,bN h P (.int at_)=some F)(hF:F=.ao [a,b,d,e,.ao (L.map (·.1))])(hN:noRef F=true)(hM:∀q∈L,Lf (run txt k) F q.1 q.2)(hl:L.length<=1000):Gives (run txt (k+1) "acts" [P,.int at_] []) (.lst (sX 0 (L.map (·.2)))):=by
 rw[K8];obtain⟨lX,yG,x6',q⟩:=vG hN (some P) (some (.int at_)) L 0 [] none none none hM (by simp;lia)
 have h4:∀h,bN h F (.int 4)=some (.ao (L.map (·.1))):=λh=>by rw[hF];rfl
 refine⟨_,_,jj (sq (aS (b2 rfl rfl (hP _)) rfl) (sq rfl (sq (fS (sG (eV (b2 rfl rfl (h4 _)) rfl)) q) (rS rfl)))),?_⟩;exact oH (VG _ _)
theorem sY{h:List aq}{n:Nat}{ps:List PV}(hc:h[n]?=some ⟨.lst,ps⟩)(hp:ai ps=true):kO h (.ref n)=some (.lst ps):=by
 have hne:h.isEmpty=false:=by
  cases h with
  | nil=>simp at hc
  | cons a r=>rfl
 unfold kO;rw[hne,if_neg c9];unfold o8;rw[if_neg (by simp[noRef])]
 show((h[n]?).bind _)=_;rw[hc,dn];show(if live ⟨.lst,ps⟩=true then(cJ (o8 h 3) ps).map (PV.nd .lst)else none)=_
 rw[if_pos (show live ⟨.lst,ps⟩=true from rfl),AQ ps hp]
 rfl
theorem Fg:∀t:eF,ai (t.map toldP)=true
 | []=>rfl
 | q::t=>by
  have:noRef (toldP q)=true:=by
   have h:∀l:List bz,ai (l.map si++[.int q.2])=true:=λl=>by
    induction l with
    | nil=>rfl
    | cons k l ih=>simp only[aI,qH,ai,K3,ih,Bool.and_self]
   simpa[toldP,noRef]using h q.1
  simp[ai,this,Fg t]
theorem VI{c:CT}{rs:(PV->Gx PV)->Nat->oi}{fe fb:Gx PV}{link:List (Option Nat)}{s s1:cx}{p:PV}{fk:List (List bz)}{res:eF}{gk:List bz->Option (List (List bz))}(h:Ev fe s p s1)(hp:p=.lst (fk.map dw)\/∃j,p=.ref j/\s1.h[j]?=some ⟨.lst,fk.map dw⟩)
  (hc:c "tell_new"=dQ Ar 5) (hrs:∀ω n,rs ω n=dQ (Vy c ω n) 5) (hk:∀f∈fk,f.length<1000) (hl:fk.length<4000000) (hs:gE gk vq 0 (dc [] (-1) fk)=some res)
  (hb:∀g fs,gk g=some fs->(∀f∈fs,f.length<1000)/\∀ag,∃Bn,fb ⟨some (dw g)::bK link s1.ρ,hS (s1.h++[mF]) ag⟩=some (.ok (.lst (fs.map dw)),⟨Bn,hS (s1.h++[mF]) ag⟩)) :
  Ev (Kc rs fe fb link) s (.ref (s1.h.length+1)) ⟨s1.ρ,hS (s1.h++[mF]) res⟩:=by
 refine eB h ?_;have hd:(s1.h++[mF]).length=s1.h.length+1:=by simp
 have r:=OZ (ω:=Ov fb (bK link s1.ρ)) (n:=s1.h.length) hc (λg fs e=>⟨(hb g fs e).1,λag ρ=>by
  obtain⟨Bn,e2⟩:=(hb g fs e).2 ag;show(fb ⟨some (dw g)::bK link s1.ρ,hS (s1.h++[mF]) ag⟩).bind _=_;rw[e2];rfl⟩) (hp.imp id λ⟨j,h1,h2⟩=>⟨j,h1,by rw[fJ (bM.mp h2).1];exact h2⟩) hk hl hs
 show(rs (Ov fb (bK link s1.ρ)) s1.h.length [p,.ref s1.h.length] (s1.h++[mF])).map _=_;rw[hrs,r,hd];rfl
def iN(n:Nat):PV:=.int (n:Int)
def nT(l:List Nat):PV:=.ao (l.map iN)
structure adQ (ls:List (List Nat)) (N:Nat):Prop where
 len:ls.length=N
 ok:∀l∈ls,l.length<=2/\∀m∈l,m<N
 pos:0<N
 few:N<128
theorem O8(k:Nat):run txt (k+1) "tell_new"=dQ Ar 5:=xO k
theorem VJ(k:Nat)(ω:PV->Gx PV)(n:Nat):dQ (WT txt sv (run txt k) ω n) 5=dQ (Vy (run txt k) ω n) 5:=by
 rw[DM];rfl
def eN(q:Nat×cD):PV:=jk q.1 q.2
def dZ:Nat->List (List cD)->List (Nat×cD)
 | _,[]=>[]
 | i,as::r=>(dz as).map (λa=>(i,a))++dZ (i+1) r
theorem mP:∀(L:List (List cD)) (i:Nat),sX i L=(dZ i L).map eN
 | [],_=>rfl
 | as::L,i=>by
  rw[sX,dZ,bQ,cX,mP L (i+1)];rfl
theorem mQ:∀(L:List (List cD)) (i:Nat),∀q∈dZ i L,i<=q.1/\q.1<i+L.length
 | [],_,_,h=>nomatch h
 | as::L,i,q,h=>by
  rw[dZ,bh]at h;rw[aK];rcases h with h | h
  ·obtain⟨a,_,rfl⟩:=aM.mp h;show i<=i/\i<i+(L.length+1)
   lia
  ·have:=mQ L (i+1) q h
   lia
theorem sZ:∀(L:List (List cD)) (i j:Nat),i<=j->j<i+L.length->∃a,(j,a)∈dZ i L
 | [],_,_,h1,h2=>by simp at h2;lia
 | as::L,i,j,h1,h2=>by
  rw[aK]at h2;by_cases e:j=i
  ·subst e;obtain⟨a,ha⟩:∃a,a∈dz as:=by
    cases as with
    | nil=>exact⟨Fd,aE⟩
    | cons a r=>exact⟨a,aE⟩
   exact⟨a,by rw[dZ];exact dR _ (aM.mpr ⟨a,ha,rfl⟩)⟩
  ·obtain⟨a,ha⟩:=sZ L (i+1) j (by lia) (by lia)
   exact⟨a,by rw[dZ];exact cV _ ha⟩
noncomputable def cu(kvs:List (bz×PV))(k:bz):Option PV:=(kvs.find? λkv=>decide (kv.1=k)).map (·.2)
def VL(N:Nat)(kvs:List (bz×PV)):Prop:=∀q∈kvs,∃m:Nat,q.2=.int (m:Int)/\m<N
theorem DU(kvs:List (bz×PV))(k:bz)(p:PV):(cu (kvs++[(k,p)]) k).isSome=true:=by
 unfold cu;rw[BV,List.find?_isSome];exact⟨(k,p),by simp,by simp⟩
theorem s9(kvs ms:List (bz×PV))(k:bz)(h:(cu kvs k).isSome=true):(cu (kvs++ms) k).isSome=true:=by
 unfold cu at h ⊢;rw[BV,List.find?_isSome]at h ⊢;obtain⟨x,h1,h2⟩:=h;exact⟨x,dR _ h1,h2⟩
theorem Lg{N:Nat}{kvs:List (bz×PV)}(h:VL N kvs){k:bz}(hk:(cu kvs k).isSome=true):∃m:Nat,cu kvs k=some (.int (m:Int))/\m<N:=by
 unfold cu at hk ⊢;cases e:kvs.find? λkv=>decide (kv.1=k)with
 | none=>rw[e]at hk;cases hk
 | some q =>
  obtain⟨m,h1,h2⟩:=h q (List.mem_of_find?_eq_some e);exact⟨m,by rw[gI,h1],h2⟩
def iA:List (Nat×cD)->Nat->List (bz×PV)->List (bz×PV)
 | [],_,kvs=>kvs
 | (j,_)::as,i,kvs=>match cu kvs (.inl (j:Int))with
  | some _=>iA as (i+1) kvs
  | none=>iA as (i+1) (kvs++[(.inl (j:Int),.int (i:Int))])
noncomputable def dC(kvs:List (bz×PV)):aq:=⟨.dU false (kvs.map λq=>[q.1]),kvs.map (·.2)⟩
theorem mR(k:bz):∀kvs:List (bz×PV),fH [k] (kvs.map λq=>[q.1]) (kvs.map (·.2))=cu kvs k
 | []=>rfl
 | q::kvs=>by
  have ih:=mR k kvs;unfold cu at ih ⊢;rw[aI,aI,fH];by_cases h:q.1=k
  ·rw[if_pos (by rw[h]),List.find?_cons_of_pos (by simpa using h)]
   rfl
  ·rw[if_neg (by simpa using h),List.find?_cons_of_neg (by simpa using h),ih]
theorem Fh(k:bz):∀kvs:List (bz×PV),j6 [k] (kvs.map λq=>[q.1])=(cu kvs k).isSome
 | []=>rfl
 | q::kvs=>by
  have ih:=Fh k kvs;unfold cu j6 at ih ⊢;rw[aI,i8];by_cases h:q.1=k
  ·rw[List.find?_cons_of_pos (by simpa using h),gp (by rw[h])]
   rfl
  ·rw[List.find?_cons_of_neg (by simpa using h),lx (by simpa using h),Bool.false_or,ih]
theorem Lh{ρ:List (Option PV)}{r:List aq}{kvs:List (bz×PV)}{j:Int}{y:PV}(hl:kvs.length<4000000):∃p,jA GO (.ref 0) [.int j,y] ⟨ρ,dC kvs::r⟩=some (.ok p,⟨ρ,(match cu kvs (.inl j)with | some _=>dC kvs | none=>dC (kvs++[(.inl j,y)]))::r⟩):=by
 have e:jA GO (.ref 0) [.int j,y] ⟨ρ,dC kvs::r⟩=(if(kvs.map λq=>[q.1]).length<fq then(if j6 [.inl j] (kvs.map λq=>[q.1])=true then(fH [.inl j] (kvs.map λq=>[q.1]) (kvs.map (·.2))).map λp=>(dC kvs,p)else some (⟨.dU false ((kvs.map λq=>[q.1])++[[.inl j]]),kvs.map (·.2)++[y]⟩,y))else none).map λr'=>(.ok r'.2,⟨ρ,(dC kvs::r).set 0 r'.1⟩):=rfl
 rw[e,if_pos (show(kvs.map λq=>[q.1]).length<fq by rw[ak];exact hl),Fh,mR]
 cases cu kvs (.inl j)with
 | some v=>exact⟨v,rfl⟩
 | none=>exact⟨y,by simp[dC]⟩
theorem mtD{w:PV->List PV->Gx PV}{fo:Gx PV}{ts:Gx (List PV)}{s s1 s2:cx}{n:Nat}{ks:List (List bz)}{t:Bool}{ps as:List PV}{r:Option (Rs PV×cx)}(h1:Ev fo s (.ref n) s1)(hc:s1.h[n]?=some ⟨.dU t ks,ps⟩)(h2:Ev ts s1 as s2)(h3:w (.ref n) as s2=r):C5 "dict" w fo ts s=r:=by
 refine eB h1 (eB (a:=()) ?_ (eB h2 h3));show((cm s1.h (.ref n)).bind _).map _=_;have e:cm s1.h (.ref n)=some (.dU t ks,ps):=by
  show(s1.h[n]?).bind _=_;rw[hc];rfl
 rw[e];rfl
theorem ik(c:CT)(P I A:PV):∀(as:List (Nat×cD)) (i:Nat) (kvs:List (bz×PV)) (x4 x5:Option PV),VL i kvs->kvs.length<=i->i+as.length<=90000 ->
  (∃lX yG,cY (gC 2 Q7) (vw c) (d8 i (as.map eN)) ⟨[some P,some I,some A,some (.ref 0),x4,x5,none],[dC kvs]⟩=some (.ok .nx,⟨[some P,some I,some A,some (.ref 0),lX,yG,none],[dC (iA as i kvs)]⟩))/\VL (i+as.length) (iA as i kvs)/\(∃ms,iA as i kvs=kvs++ms)/\∀q∈as,(cu (iA as i kvs) (.inl (q.1:Int))).isSome=true
 | [],i,kvs,x4,x5,h,_,_=>⟨⟨x4,x5,rfl⟩,h,⟨[],by simp[iA]⟩,λ_ z=>nomatch z⟩
 | (j,a)::as,i,kvs,x4,x5,h,hl,hz=>by
  rw[aK]at hz;have qU:gC 2 Q7 (zF (.int (i:Int)) (jk j a)) ⟨[some P,some I,some A,some (.ref 0),x4,x5,none],[dC kvs]⟩=some ⟨[some P,some I,some A,some (.ref 0),some (.int (i:Int)),some (jk j a),none],[dC kvs]⟩:=rfl;obtain⟨p,hp⟩:=Lh (kvs:=kvs) (by lia)
  have hb:Ev (vw c) ⟨[some P,some I,some A,some (.ref 0),some (.int (i:Int)),some (jk j a),none],[dC kvs]⟩ .nx ⟨[some P,some I,some A,some (.ref 0),some (.int (i:Int)),some (jk j a),none],[match cu kvs (.inl (j:Int))with | some _=>dC kvs | none=>dC (kvs++[(.inl (j:Int),.int (i:Int))])]⟩:=dS (mtD rfl rfl (cA (b2 rfl rfl rfl) (cA rfl rfl)) hp)
  cases e:cu kvs (.inl (j:Int))with
  | some v =>
   have ek:iA ((j,a)::as) i kvs=iA as (i+1) kvs:=by rw[iA,e]
   rw[e]at hb;obtain⟨⟨y4,y5,h1⟩,h2,⟨ms,h3⟩,h4⟩:=ik c P I A as (i+1) kvs (some (.int (i:Int))) (some (jk j a)) (λq hq=>by obtain⟨m,z1,z2⟩:=h q hq;exact⟨m,z1,by lia⟩) (by lia) (by lia)
   rw[ek];refine⟨⟨y4,y5,fC qU hb h1⟩,?_,⟨ms,h3⟩,λq hq=>?_⟩
   ·rw[aK,show i+(as.length+1)=i+1+as.length by lia];exact h2
   ·rcases aD.mp hq with rfl | hq
    ·rw[h3];exact s9 _ _ _ (by rw[e];rfl)
    ·exact h4 q hq
  | none =>
   have ek:iA ((j,a)::as) i kvs=iA as (i+1) (kvs++[(.inl (j:Int),.int (i:Int))]):=by rw[iA,e]
   rw[e]at hb;obtain⟨⟨y4,y5,h1⟩,h2,⟨ms,h3⟩,h4⟩:=ik c P I A as (i+1) (kvs++[(.inl (j:Int),.int (i:Int))]) (some (.int (i:Int))) (some (jk j a)) (λq hq=>by
    rcases bh.mp hq with hq | hq
    ·obtain⟨m,z1,z2⟩:=h q hq;exact⟨m,z1,by lia⟩
    ·rw[aB]at hq;subst hq;exact⟨i,rfl,by lia⟩) (by rw[aR];simp;lia) (by lia)
   rw[ek];refine⟨⟨y4,y5,fC qU hb h1⟩,?_,⟨(.inl (j:Int),.int (i:Int))::ms,by rw[h3];simp⟩,λq hq=>?_⟩
   ·rw[aK,show i+(as.length+1)=i+1+as.length by lia];exact h2
   ·rcases aD.mp hq with rfl | hq
    ·rw[h3];exact s9 _ _ _ (DU _ _ _)
    ·exact h4 q hq
def yl(c:CT)(rows:PV)(n:Nat)(nx:Nat->List Nat):Prop:=∀j:Nat,j<n->Gives (c "row_nexts" [rows,.int (j:Int)] []) (nT (nx j))/\(nx j).length<=2/\∀m∈nx j,m<n
def mT(kvs:List (bz×PV))(m:Nat):Nat:=match cu kvs (.inl (m:Int))with
 | some (.int v)=>v.toNat
 | _=>0
theorem AU{N:Nat}{kvs:List (bz×PV)}(h:VL N kvs){m:Nat} (hk:(cu kvs (.inl (m:Int))).isSome=true):cu kvs (.inl (m:Int))=some (.int (mT kvs m:Int))/\mT kvs m<N:=by
 obtain⟨v,h1,h2⟩:=Lg h hk;have e:mT kvs m=v:=by unfold mT;rw[h1];rfl
 rw[e];exact⟨h1,h2⟩
def kn(as:List (Nat×cD))(kvs:List (bz×PV))(nx:Nat->List Nat)(i:Nat)(q:Nat×cD):List Nat:=if as[i+1]?.map (·.1)=some q.1 then [i+1]else(nx q.1).map (mT kvs)
def H9(as:List (Nat×cD))(kvs:List (bz×PV))(nx:Nat->List Nat):Nat->List (Nat×cD)->List (List Nat)
 | _,[]=>[]
 | i,q::bs=>kn as kvs nx i q::H9 as kvs nx (i+1) bs
theorem oI(h:List aq)(i j:Int):gT h (.int i) (.int j)=some (.bl (i==j)):=rfl
theorem kC:∀l:List Nat,ai (l.map iN)=true
 | []=>rfl
 | n::l=>by simp[ai,iN,noRef,kC l]
section
variable {c:CT} {fs:List PV} {I:Int} {nm res rows:PV} {R1 R2:List Rk} {n:Nat} {as:List (Nat×cD)} {kvs:List (bz×PV)} {nx:Nat->List Nat}
theorem DV(hP:L2.jJ fs I=some (Bp nm res rows R1 R2))(hN:noRef rows=true)(hR:yl c rows n nx)(hk:VL as.length kvs) (hf:∀j:Nat,j<n->(cu kvs (.inl (j:Int))).isSome=true) (hl:as.length<=90000)
  (i:Nat) (q:Nat×cD) (hq:as[i]?=some q) (hr:∀q∈as,q.1<n) (ag:List PV) (ht:ag.length<=90000) :
  Ev (oC c) ⟨[some (.ao fs),some (.int I),some (.lst (as.map eN)),some (.ref 0),some (.int (i:Int)),some (eN q),some (.ref 1)],[dC kvs,⟨.lst,ag⟩]⟩ .nx ⟨[some (.ao fs),some (.int I),some (.lst (as.map eN)),some (.ref 0),some (.int (i:Int)),some (eN q),some (.ref 1)],[dC kvs,⟨.lst,ag++[nT (kn as kvs nx i q)]⟩]⟩/\(kn as kvs nx i q).length<=2/\∀m∈kn as kvs nx i q,m<as.length:=by
 have hi:i<as.length:=(bM.mp hq).1;obtain⟨s,hs⟩:∃s:cx,s=⟨[some (.ao fs),some (.int I),some (.lst (as.map eN)),some (.ref 0),some (.int (i:Int)),some (eN q),some (.ref 1)],[dC kvs,⟨.lst,ag⟩]⟩:=⟨_,rfl⟩
 rw[<-hs];have fx:Ev (toB (op2 Jw Qq Q8)) s (decide (((i:Int)+1)<(as.length:Int))) s:=by
  rw[hs];refine bT (b2 (y:=.int (as.length:Int)) rfl (bV (cA rfl rfl) ?_) rfl);show some (PV.int (((as.map eN).length:Nat):Int))=_;rw[ak]
 have go:∀b:Bool,Ev (dP (toB (op2 Jw Qq Q8)) (toB (op2 gT (op2 bN (op2 bN (rd 2) Qq) (kI 0)) Qi)) (aX false)) s b s->(b=true↔as[i+1]?.map (·.1)=some q.1) ->
   Ev (oC c) s .nx ⟨[some (.ao fs),some (.int I),some (.lst (as.map eN)),some (.ref 0),some (.int (i:Int)),some (eN q),some (.ref 1)],[dC kvs,⟨.lst,ag++[nT (kn as kvs nx i q)]⟩]⟩/\(kn as kvs nx i q).length<=2/\∀m∈kn as kvs nx i q,m<as.length:=λb hb h1=>by
  cases b with
  | true =>
   have h2:=h1.mp rfl;have h3:i+1<as.length:=by
    cases z:as[i+1]? with
    | none=>rw[z]at h2;cases h2
    | some _=>exact(bM.mp z).1
   have en:kn as kvs nx i q=[i+1]:=if_pos h2;rw[en];refine⟨iT hb ?_,by simp,λm hm=>by simp at hm;lia⟩
   rw[hs];exact dS (yF rfl rfl (cA (tU (cA (b2 rfl rfl rfl) rfl) (by simp)) rfl) (aC rfl (by lia)))
  | false =>
   obtain⟨r1,r2,r3⟩:=hR q.1 (hr q (dm hq));have en:kn as kvs nx i q=(nx q.1).map (mT kvs):=if_neg λz=>nomatch h1.mpr z
   rw[en];refine⟨iF hb ?_,by rw[ak];exact r2,λm hm=>?_⟩
   ·rw[hs];have iP:∀h,bN h (.ao fs) (.int I)=some (Bp nm res rows R1 R2):=λh=>hP
    refine dS (yF rfl rfl (cA (bV (cA (cM (G:=λm=>iN (mT kvs m)) (sV (cU (as:=[rows,.int (q.1:Int)]) (cA (b2 (b2 rfl rfl (iP _)) rfl rfl) (cA (b2 rfl rfl rfl) rfl)) rfl (by simp[ai,hN,noRef]) r1) rfl) (by lia) λm hm=>?_) rfl) ?_) rfl) (aC (n:=1) rfl (by lia)))
    ·refine e1 (rM:=[none,some (iN m),some (.ref 0)]) (h1:=[dC kvs,⟨.lst,ag⟩]) rfl (b2 (x:=.ref 0) (y:=.int (m:Int)) rfl rfl ?_);show fH [.inl (m:Int)] (kvs.map λq=>[q.1]) (kvs.map (·.2))=_
     rw[mR];exact(AU hk (hf m (r3 m hm))).1
    ·unfold nT;rw[cX];rfl
   ·obtain⟨x,hx,rfl⟩:=aM.mp hm;exact(AU hk (hf x (r3 x hx))).2
 by_cases h:i+1<as.length
 ·obtain⟨q',wL⟩:∃q',as[i+1]?=some q':=⟨_,bW h⟩
  refine go ((q'.1:Int)==(q.1:Int)) ?_ (by rw[wL];simp only[qM,gI,Option.some.injEq];lia)
  rw[gp (by lia)]at fx
  refine iT fx ?_;rw[hs];have ix:∀h,bN h (.lst (as.map eN)) (.int ((i:Int)+1))=some (eN q'):=λh=>atI_nat (xs:=as.map eN) (j:=i+1) (by rw[bH,wL];rfl)
  exact bT (b2 (x:=.int (q'.1:Int)) (y:=.int (q.1:Int)) (b2 (b2 rfl (b2 rfl rfl rfl) (ix _)) rfl rfl) (b2 rfl rfl rfl) (oI _ _ _))
 ·refine go false ?_ ⟨(λz=>nomatch z),λz=>by rw[jP (by lia)]at z;cases z⟩
  rw[lx (by lia)]at fx
  exact iF fx rfl
theorem td(hP:L2.jJ fs I=some (Bp nm res rows R1 R2))(hN:noRef rows=true)(hR:yl c rows n nx)(hk:VL as.length kvs) (hf:∀j:Nat,j<n->(cu kvs (.inl (j:Int))).isSome=true) (hl:as.length<=40000) (hr:∀q∈as,q.1<n):∀(bs pre:List (Nat×cD)) (ag:List PV) (x4 x5:Option PV),as=pre++bs->ag.length=pre.length ->
  ∃(lX yG:Option PV),cY (gC 2 Q7) (oC c) (d8 pre.length (bs.map eN)) ⟨[some (.ao fs),some (.int I),some (.lst (as.map eN)),some (.ref 0),x4,x5,some (.ref 1)],[dC kvs,⟨.lst,ag⟩]⟩=some (.ok .nx,⟨[some (.ao fs),some (.int I),some (.lst (as.map eN)),some (.ref 0),lX,yG,some (.ref 1)],[dC kvs,⟨.lst,ag++(H9 as kvs nx pre.length bs).map nT⟩]⟩)/\(H9 as kvs nx pre.length bs).length=bs.length/\∀l∈H9 as kvs nx pre.length bs,l.length<=2/\∀m∈l,m<as.length
 | [],pre,ag,x4,x5,_,_=>⟨x4,x5,by simp[H9];rfl,rfl,λ_ z=>nomatch z⟩
 | q::bs,pre,ag,x4,x5,e,ht=>by
  have CS:pre.length<=as.length:=by rw[e,aR];lia
  have hq:as[pre.length]?=some q:=by rw[e];simp
  obtain⟨h1,h3,h4⟩:=DV hP hN hR hk hf (by lia) pre.length q hq hr ag (by lia)
  obtain⟨y4,y5,h5,h6,h7⟩:=td hP hN hR hk hf hl hr bs (pre++[q]) (ag++[nT (kn as kvs nx pre.length q)]) (some (.int (pre.length:Int))) (some (eN q)) (by rw[e];simp) (by simp[ht])
  rw[show(pre++[q]).length=pre.length+1 by simp]at h5 h6 h7
  refine⟨y4,y5,?_,by simp[H9,h6],λx hx=>?_⟩
  ·rw[aI,d8,H9,aI,show ag++nT (kn as kvs nx pre.length q)::(H9 as kvs nx (pre.length+1) bs).map nT=ag++[nT (kn as kvs nx pre.length q)]++(H9 as kvs nx (pre.length+1) bs).map nT by simp]
   exact fC rfl h1 h5
  ·rcases aD.mp hx with rfl | hx
   ·exact⟨h3,h4⟩
   ·exact h7 x hx
end
def qo(L:List (List cD))(nx:Nat->List Nat):List (List Nat):=H9 (dZ 0 L) (iA (dZ 0 L) 0 []) nx 0 (dZ 0 L)
theorem Li:∀l:List (List Nat),ai (l.map nT)=true
 | []=>rfl
 | a::l=>by simp[ai,nT,noRef,kC,Li l]
theorem O9(k:Nat){fs:List PV}{I:Int}{nm res rows:PV}{R1 R2:List Rk}{L:List (List cD)}{nx:Nat->List Nat}(hP:L2.jJ fs I=some (Bp nm res rows R1 R2))(hN:noRef rows=true)(hA:Gives (run txt k "acts" [.ao fs,.int I] []) (.lst (sX 0 L)))(hR:yl (run txt k) rows L.length nx)(hz:(dZ 0 L).length<=40000) :
  Gives (run txt (k+1) "nexts" [.ao fs,.int I] []) (.lst ((qo L nx).map nT))/\(qo L nx).length=(dZ 0 L).length/\∀l∈qo L nx,l.length<=2/\∀m∈l,m<(dZ 0 L).length:=by
 rw[mP]at hA;obtain⟨⟨x4,x5,h1⟩,h2,-,h4⟩:=ik (run txt k) (.ao fs) (.int I) (.lst ((dZ 0 L).map eN)) (dZ 0 L) 0 [] none none (λ_ z=>nomatch z) (by simp) (by lia)
 rw[gr]at h2;obtain⟨y4,y5,g1,g2,g3⟩:=td hP hN hR h2 (λj hj=>by
  obtain⟨a,ha⟩:=sZ L 0 j (dI _) (by lia)
  exact h4 _ ha) hz (λq hq=>by have:=mQ L 0 q hq;lia) (dZ 0 L) [] [] x4 x5 rfl rfl
 refine⟨?_,g2,g3⟩;rw[Hk];rw[eW]at g1;refine⟨_,_,jj (sq (aS (cU (cA rfl (cA rfl rfl)) rfl rfl hA) rfl) (sq rfl (sq (fS (sG (eV rfl rfl)) h1) (sq rfl (sq (fS (sG (eV rfl rfl)) g1) (rS rfl)))))),?_⟩;exact sY rfl (Li _)
structure RF (n j:Nat) (p:PV):Prop where
 ok:∃s,(∀h,bN h p (.int 0)=some (.str s))/\((s==(Str.ofString "go"))=true->∃m:Nat,(∀h,bN h p (.int 1)=some (iN m))/\m<n)/\((s==(Str.ofString "if"))=true->∃m:Nat,(∀h,bN h p (.int 3)=some (iN m))/\m<n)/\((s==(Str.ofString "give"))=false->(s==(Str.ofString "go"))=false->j+1<n)
def two(a b:Int):List Int:=if b<a then [b,a]else if a<b then [a,b]else [a]
theorem Lj(a b:Int):mI (om (λi=>[a,b].getD i 0) 2)=two a b:=by
 have e:om (λi=>[a,b].getD i 0) 2=if b=a then [a]else [a,b]:=by
  show kW (kW [] a) b=_;unfold kW;by_cases h:b=a
  ·simp[h]
  ·simp[h]
 rw[e];unfold two;by_cases h1:b<a
 ·rw[if_pos h1,if_neg (by lia)]
  show(if a<=b then [a,b]else [b,a])=_
  rw[if_neg (by lia)]
 ·rw[if_neg h1];by_cases h2:a<b
  ·rw[if_pos h2,if_neg (by lia)]
   show(if a<=b then [a,b]else [b,a])=_
   rw[if_pos (by lia)]
  ·rw[if_neg h2,if_pos (by lia)]
   rfl
noncomputable def uJ(a b:Nat):List Nat:=if b<a then [b,a]else if a<b then [a,b]else [a]
theorem Z1(a b:Nat):two (a:Int) (b:Int)=(uJ a b).map λn:Nat=>(n:Int):=by
 unfold two uJ;by_cases h1:b<a
 ·rw[if_pos (by lia),if_pos h1];rfl
 ·rw[if_neg (by lia),if_neg h1]
  by_cases h2:a<b
  ·rw[if_pos (by lia),if_pos h2];rfl
  ·rw[if_neg (by lia),if_neg h2];rfl
def cell(ns:List Int)(i:Nat):Int:=ns.getD i 0
theorem DW(k:Nat)(ns:List Int)(i:Nat):Gives (run txt (k+1) "_law_cell_at" [qj ns,.int (i:Int)] []) (.int (cell ns i)):=by
 rw[xU];have ln:gv [] [qj ns]=some (.int (ns.length:Int)):=by
  show some (PV.int (((ns.map PV.int).length:Nat):Int))=_;rw[ak]
 have t:Ek (toB (op2 Jw (rd 1) (gw gv (au (rd 0) (aX []))))) (S0 [some (qj ns),some (.int (i:Int))]) (decide ((i:Int)<(ns.length:Int))):=bT (b2 rfl (bV (cA rfl rfl) ln) rfl);by_cases h:i<ns.length
 ·rw[gp (by lia)]at t
  have ix:∀h,bN h (qj ns) (.int (i:Int))=some (.int (cell ns i)):=λ_=>atI_nat (by rw[bH,bW h];simp[cell,h])
  exact gV (pV (iT t (rS (b2 rfl rfl (ix _))))) rfl
 ·rw[lx (by lia)]at t
  have:cell ns i=0:=by simp[cell,List.getD,jP (B2 h)]
  rw[this];exact gV (sq (iF t rfl) (rS rfl)) rfl
theorem cR{h:List aq}{i j:Int}(hj:0<j):fO h (.int i) (.int j)=some (.int (i%j)):=if_pos (gp hj)
theorem vH{h:List aq}{i j:Int}(hj:0<j/\j<1073741824):hZ h (.int i) (.int j)=some (.int (i/j)):=if_pos (gp hj)
theorem AV{h:List aq}{i j:Int}(hj:(-Et<i/\i<Et)\/(-Et<j/\j<Et)):uh h (.int i) (.int j)=some (.int (i*j)):=if_pos (gp hj)
noncomputable def mxA:Nat->Int×Int
 | 0=>(48271,2147483647)
 | 1=>(69621,998244353)
 | 2=>(40692,1000000007)
 | _=>(16807,2147483629)
def AW(c:Int)(i:Nat):Int:=(c%1000000000039+(i:Int))*(mxA i).1%(mxA i).2
theorem jl(k:Nat)(c:Int){i:Nat}(hi:i<4):Gives (run txt (k+1) "_law_mixed" [.int c,.int (i:Int)] []) (.int (AW c i)):=by
 rw[DD];have hm:∀h,fO h (.int c) (.int 1000000000039)=some (.int (c%1000000000039)):=λ_=>cR (by decide)
 match i,hi with
 | 0,_=>exact gV (sq (aS rfl rfl) (rS (b2 (b2 (b2 (b2 rfl rfl (hm _)) rfl rfl) rfl (AV (.inr (by decide)))) rfl (cR (by decide))))) rfl
 | 1,_=>exact gV (sq (aS rfl rfl) (rS (b2 (b2 (b2 (b2 rfl rfl (hm _)) rfl rfl) rfl (AV (.inr (by decide)))) rfl (cR (by decide))))) rfl
 | 2,_=>exact gV (sq (aS rfl rfl) (rS (b2 (b2 (b2 (b2 rfl rfl (hm _)) rfl rfl) rfl (AV (.inr (by decide)))) rfl (cR (by decide))))) rfl
 | 3,_=>exact gV (sq (aS rfl rfl) (rS (b2 (b2 (b2 (b2 rfl rfl (hm _)) rfl rfl) rfl (AV (.inr (by decide)))) rfl (cR (by decide))))) rfl
 | n+4,h=>lia
noncomputable def cp(n:Int):Nat:=97+(n%26).toNat
def lt(n:Int):Str:=⟨#[cp n]⟩
def eQ(l:List Nat):Str:=⟨l.toArray⟩
theorem vI{a b:List Nat}(h:eQ a=eQ b):a=b:=by
 have:a.toArray=b.toArray:=dB Str.cps h;simpa using this
theorem DX(a b:List Nat):eQ a++eQ b=eQ (a++b):=by
 show Str.append _ _=_;unfold Str.append eQ;simp
theorem Z2(n:Int):lt n=eQ [cp n]:=rfl
theorem Fi:(Str.ofString "")=eQ []:=by decide +kernel
theorem Fj(l:List Nat):(eQ l).length=l.length:=by
 unfold eQ Str.length;simp
theorem DY:∀m:Fin 26,L2.jJ (Str.ofString "abcdefghijklmnopqrstuvwxyz").cps.toList ((m:Nat):Int)=some (97+(m:Nat)):=by decide +kernel
theorem Hy(h:List aq)(n:Int):bN h (.str "abcdefghijklmnopqrstuvwxyz") (.int (n%26))=some (.str (lt n)):=by
 have h0:=jU n (show(26:Int)≠0 by decide)
 have h1:=qB n (show(0:Int)<26 by decide)
 obtain⟨m,hm⟩:=Int.eq_ofNat_of_zero_le h0;have:=DY ⟨m,by lia⟩
 show(if(Str.ofString "abcdefghijklmnopqrstuvwxyz").length<=fq then(L2.jJ (Str.ofString "abcdefghijklmnopqrstuvwxyz").cps.toList (n%26)).map λc=>PV.str ⟨#[c]⟩else none)=_
 rw[if_pos (by decide +kernel),hm,this]
 show some (PV.str ⟨#[97+m]⟩)=some (PV.str ⟨#[cp n]⟩);unfold cp;rw[hm,er]
theorem VM{a b:Int}(h:cp a=cp b):a%26=b%26:=by
 unfold cp at h;have h0:=jU a (show(26:Int)≠0 by decide)
 have h1:=jU b (show(26:Int)≠0 by decide)
 lia
abbrev WY:PV:=.str "abcdefghijklmnopqrstuvwxyz"
def My(B:List Int)(pl q i:Nat):Nat:=cp (B.getD i 0+(q:Int)*(if i=pl then 1 else 0))
def DZ(B:List Int)(pl q:Nat):Str:=eQ ((List.range B.length).map (My B pl q))
def nk(i:Nat):PV:=.int (0+(i:Int))
theorem mU{ts:Gx (List PV)}{s s1:cx}{j:Nat}(h:Ev ts s [iN j] s1)(hj:j<=4000000):Ev (CY (uj xj ts)) s (.sq ((List.range j).map nk)) s1:=by
 refine sG (eB h ?_);show Option.map _ (if Og 0 (j:Int)=true then some (JR 0 (j:Int).toNat)else none)=_
 rw[if_pos (by unfold Og;rw[nF];lia),er]
 rfl
section
variable (c:CT) (x0 x1:Option PV) (B:List Int) (pl q:Nat)
def nS(x0 x1:Option PV)(B:List Int)(pl:Nat)(x5 x8 x9:Option PV)(F:List PV):cx:=⟨[x0,x1,some WY,some (iN B.length),some (iN pl),x5,some (.lst (B.map .int)),some (.ref 0),x8,x9],[⟨.lst,F⟩]⟩
theorem AX(F:List PV)(i:Nat)(hi:i<B.length)(N:List Nat)(hN:N.length<=100)(hq:q<=100):Ev (sJ c) (nS x0 x1 B pl (some (nk i)) (some (nk q)) (some (.str (eQ N))) F) .nx (nS x0 x1 B pl (some (nk i)) (some (nk q)) (some (.str (eQ (N++[My B pl q i])))) F):=by
 have e0:∀j:Nat,nk j=iN j:=λj=>by unfold nk iN;rw[lB]
 rw[e0,e0];have hb:∀h,bN h (.lst (B.map PV.int)) (.int (i:Int))=some (.int (B.getD i 0)):=λ_=>atI_nat (by rw[bH,Bw,bW hi];rfl)
 have he:∀h,Gz h [.bl ((i:Int)==(pl:Int))]=some (.int (if i=pl then 1 else 0)):=λh=>by
  by_cases hh:i=pl
  ·rw[if_pos hh,hh,nH];rfl
  ·rw[if_neg hh,show((i:Int)==(pl:Int))=false by rw[fK];lia];rfl
 have hm:∀h,uh h (.int (q:Int)) (.int (if i=pl then 1 else 0))=some (.int ((q:Int)*(if i=pl then 1 else 0))):=λh=>AV (.inr (by split<;>decide))
 have hs:∀h,eE h (.str (eQ N)) (.str (lt (B.getD i 0+(q:Int)*(if i=pl then 1 else 0))))=some (.str (eQ (N++[My B pl q i]))):=λh=>by
  have e:eE h (.str (eQ N)) (.str (lt (B.getD i 0+(q:Int)*(if i=pl then 1 else 0))))=sizeOk ((eQ N).length+(lt (B.getD i 0+(q:Int)*(if i=pl then 1 else 0))).length) (.str (eQ N++lt (B.getD i 0+(q:Int)*(if i=pl then 1 else 0)))):=rfl
  rw[e,Z2,DX,Fj,Fj];exact if_pos (show N.length+1<=fq by have:fq=4000000:=rfl;lia)
 exact aS (b2 rfl (b2 rfl (b2 (b2 (b2 rfl rfl (hb _)) (b2 rfl (bV (cA (b2 rfl rfl (oI _ _ _)) rfl) (he _)) (hm _)) rfl) rfl (cR (by decide))) (Hy _ _)) (hs _)) rfl
theorem pG(F:List PV)(hq:q<=100):∀(Bo pre:List Nat) (x5:Option PV),List.range B.length=pre++Bo->B.length<=50->∃yG,cY (aU 5) (sJ c) (Bo.map nk) (nS x0 x1 B pl x5 (some (nk q)) (some (.str (eQ (pre.map (My B pl q))))) F)=some (.ok .nx,nS x0 x1 B pl yG (some (nk q)) (some (.str (DZ B pl q))) F)
 | [],pre,x5,e,_=>⟨x5,by unfold DZ;rw[e,dq];rfl⟩
 | i::Bo,pre,x5,e,hl=>by
  have hi:i<B.length:=gq.mp (by rw[e];simp)
  have hp:pre.length<=B.length:=by
   have:=dB List.length e;rw[iZ,aR]at this
   lia
  have hb:=AX c x0 x1 B pl q F i hi (pre.map (My B pl q)) (by rw[ak];lia) hq
  obtain⟨yG,h⟩:=pG F hq Bo (pre++[i]) (some (nk i)) (by rw[e];simp) hl
  rw[bQ]at h;exact⟨yG,fC rfl hb h⟩
theorem Hz(F:List PV)(hF:F.length<=100)(hq:q<=100)(hl:B.length<=50)(x5 x9:Option PV):∃yG,Ev (sL c) (nS x0 x1 B pl x5 (some (nk q)) x9 F) .nx (nS x0 x1 B pl yG (some (nk q)) (some (.str (DZ B pl q))) (F++[.str (DZ B pl q)])):=by
 obtain⟨yG,h⟩:=pG c x0 x1 B pl q F hq (List.range B.length) [] x5 rfl hl;refine⟨yG,sq (s1:=nS x0 x1 B pl x5 (some (nk q)) (some (.str (eQ []))) F) (by rw[<-Fi];rfl) (sq (fS (mU rfl (by lia)) h) (dS (yF rfl rfl (cA rfl rfl) (aC rfl (by lia)))))⟩
end
theorem tf(c:CT)(x0 x1:Option PV)(B:List Int)(pl:Nat)(hl:B.length<=50):∀(qs:List Nat) (F:List PV) (x5 x8 x9:Option PV),(∀q∈qs,q<=100)->F.length+qs.length<=100->∃yG x8' x9',cY (aU 8) (sL c) (qs.map nk) (nS x0 x1 B pl x5 x8 x9 F)=some (.ok .nx,nS x0 x1 B pl yG x8' x9' (F++qs.map λq=>.str (DZ B pl q)))
 | [],F,x5,x8,x9,_,_=>⟨x5,x8,x9,by simp;rfl⟩
 | q::qs,F,x5,x8,x9,hq,hz=>by
  rw[aK]at hz;obtain⟨y5,h⟩:=Hz c x0 x1 B pl q F (by lia) (hq q aE) hl x5 x9
  obtain⟨z5,z8,z9,h2⟩:=tf c x0 x1 B pl hl qs (F++[.str (DZ B pl q)]) y5 (some (nk q)) (some (.str (DZ B pl q))) (λr hr=>hq r (aF _ hr)) (by simp;lia)
  refine⟨z5,z8,z9,?_⟩;rw[aI,aI,show F++PV.str (DZ B pl q)::qs.map (λq=>PV.str (DZ B pl q))=F++[PV.str (DZ B pl q)]++qs.map (λq=>PV.str (DZ B pl q)) by simp]
  exact fC rfl h h2
theorem Pa{B:List Int}{pl q q':Nat}(hp:pl<B.length)(h1:q<26)(h2:q'<26)(h:DZ B pl q=DZ B pl q'):q=q':=by
 have h:=vI h;have at_:∀q:Nat,((List.range B.length).map (My B pl q))[pl]?=some (cp (B.getD pl 0+(q:Int))):=λq=>by
  rw[bH,nz hp];simp[My]
 have e:=dB (λl=>l[pl]?) h
 simp only[at_]at e;have:=VM (cz e)
 lia
noncomputable def ym(C:Int):Nat:=(1+C%8).toNat
def Ia(C:Int):List Int:=(List.range (ym C)).map fun(i:Nat)=>(C/(64+9*(i:Int)*i)+5*(i:Int))%26
def Lk(C:Int):Nat:=(C/8%(ym C:Int)).toNat
theorem mV(C:Int):(Ia C).length=ym C:=by simp[Ia]
theorem tj(C:Int):1<=ym C/\ym C<=8/\(ym C:Int)=1+C%8:=by unfold ym;lia
theorem Ll(C:Int):Lk C<(Ia C).length/\(Lk C:Int)=C/8%(ym C:Int):=by
 have h:=tj C;have h0:=jU (C/8) (show(ym C:Int)≠0 by lia)
 have h1:=qB (C/8) (show(0:Int)<(ym C:Int) by lia)
 rw[mV];unfold Lk
 lia
def gY(C:Int)(q:Nat):Str:=DZ (Ia C) (Lk C) q
theorem Pb{C:Int}{q q':Nat}(h1:q<26)(h2:q'<26)(h:gY C q=gY C q'):q=q':=Pa (Ll C).1 h1 h2 h
theorem Lm(C:Int)(q:Nat):(gY C q==(Str.ofString ""))=false:=by
 rw[Fi,fK];intro h;have:=dB List.length (vI h);rw[ak,iZ,mV]at this;have:=tj C;simp at *
 lia
theorem HA(C:Int)(x1 x2 x4 x5 x6 x7 x8 x9:Option PV):Ek (da false [none,none,some 0] (CY (uj xj Qe)) (lM (aU 1) (op2 fO (op2 eE (op2 hZ (rd 2) (op2 eE (kI 64) (op2 uh (op2 uh (kI 9) (rd 1)) (rd 1)))) (op2 uh (kI 5) (rd 1))) (kI 26)))) (S0 [some (.int C),x1,x2,some (iN (ym C)),x4,x5,x6,x7,x8,x9]) (.lst ((Ia C).map .int)):=by
 have hl:=tj C;unfold Ia;rw[cX];refine cM (mU (cA rfl rfl) (by lia)) (by rw[iZ];lia) λi hi=>?_
 have hi:=gq.mp hi;have hi7:i<=7:=by lia
 have e0:nk i=iN i:=by unfold nk iN;rw[lB]
 rw[e0];have hB:Et=18446744073709551616\/1000<Et:=by right;decide
 have h9:∀h,uh h (.int 9) (.int (i:Int))=some (.int (9*(i:Int))):=λ_=>AV (.inl (by decide))
 have hsq:0<=9*(i:Int)*i/\9*(i:Int)*i<=441:=by
  have:i=0\/i=1\/i=2\/i=3\/i=4\/i=5\/i=6\/i=7:=by lia
  rcases this with rfl | rfl | rfl | rfl | rfl | rfl | rfl | rfl<;>simp
 have hmm:∀h,uh h (.int (9*(i:Int))) (.int (i:Int))=some (.int (9*(i:Int)*i)):=λ_=>AV (.inr (by
  have:i=0\/i=1\/i=2\/i=3\/i=4\/i=5\/i=6\/i=7:=by lia
  rcases this with rfl | rfl | rfl | rfl | rfl | rfl | rfl | rfl<;>decide))
 have h5:∀h,uh h (.int 5) (.int (i:Int))=some (.int (5*(i:Int))):=λ_=>AV (.inl (by decide))
 exact e1 rfl (b2 (b2 (b2 rfl (b2 rfl (b2 (b2 rfl rfl (h9 _)) rfl (hmm _)) rfl) (vH (by lia))) (b2 rfl rfl (h5 _)) rfl) rfl (cR (by decide)))
def nmL(C:Int)(n:Nat):List PV:=(List.range n).map λq=>.str (gY C q)
theorem gd{α:Type}(f:α->Str):∀l:List α,ai (l.map λa=>PV.str (f a))=true
 | []=>rfl
 | _::l=>by rw[aI];simp[ai,noRef,gd f l]
theorem Pc(k:Nat)(C:Int)(n:Nat)(hn:n<=26):Gives (run txt (k+1) "_law_names" [.int C,iN n] []) (.lst (nmL C n)):=by
 have hl:=tj C;have hp:=Ll C;rw[DE];obtain⟨x5,x8,x9,h⟩:=tf (run txt k) (some (.int C)) (some (iN n)) (Ia C) (Lk C) (by rw[mV];lia) (List.range n) [] none none none (λq hq=>by have:=gq.mp hq;lia) (by simp;lia)
 rw[eW]at h;have a1:Ev (c8 (op2 eE (kI 1) (op2 fO (rd 0) (kI 8))) (aU 3)) (S0 [some (.int C),some (iN n),some WY,none,none,none,none,none,none,none]) .nx (S0 [some (.int C),some (iN n),some WY,some (iN (ym C)),none,none,none,none,none,none]):=by
  have e:iN (ym C)=.int (1+C%8):=by unfold iN;rw[hl.2.2]
  rw[e];exact aS (b2 rfl (b2 rfl rfl (cR (by decide))) rfl) rfl
 have a2:Ev (c8 (op2 fO (op2 hZ (rd 0) (kI 8)) (rd 3)) (aU 4)) (S0 [some (.int C),some (iN n),some WY,some (iN (ym C)),none,none,none,none,none,none]) .nx (S0 [some (.int C),some (iN n),some WY,some (iN (ym C)),some (iN (Lk C)),none,none,none,none,none]):=by
  have e:iN (Lk C)=.int (C/8%(ym C:Int)):=by unfold iN;rw[hp.2]
  rw[e];exact aS (b2 (b2 rfl rfl (vH (by decide))) rfl (cR (by lia))) rfl
 have hh:nS (some (.int C)) (some (iN n)) (Ia C) (Lk C) none none none []=⟨[some (.int C),some (iN n),some WY,some (iN (ym C)),some (iN (Lk C)),none,some (.lst ((Ia C).map .int)),some (.ref 0),none,none],[⟨.lst,[]⟩]⟩:=by unfold nS;rw[mV]
 rw[hh]at h;refine⟨.ref 0,[⟨.lst,nmL C n⟩],?_,oH (gd _ _)⟩;refine jj (sq rfl (sq a1 (sq a2 (sq (aS (HA C _ _ _ _ _ _ _ _) rfl) (sq rfl (sq (fS (mU (cA rfl rfl) (by lia)) h) (rS rfl)))))))
noncomputable def iw(c:Int):Sh:=match(c%7).toNat with
 | 0=>.br [.num,.num]
 | 1=>.own
 | 2=>.bJ (1+c/7%8)
 | 3=>.num
 | 4=>.br [.num,.own]
 | 5=>.br [.bJ (1+c/7%8),.own]
 | _=>.br [.br [.num,.num],.bJ (1+c/7%8)]
theorem Pd(k:Nat)(c:Int):Gives (run txt (k+1) "_law_shape" [.int c] []) (enc (iw c)):=by
 rw[DF];obtain⟨n,hn⟩:∃n,n=1+c/7%8:=⟨_,rfl⟩
 have a1:Ev (c8 (lJ .ao (au (kS "strip") (au (op2 eE (kI 1) (op2 fO (op2 hZ (rd 0) (kI 7)) (kI 8))) (aX [])))) (aU 1)) (S0 [some (.int c),none,none,none]) .nx (S0 [some (.int c),some (enc (.bJ n)),none,none]):=by
  rw[hn];exact aS (tU (cA rfl (cA (b2 rfl (b2 (b2 rfl rfl (vH (by decide))) rfl (cR (by decide))) rfl) rfl)) (by simp)) rfl
 have hi:∀h,bN h (.lst (bR [.br [.num,.num],.own,.bJ n,.num,.br [.num,.own],.br [.bJ n,.own]]++bR [.br [.br [.num,.num],.bJ n]])) (.int (c%7))=some (enc (iw c)):=λh=>by
  have:c%7=0\/c%7=1\/c%7=2\/c%7=3\/c%7=4\/c%7=5\/c%7=6:=by lia
  unfold iw;rcases this with h | h | h | h | h | h | h<;>rw[h,hn]<;>rfl
 exact gV (sq a1 (sq rfl (sq rfl (rS (b2 (b2 rfl rfl (aL (by simp[bR]))) (b2 rfl rfl (cR (by decide))) (hi _)))))) (dv _)
def jG(r:Rw):PV:=.ao [.ao (r.1.map .int),enc r.2.2.2]
theorem yn:∀l:List Int,ai (l.map PV.int)=true
 | []=>rfl
 | _::l=>by rw[aI];simp[ai,noRef,yn l]
theorem Z3(r:Rw):noRef (jG r)=true:=by simp[jG,noRef,ai,yn,dv]
theorem RG:∀l:List Rw,ai (l.map jG)=true
 | []=>rfl
 | r::l=>by rw[aI];simp[ai,Z3,RG l]
theorem AY(i:Nat)(a:Int)(s:Sh)(r:List Sh):tabs i a (s::r)=(tab s).map (mL i a)++tabs (i+1) (a+sz s) r:=rfl
theorem tu(c:CT)(S:Option PV):∀(Bo:List Sh) (i:Nat) (acc:List Rw) (a:Int) (o2 o3:Option PV),(∀s∈Bo,Gives (c "_law_parts" [enc s] []) (.lst ((tab s).map jG)))->acc.length+gX Bo<=1000 ->
  ∃VN VO,cY (gC 2 Q3) (sM c) (d8 i (bR Bo)) (S0 [S,some (.lst (acc.map jG)),o2,o3])=some (.ok .nx,S0 [S,some (.lst ((acc++tabs i a Bo).map jG)),VN,VO])
 | [],i,acc,a,o2,o3,_,_=>⟨o2,o3,by simp[bR,d8,tabs];rfl⟩
 | s::Bo,i,acc,a,o2,o3,h,hz=>by
  have h1:=h s aE;simp only[gX]at hz;obtain⟨VN,VO,e⟩:=tu c S Bo (i+1) (acc++(tab s).map (mL i a)) (a+sz s) (some (.int (i:Int))) (some (enc s)) (λs hs=>h s (aF _ hs)) (by rw[aR,ak];lia)
  refine⟨VN,VO,?_⟩;rw[AY,<-cW];have hp:∀r∈tab s,r.1.length<=1000:=λr hr=>by have:=E4 s r hr;have:=RB s;lia
  have body:Ev (sM c) (S0 [S,some (.lst (acc.map jG)),some (.int (i:Int)),some (enc s)]) .nx (S0 [S,some (.lst ((acc++(tab s).map (mL i a)).map jG)),some (.int (i:Int)),some (enc s)]):=by
   rw[bQ,cX];refine aS (b2 rfl (cM (sV (cU rfl rfl rfl h1) rfl) (by lia) λr hr=>?_) (aL (by simp only[ak];lia))) rfl
   have hl:=hp r hr;exact e1 rfl (tU (cA (b2 rfl rfl (aT (by simp only[aK,wj,ak];lia))) (cA rfl rfl)) (by simp))
  exact fC rfl body e
theorem Ln(h:List aq)(s:Sh):gT h (.str (WV s)) (.str "rec")=some (.bl (!ir s)):=by cases s<;>rfl
theorem pH(s:Sh)(x1 x2 x3:Option PV):Ev (c8 (lJ .lst (au (lJ .ao (au (lJ .ao (aX [])) (au (rd 0) (aX [])))) (aX []))) (aU 1)) (S0 [some (enc s),x1,x2,x3]) .nx (S0 [some (enc s),some (.lst [jG ([],0,sz s,s)]),x2,x3]):=rfl
theorem lU(k:Nat){s:Sh}(h:ir s=true):Gives (run txt (k+1) "_law_parts" [enc s] []) (.lst ((tab s).map jG)):=by
 rw[sN];have he:=Ln [] s;rw[h]at he;rw[KY h];exact gV (sq (pH s none none none) (sq (iF (bT (b2 (b2 rfl rfl (pA _ s)) rfl he)) rfl) (rS rfl))) (by simp[noRef,ai,Z3])
theorem HB(k:Nat){ps:List Sh} (h:∀s∈ps,Gives (run txt k "_law_parts" [enc s] []) (.lst ((tab s).map jG))) (hl:gX ps<=900):Gives (run txt (k+1) "_law_parts" [enc (.br ps)] []) (.lst ((tab (.br ps)).map jG)):=by
 rw[sN];have he:=Ln [] (.br ps);obtain⟨o2,o3,e⟩:=tu (run txt k) (some (enc (.br ps))) ps 0 [([],0,sz (.br ps),.br ps)] 0 none none h (by simp;lia)
 have ht:tab (.br ps)=[([],0,sz (.br ps),.br ps)]++tabs 0 0 ps:=by simp[tab,sz,lv]
 rw[ht];exact gV (sq (pH (.br ps) none none none) (sq (iT (bT (b2 (b2 rfl rfl (pA _ (.br ps))) rfl he)) (fS (sG (eV (b2 rfl rfl (by simp only[enc];rfl)) rfl)) e)) (rS rfl))) (RG _)
mutual
theorem yo:∀(s:Sh) (k:Nat),dp s<=k->(tab s).length<=900->Gives (run txt (k+1) "_law_parts" [enc s] []) (.lst ((tab s).map jG))
 | .num,k,_,_=>lU k rfl
 | .own,k,_,_=>lU k rfl
 | .bJ n,k,_,_=>lU k rfl
 | .br ps,0,hd,_=>by simp[dp]at hd
 | .br ps,k+1,hd,hz=>by
  have hl:(tab (.br ps)).length=gX ps+1:=by simp only[tab,aK,gh]
  have wF:pd ps<=k:=by simp only[dp]at hd;lia
  exact HB (k+1) (λs hs=>AZ ps k wF (by lia) s hs) (by lia)
theorem AZ:∀(ps:List Sh) (k:Nat),pd ps<=k->gX ps<=900->∀s∈ps,Gives (run txt (k+1) "_law_parts" [enc s] []) (.lst ((tab s).map jG))
 | [],_,_,_,s,hs=>by cases hs
 | p::r,k,hd,hz,s,hs=>by
  simp only[pd]at hd;simp only[gX]at hz;rcases aD.mp hs with e | e
  ·rw[e];exact yo p k (by lia) (by lia)
  ·exact AZ r k (by lia) (by lia) s e
end
mutual
theorem Fl:∀(s:Sh),∀r∈tab s,(tab r.2.2.2).length<=(tab s).length
 | .num,r,h=>by simp[tab]at h;subst h;simp[tab]
 | .own,r,h=>by simp[tab]at h;subst h;simp[tab]
 | .bJ n,r,h=>by simp[tab]at h;subst h;simp[tab]
 | .br ps,r,h=>by
  have hl:(tab (.br ps)).length=gX ps+1:=by simp only[tab,aK,gh]
  simp only[tab,aD]at h;rcases h with rfl | h
  ·exact ay _
  ·have:=vJ ps 0 0 r h
   lia
theorem vJ:∀(l:List Sh) (k:Nat) (a:Int),∀r∈tabs k a l,(tab r.2.2.2).length<=gX l
 | [],_,_,r,h=>by simp[tabs]at h
 | s::l,k,a,r,h=>by
  simp only[tabs,bh,aM]at h;simp only[gX];rcases h with⟨r0,h0,rfl⟩ | h
  ·have:=Fl s r0 h0;simp only[mL]
   lia
  ·have:=vJ l _ _ r h
   lia
end
mutual
def pos:Sh->Bool
 | .bJ n=>decide (0<n)
 | .br ps=>Lo ps
 | _=>true
def Lo:List Sh->Bool
 | []=>true
 | s::r=>pos s&&Lo r
end
mutual
theorem tw:∀(s:Sh),pos s=true->∀r∈tab s,pos r.2.2.2=true
 | .num,h,r,hr=>by simp[tab]at hr;subst hr;exact h
 | .own,h,r,hr=>by simp[tab]at hr;subst hr;exact h
 | .bJ n,h,r,hr=>by simp[tab]at hr;subst hr;exact h
 | .br ps,h,r,hr=>by
  simp only[tab,aD]at hr;rcases hr with rfl | hr
  ·exact h
  ·exact vK ps (by simpa only[pos]using h) 0 0 r hr
theorem vK:∀(l:List Sh),Lo l=true->∀(k:Nat) (a:Int),∀r∈tabs k a l,pos r.2.2.2=true
 | [],_,_,_,r,hr=>by simp[tabs]at hr
 | s::l,h,k,a,r,hr=>by
  simp only[Lo,aV]at h;simp only[tabs,bh,aM]at hr;rcases hr with⟨r0,h0,rfl⟩ | hr
  ·exact tw s h.1 r0 h0
  ·exact vK l h.2 _ _ r hr
end
def Fm(s:Sh):Prop:=yg s/\pos s=true
theorem yp{s:Sh}(h:yg s){r:Rw}(hr:r∈tab s):yg r.2.2.2:=by
 have h1:=Fl s r hr;have h2:=(oG s r hr).1;have h3:=h.1;have h4:=h.2;exact⟨by lia,by lia⟩
def cK(s:Sh):Prop:=Fm s/\(lv s).length<=3
theorem kD(c:Int):cK (iw c):=by
 have h8:0<1+c/7%8/\1+c/7%8<=8:=by lia
 have:c%7=0\/c%7=1\/c%7=2\/c%7=3\/c%7=4\/c%7=5\/c%7=6:=by lia
 unfold iw;rcases this with h | h | h | h | h | h | h<;>rw[h]<;>simp[cK,Fm,yg,tab,tabs,dp,pd,pos,Lo,lv,gg,h8]
theorem Lp:cK .num:=by simp[cK,Fm,yg,tab,dp,pos,lv]
theorem Lq{s:Sh}(h:cK s){r:Rw}(hr:r∈tab s):cK r.2.2.2:=by
 obtain⟨⟨h1,h2⟩,h3⟩:=h;exact⟨⟨yp h1 hr,tw s h2 r hr⟩,bA (oG s r hr).2 h3⟩
structure mW (ks:List Rk):Prop where
 nd:(ks.map (·.1)).Nodup
 good:∀q∈ks,Fm (bE q.2)/\(lv (bE q.2)).length<=3
 few:ks.length<=10
 ne:∀q∈ks,(q.1==(Str.ofString ""))=false
theorem mW.ok{ks:List Rk}(K:mW ks):VF ks:=λq hq=>(K.good q hq).1.1
def kw:Kn->Str
 | .ow s=>WV s
 | .ho b _=>hw b
theorem lV(h:List aq)(k:Kn):bN h (encK k) (.int 0)=some (.str (kw k)):=by
 cases k with
 | ow s=>exact pA h s
 | ho b s=>rfl
theorem mX(h:List aq)(d:Kn):oY false h (.str (kw d)) (.ao [.str "lent",.str "sole"])=some (.bl (dA d)):=by
 cases d with
 | ow s=>cases s<;>kernel_rfl
 | ho b s=>cases b<;>kernel_rfl
theorem VP(h:List aq)(a b:Str):Mu h (.str a) (.str b)=some (.bl (!(a==b))):=rfl
def may(d:Kn):Bool:=!(kw d==(Str.ofString "lent"))
def k0(ks:List Rk):List Sp:=ks.flatMap λq=>(tab (bE q.2)).map λr=>⟨q.1,q.2,r,.bB⟩
def kQ(s:Sp):PV:=.ao [aO s,enc s.r.2.2.2,.bl (may s.d)]
theorem iy{ks:List Rk}(h:VF ks):∀s∈k0 ks,cy ks s/\s.a=.bB:=by
 intro s hs;obtain⟨q,hq,hs⟩:=gn.mp hs;obtain⟨r,hr,rfl⟩:=aM.mp hs;exact⟨⟨hq,h q hq,hr,.bB⟩,rfl⟩
theorem yq{ks:List Rk}(h:VF ks):(k0 ks).length<=100*ks.length:=by
 induction ks with
 | nil=>simp[k0]
 | cons q ks ih =>
  have h1:=(h q aE).1;have h2:=ih λr hr=>h r (aF _ hr)
  simp only[k0,eU,aR,ak,aK]at h2 ⊢
  lia
theorem mY{ks:List Rk}{q:Rk}(hq:q∈ks):(⟨q.1,q.2,([],0,sz (bE q.2),bE q.2),.bB⟩:Sp)∈k0 ks:=gn.mpr ⟨q,hq,aM.mpr ⟨_,gj _,rfl⟩⟩
theorem Lr(c:CT)(S:Option PV)(x:Str)(d:Kn)(o5:Option PV)(T:List Rw):∀(acc:List PV) (o6 o7:Option PV),acc.length+T.length<=90000 ->
  ∃HC Pe,cY (gC 2 (c6 (aU 6) (c6 (aU 7) mn))) (DG c) (T.map jG) ⟨[S,some (.ref 0),some (.str x),some (encK d),some (.bl (dA d)),o5,o6,o7],[⟨.lst,acc⟩]⟩=some (.ok .nx,⟨[S,some (.ref 0),some (.str x),some (encK d),some (.bl (dA d)),o5,HC,Pe],[⟨.lst,acc++T.map λr=>kQ ⟨x,d,r,.bB⟩⟩]⟩):=by
 induction T with
 | nil=>exact λacc o6 o7 _=>⟨o6,o7,by simp;rfl⟩
 | cons r T ih =>
  intro acc o6 o7 hz;simp only[aK]at hz;obtain⟨HC,Pe,e⟩:=ih (acc++[kQ ⟨x,d,r,.bB⟩]) (some (.ao (r.1.map .int))) (some (enc r.2.2.2)) (by simp;lia)
  refine⟨HC,Pe,?_⟩;rw[cW]at e;rw[aI,aI];exact fC rfl (dS (yF rfl rfl (cA (tU (cA rfl (cA rfl (cA (b2 (b2 rfl rfl (lV _ d)) rfl (VP _ _ _)) rfl))) (by simp)) rfl) (aC rfl (by lia)))) e
theorem HE(k:Nat)(hk:3<=k)(S:Option PV)(ks:List Rk):∀(acc:List PV) (o2 o3 o4 o5 o6 o7:Option PV),VF ks->acc.length+100*ks.length<=80000 ->
  ∃VN VO VQ VR HC Pe,cY (gC 2 Q3) (DH (run txt (k+1))) (ks.map bD) ⟨[S,some (.ref 0),o2,o3,o4,o5,o6,o7],[⟨.lst,acc⟩]⟩=some (.ok .nx,⟨[S,some (.ref 0),VN,VO,VQ,VR,HC,Pe],[⟨.lst,acc++(k0 ks).map kQ⟩]⟩):=by
 induction ks with
 | nil=>exact λacc o2 o3 o4 o5 o6 o7 _ _=>⟨o2,o3,o4,o5,o6,o7,by simp[k0];rfl⟩
 | cons q ks ih =>
  intro acc o2 o3 o4 o5 o6 o7 ho hz;simp only[aK]at hz;obtain⟨h1,h2⟩:=ho q aE;obtain⟨p6,p7,G3⟩:=Lr (run txt (k+1)) S q.1 q.2 (some (enc (bE q.2))) (tab (bE q.2)) acc o6 o7 (by lia)
  obtain⟨VN,VO,VQ,VR,HC,Pe,e⟩:=ih (acc++(tab (bE q.2)).map λr=>kQ ⟨q.1,q.2,r,.bB⟩) (some (.str q.1)) (some (encK q.2)) (some (.bl (dA q.2))) (some (enc (bE q.2))) p6 p7 (λr hr=>ho r (aF _ hr)) (by rw[aR,ak];lia)
  refine⟨VN,VO,VQ,VR,HC,Pe,?_⟩;have Nq:(k0 (q::ks)).map kQ=((tab (bE q.2)).map λr=>kQ ⟨q.1,q.2,r,.bB⟩)++(k0 ks).map kQ:=by
   simp[k0,eU,bQ,cX,Function.comp_def]
  rw[Nq,<-cW];have ht:=yo (bE q.2) k (by lia) (by lia)
  have a5:Ev (dP (gf (rd 4)) (c8 (op2 bN (rd 3) (kI 1)) (aU 5)) (aX .nx)) ⟨[S,some (.ref 0),some (.str q.1),some (encK q.2),some (.bl (dA q.2)),some (encK q.2),o6,o7],[⟨.lst,acc⟩]⟩ .nx ⟨[S,some (.ref 0),some (.str q.1),some (encK q.2),some (.bl (dA q.2)),some (enc (bE q.2)),o6,o7],[⟨.lst,acc⟩]⟩:=by
   obtain⟨x,d⟩:=q;cases d with
   | ow s=>rfl
   | ho b s=>rfl
  exact fC rfl (sq (aS (b2 (b2 rfl rfl (lV _ q.2)) rfl (mX _ q.2)) rfl) (sq (aS rfl rfl) (sq a5 (fS (sV (cU rfl rfl (by simp[ai,dv]) ht) rfl) G3)))) e
theorem VS{a:PV}(ha:noRef a=true)(x:Str)(th:Bool)(p:List Int):noRef (Ld x th p a)=true:=by simp[Ld,noRef,ai,yn,ha]
theorem uI.nr{ks:List Rk}{a:PV}(h:uI ks a):noRef a=true:=by cases h<;>rfl
theorem fF{ks:List Rk}{s:Sp}(h:cy ks s):noRef (aO s)=true:=VS h.at_.nr _ _ _
theorem Fo{ks:List Rk}:∀l:List Sp,(∀s∈l,cy ks s)->ai (l.map kQ)=true
 | [],_=>rfl
 | s::l,h=>by rw[aI];simp[ai,noRef,kQ,fF (h s aE),dv,Fo l λt ht=>h t (aF _ ht)]
theorem Pf(k:Nat)(hk:3<=k)(ks:List Rk)(h:VF ks)(hl:ks.length<=100):Gives (run txt (k+2) "_law_spots" [.lst (ks.map bD)] []) (.lst ((k0 ks).map kQ)):=by
 rw[DI];obtain⟨o2,o3,o4,o5,o6,o7,e⟩:=HE k hk (some (.lst (ks.map bD))) ks [] none none none none none none h (by simp;lia)
 rw[eW]at e;exact⟨.ref 0,_,jj (sq rfl (sq (fS rfl e) (rS rfl))),oH (Fo _ λs hs=>(iy h s hs).1)⟩
def jH(s:Sp):PV:=.ao [aO s,.bl (may s.d)]
noncomputable def gZ(x:Str)(dg:Int)(s:Sp):List Sp:=match s.r.2.2.2 with
 | .num=>[s]
 | .own=>[s]
 | .bJ n=>[{s with a:=if dg/8%2=0 then .int (dg%n)else .str x}]
 | .br _=>[]
def Z4:Sh->Bool
 | .num=>true
 | .own=>true
 | _=>false
def A0:Sh->Bool
 | .bJ _=>true
 | _=>false
theorem Z5(h:List aq)(s:Sh):oY false h (.str (WV s)) (.ao [.str "num",.str "own"])=some (.bl (Z4 s)):=by cases s<;>kernel_rfl
theorem RH(h:List aq)(s:Sh):gT h (.str (WV s)) (.str "strip")=some (.bl (A0 s)):=by cases s<;>kernel_rfl
def VT(S:Option PV)(x:Str)(dg:Int)(acc:List PV)(s:Sp):cx:=⟨[S,some (.str x),some (.int dg),some (.ref 0),some (aO s),some (enc s.r.2.2.2),some (.bl (may s.d))],[⟨.lst,acc⟩]⟩
theorem Fp(S:Option PV)(x:Str)(dg:Int)(s:Sp)(acc:List PV)(hl:acc.length<90000):Ev (gO (C5 "list" (jA (gW xh)) (rd 3) (au (lJ .ao (au (rd 4) Qx)) (aX [])))) (VT S x dg acc s) .nx (VT S x dg (acc++[jH s]) s):=dS (yF rfl rfl (cA rfl rfl) (aC rfl (by lia)))
theorem Lu(c:CT)(S:Option PV)(x:Str)(dg:Int){s:Sp}(hp:pos s.r.2.2.2=true)(acc:List PV)(hl:acc.length<90000):Ev (mN c) (VT S x dg acc s) .nx (VT S x dg (acc++(gZ x dg s).map jH) s):=by
 have t1:=λacc:List PV=>(bT (b2 (b2 rfl rfl (pA _ s.r.2.2.2)) rfl (Z5 _ s.r.2.2.2)):Ek (toB (op2 (oY false) Qi (lJ .ao (au (kS "num") (au (kS "own") (aX [])))))) (VT S x dg acc s) (Z4 s.r.2.2.2))
 have t2:=λacc:List PV=>(bT (b2 (b2 rfl rfl (pA _ s.r.2.2.2)) rfl (RH _ s.r.2.2.2)):Ek (toB (op2 gT Qi (kS "strip"))) (VT S x dg acc s) (A0 s.r.2.2.2))
 cases he:s.r.2.2.2 with
 | num =>
  rw[he]at t1 t2;rw[show gZ x dg s=[s] by unfold gZ;rw[he]]
  exact sq (iT (t1 acc) (Fp S x dg s acc hl)) (iF (t2 _) rfl)
 | own =>
  rw[he]at t1 t2;rw[show gZ x dg s=[s] by unfold gZ;rw[he]]
  exact sq (iT (t1 acc) (Fp S x dg s acc hl)) (iF (t2 _) rfl)
 | br ps =>
  rw[he]at t1 t2;rw[show gZ x dg s=[] by unfold gZ;rw[he],nL,dq]
  exact sq (iF (t1 acc) rfl) (iF (t2 acc) rfl)
 | bJ n =>
  rw[he]at t1 t2 hp;have hp:0<n:=by simpa[pos]using hp
  rw[show gZ x dg s=[{s with a:=if dg/8%2=0 then .int (dg%n)else .str x}] by unfold gZ;rw[he]]
  refine sq (iF (t1 acc) rfl) (iT (t2 acc) ?_);have h5:∀h,bN h (enc s.r.2.2.2) (.int 1)=some (.int n):=λh=>by rw[he];rfl
  have hx:Ek (op2 bN (lJ .lst (au (op2 fO (rd 2) (op2 bN (rd 5) (kI 1))) Q5)) (op2 fO (op2 hZ (rd 2) (kI 8)) (kI 2))) (VT S x dg acc s) (if dg/8%2=0 then .int (dg%n)else .str x):=by
   refine b2 (lS (cA (b2 rfl (b2 rfl rfl (h5 _)) (cR hp)) rfl) (by simp)) (b2 (b2 rfl rfl (vH (by decide))) rfl (cR (by decide))) ?_
   have:dg/8%2=0\/dg/8%2=1:=by lia
   rcases this with h | h
   ·rw[h];rfl
   ·rw[h];rfl
  obtain⟨a,ha⟩:∃a,a=(if dg/8%2=0 then PV.int (dg%n)else .str x):=⟨_,rfl⟩
  rw[<-ha]at hx ⊢;exact dS (yF rfl rfl (cA (tU (cA (b2 (x:=.ao [.str s.x,.bl (dA s.d),.ao (s.r.1.map .int)]) (cE rfl rfl rfl rfl) (tU (cA hx rfl) (by simp)) (aT (by simp))) rfl) (by simp)) rfl) (aC rfl (by lia)))
theorem A2(c:CT)(S:Option PV)(x:Str)(dg:Int):∀(T:List Sp) (acc:List PV) (o4 o5 o6:Option PV),(∀s∈T,pos s.r.2.2.2=true)->acc.length+T.length<=80000 ->
  ∃VQ VR HC,cY Qj (mN c) (T.map kQ) ⟨[S,some (.str x),some (.int dg),some (.ref 0),o4,o5,o6],[⟨.lst,acc⟩]⟩=some (.ok .nx,⟨[S,some (.str x),some (.int dg),some (.ref 0),VQ,VR,HC],[⟨.lst,acc++(T.flatMap (gZ x dg)).map jH⟩]⟩)
 | [],acc,o4,o5,o6,_,_=>⟨o4,o5,o6,by simp;rfl⟩
 | s::T,acc,o4,o5,o6,h,hz=>by
  simp only[aK]at hz;have hb:=Lu c S x dg (h s aE) acc (by lia)
  have CS:(gZ x dg s).length<=1:=by
   unfold gZ;split<;>simp
  obtain⟨VQ,VR,HC,e⟩:=A2 c S x dg T (acc++(gZ x dg s).map jH) (some (aO s)) (some (enc s.r.2.2.2)) (some (.bl (may s.d))) (λt ht=>h t (aF _ ht)) (by rw[aR,ak];lia)
  refine⟨VQ,VR,HC,?_⟩;rw[eU,bQ,<-cW];exact fC rfl hb e
abbrev RI(ks:List Rk)(x:Str)(dg:Int):List Sp:=(k0 ks).flatMap (gZ x dg)
theorem Ph{ks:List Rk}{x:Str}(hx:(x,Kn.ow .num)∈ks){dg:Int}{s:Sp}(hs:cy ks s):∀t∈gZ x dg s,cy ks t/\t.d=s.d:=λt ht=>by
 unfold gZ at ht;split at ht
 ·rw[aB]at ht;subst ht;exact⟨hs,rfl⟩
 ·rw[aB]at ht;subst ht;exact⟨hs,rfl⟩
 ·rw[aB]at ht;subst ht;refine⟨⟨hs.mem,hs.ok,hs.row,?_⟩,rfl⟩;show uI ks (if dg/8%2=0 then _ else _)
  split
  ·exact .int _
  ·exact .str _ hx
 ·cases ht
theorem D0{ks:List Rk}(K:mW ks){x:Str}(hx:(x,Kn.ow .num)∈ks)(dg:Int):(∀t∈RI ks x dg,cy ks t)/\(RI ks x dg).length<=1000/\∃t∈RI ks x dg,may t.d=true:=by
 refine⟨λt ht=>?_,?_,?_⟩
 ·obtain⟨s,hs,ht⟩:=gn.mp ht;exact(Ph hx (iy K.ok s hs).1 t ht).1
 ·have h1:=yq K.ok;have h2:=K.few;have:∀T:List Sp,(T.flatMap (gZ x dg)).length<=T.length:=λT=>by
   induction T with
   | nil=>simp
   | cons s T ih =>
    have CS:(gZ x dg s).length<=1:=by
     unfold gZ;split<;>simp
    rw[eU,aR,aK]
    lia
  have:=this (k0 ks);show(List.flatMap (gZ x dg) (k0 ks)).length<=1000
  lia
 ·refine⟨⟨x,.ow .num,([],0,sz .num,.num),.bB⟩,gn.mpr ⟨_,mY hx,?_⟩,?_⟩
  ·simp[gZ,bE]
  ·show(!((Str.ofString "num")==(Str.ofString "lent")))=true;decide +kernel
theorem Lv{ks:List Rk}:∀l:List Sp,(∀s∈l,cy ks s)->ai (l.map jH)=true
 | [],_=>rfl
 | s::l,h=>by rw[aI];simp[ai,noRef,jH,fF (h s aE),Lv l λt ht=>h t (aF _ ht)]
theorem HF(k:Nat){ks:List Rk}(K:mW ks){x:Str}(hx:(x,Kn.ow .num)∈ks)(dg:Int):Gives (run txt (k+1) "_law_numbers" [.lst ((k0 ks).map kQ),.str x,.int dg] []) (.lst ((RI ks x dg).map jH)):=by
 rw[xV];have Nq:=yq K.ok;have hf:=K.few;obtain⟨o4,o5,o6,e⟩:=A2 (run txt k) (some (.lst ((k0 ks).map kQ))) x dg (k0 ks) [] none none none (λs hs=>by
  obtain⟨g1,g2⟩:=iy K.ok s hs;exact tw _ (K.good _ g1.mem).1.2 _ g1.row) (by simp;lia)
 rw[eW]at e;exact⟨.ref 0,_,jj (sq rfl (sq (fS rfl e) (rS rfl))),oH (Lv _ (D0 K hx dg).1)⟩
theorem dk{α:Type}(N:List α)(e:α->PV)(m:Int)(h:0<N.length):∃s∈N,∀H:List aq,bN H (.lst (N.map e)) (.int (m%((N.map e).length:Int)))=some (e s):=by
 rw[ak];have hj0:=jU m (show(N.length:Int)≠0 by lia)
 have hj1:=qB m (show(0:Int)<(N.length:Int) by lia)
 obtain⟨j,hj⟩:=Int.eq_ofNat_of_zero_le hj0;have hjl:j<N.length:=by lia
 refine⟨N[j],wb hjl,λH=>?_⟩
 rw[hj];exact atI_nat (by rw[bH,bW hjl];rfl)
theorem Z6(h:List aq):NR h (.int 10) (.int 30)=some (.int (10^30)):=by kernel_rfl
theorem dH.nr{ks:List Rk}{o:Op}(h:dH ks o):noRef (dM o)=true:=by
 cases o with
 | n i=>rfl
 | s s=>exact fF h
theorem vL(k:Nat){ks:List Rk}{N:List Sp}(h:∀s∈N,cy ks s)(h0:0<N.length)(C m:Int):∃o,Gives (run txt (k+1) "_law_operand" [.int C,.int m,.lst (N.map jH)] []) (dM o)/\dH ks o:=by
 rw[xW];obtain⟨s,hs,xp⟩:=dk N jH (m/20) h0;have hz:0<((N.map jH).length:Int):=by rw[ak];lia
 have t1:Ek (toB (op2 gT (op2 fO (op2 hZ (rd 1) (kI 5)) (kI 4)) (kI 0))) (S0 [some (.int C),some (.int m),some (.lst (N.map jH))]) (m/5%4==0):=bT (b2 (b2 (b2 rfl rfl (vH (by decide))) rfl (cR (by decide))) rfl (oI _ _ _))
 by_cases hm:m/5%4=0
 ·rw[hm,nH]at t1;exact⟨.n (C%10^30),gV (pV (iT t1 (rS (b2 rfl (b2 rfl rfl (Z6 _)) (cR (by decide)))))) rfl,trivial⟩
 ·rw[show(m/5%4==0)=false by rw[fK];exact hm]at t1
  exact⟨.s s,gV (sq (iF t1 rfl) (rS (b2 (b2 rfl (b2 (b2 rfl rfl (vH (by decide))) (bV (cA rfl rfl) rfl) (cR hz)) (xp _)) rfl rfl))) (fF (h s hs)),h s hs⟩
theorem Lw(h:List aq)(s:Sh):Mu h (.str (WV s)) (.str "rec")=some (.bl (ir s)):=by cases s<;>kernel_rfl
theorem mZ{c:CT}(S:Option PV):∀(ps:List Sh) (ag:List PV) (x2:Option PV),(∀s∈ps,Gives (c "_law_leaves" [enc s] []) (.lst (bR (lv s))))->ag.length+(gg ps).length<=4000000 ->
  ∃x2',cY (aU 2) (pw c) (bR ps) (S0 [S,some (.lst ag),x2])=some (.ok .nx,S0 [S,some (.lst (ag++bR (gg ps))),x2'])
 | [],ag,x2,_,_=>⟨x2,by simp[bR,gg];rfl⟩
 | s::ps,ag,x2,h,hz=>by
  simp only[gg,aR]at hz;have hb:Ev (pw c) (S0 [S,some (.lst ag),some (enc s)]) .nx (S0 [S,some (.lst (ag++bR (lv s))),some (enc s)]):=aS (b2 rfl (cU rfl rfl rfl (h s aE)) (aL (by rw[fB];lia))) rfl
  obtain⟨x2',e⟩:=mZ S ps (ag++bR (lv s)) (some (enc s)) (λt ht=>h t (aF _ ht)) (by rw[aR,fB];lia)
  refine⟨x2',?_⟩;have ex:ag++bR (gg (s::ps))=ag++bR (lv s)++bR (gg ps):=by
   simp only[gg,pe,cW]
  rw[ex];show cY _ _ (enc s::bR ps) _=_;exact fC rfl hb e
theorem jm(k:Nat){s:Sh}(h:ir s=true):Gives (run txt (k+1) "_law_leaves" [enc s] []) (.lst [enc s]):=by
 rw[px];exact gV (pV (iT (bT (b2 (b2 rfl rfl (pA _ s)) rfl ((Lw _ s).trans (by rw[h])))) (rS rfl))) (by simp[noRef,ai,dv])
mutual
theorem oJ:∀(s:Sh) (k:Nat),dp s<=k->(lv s).length<=90000->Gives (run txt (k+1) "_law_leaves" [enc s] []) (.lst (bR (lv s)))
 | .num,k,_,_=>jm k rfl
 | .own,k,_,_=>jm k rfl
 | .bJ n,k,_,_=>jm k rfl
 | .br ps,0,hd,_=>by simp[dp]at hd
 | .br ps,k+1,hd,hz=>by
  simp only[dp]at hd;simp only[lv]at hz;rw[px];obtain⟨x2',e⟩:=mZ (some (enc (.br ps))) ps [] none (gS ps k (by lia) hz) (by simp;lia)
  rw[eW]at e;have z:lv (.br ps)=gg ps:=by simp only[lv]
  rw[z];exact gV (sq (iF (bT (b2 (b2 rfl rfl (pA _ (.br ps))) rfl (Lw _ (.br ps)))) rfl) (sq rfl (sq (fS (sV (b2 rfl rfl (by simp only[enc];rfl)) rfl) e) (rS rfl)))) (qk _)
theorem gS:∀(ps:List Sh) (k:Nat),pd ps<=k->(gg ps).length<=90000->∀s∈ps,Gives (run txt (k+1) "_law_leaves" [enc s] []) (.lst (bR (lv s)))
 | [],_,_,_,s,hs=>by cases hs
 | p::r,k,hd,hz,s,hs=>by
  simp only[pd]at hd;simp only[gg,aR]at hz;rcases aD.mp hs with e | e
  ·rw[e];exact oJ p k (by lia) (by lia)
  ·exact gS r k (by lia) (by lia) s e
end
mutual
theorem Fq:∀(s:Sh),∀r∈tab s,0<=r.2.1/\0<=r.2.2.1/\r.2.1+r.2.2.1<=((lv s).length:Int)
 | .num,r,h=>by simp only[tab,aB]at h;subst h;simp[lv]
 | .own,r,h=>by simp only[tab,aB]at h;subst h;simp[lv]
 | .bJ n,r,h=>by simp only[tab,aB]at h;subst h;simp[lv]
 | .br ps,r,h=>by
  simp only[tab,aD]at h;rcases h with h | h
  ·subst h;simp[lv]
  ·have:=A3 ps 0 0 r h (by lia)
   simp only[lv]
   lia
theorem A3:∀(l:List Sh) (k:Nat) (a:Int),∀r∈tabs k a l,0<=a->0<=r.2.1/\0<=r.2.2.1/\r.2.1+r.2.2.1<=a+((gg l).length:Int)
 | [],_,_,_,h,_=>nomatch h
 | s::l,k,a,r,h,ha=>by
  rw[AY,bh]at h;simp only[gg,aR];rcases h with h | h
  ·obtain⟨q,hq,rfl⟩:=aM.mp h;have:=Fq s q hq;simp only[mL]
   lia
  ·have:=A3 l (k+1) (a+sz s) r h (by simp only[sz];lia)
   simp only[sz]at this
   lia
end
structure uK (X:List Str) (Bd:Nat) (a:cD):Prop where
 f0:0<=a.f
 m0:0<=a.m
 few:a.f+a.m<=(Bd:Int)
 nm:a.n∈X\/a.n=""
abbrev A4(ks:List Rk):List Str:=ks.map (·.1)
structure m4 (ks:List Rk) (M:Nat) (p:PV) (as:List cD):Prop where
 made:∀F K,sS F ks->noRef F=true->12<=K->Lf (run txt K) F p as
 six:as.length<=6
 nx:∀j,j+1<M->RF M j p
 ok:∀a∈as,uK (A4 ks) 3 a
section
variable {ks:List Rk}
theorem Fs{F p:PV}{as:List cD}{w fn:Str}{rest:List PV}{c:CT}(hp:p=.ao (.str w::rest))(h1:jd.lookup w=some fn)(h2:VA.lookup fn=some 2)(h6:as.length<=6)(h:Gives (c fn [F,p] []) (fj as))(hn:noRef p=true):Lf c F p as:=⟨⟨w,fn,rest,hp,h1,h2,h⟩,by lia,hn⟩
theorem jv{M:Nat}{w:Str}{rest:List PV}(h1:(w==(Str.ofString "go"))=false)(h2:(w==(Str.ofString "if"))=false):∀j,j+1<M->RF M j (.ao (.str w::rest)):=λj hj=>⟨w,(λ_=>atI_nat (show(PV.str w::rest)[0]?=some (.str w)from rfl)),(λz=>by rw[h1]at z;cases z),(λz=>by rw[h2]at z;cases z),λ_ _=>hj⟩
theorem vM(K:mW ks)(w:Str){x:Str}{d:Kn}(hx:(x,d)∈ks){r:Rw}(hr:r∈tab (bE d))(t:Str):uK (A4 ks) 3 (tA w x d r t):=by
 obtain⟨g1,g2,g3⟩:=Fq _ r hr;have g4:=(K.good _ hx).2;simp only at g4;exact⟨g1,g2,by show r.2.1+r.2.2.1<=_;lia,.inl (aM.mpr ⟨_,hx,rfl⟩)⟩
theorem jn(K:mW ks)(w:Str){s:Sp}(hs:cy ks s)(t:Str):uK (A4 ks) 3 (pC w s t):=vM K w hs.mem hs.row t
theorem Lx{a:PV}(h:uI ks a):∀q∈H0 a,uK (A4 ks) 3 q:=λq hq=>by
 cases h with
 | bB=>cases hq
 | int i=>cases hq
 | str y hy =>
  simp only[H0,aB]at hq;subst hq;exact⟨Int.le_refl 0,(by show(0:Int)<=1;decide),(by show(0:Int)+1<=((3:Nat):Int);decide),.inl (aM.mpr ⟨_,hy,rfl⟩)⟩
theorem tx(K:mW ks){o:Op}(ho:dH ks o):∀q∈nj o,uK (A4 ks) 3 q:=λq hq=>by
 cases o with
 | n i=>cases hq
 | s s =>
  rcases bh.mp hq with h | h
  ·exact Lx ho.at_ q h
  ·rw[aB]at h;subst h;exact jn K _ ho _
theorem Ly(K:mW ks){s:Sp}(hs:cy ks s):∀q∈yi s,uK (A4 ks) 3 q:=λq hq=>by
 unfold yi at hq;split at hq
 ·rw[aB]at hq;subst hq;exact jn K _ hs _
 ·rcases bh.mp hq with h | h
  ·exact Lx hs.at_ q h
  ·rw[aB]at h;subst h;exact jn K _ hs _
theorem VU(K:mW ks){r:Rk}(hr:r∈ks)(t:Str):uK (A4 ks) 3 (WX r.1 r.2 t):=by
 obtain⟨x,d⟩:=r;cases d with
 | ow s=>exact vM K _ hr (gj s) _
 | ho b s=>exact vM K _ hr (gj s) _
theorem VV(K:mW ks){r:Rk}(hr:r∈ks):uK (A4 ks) 3 (ZZ r.1 r.2):=by
 obtain⟨x,d⟩:=r;cases d with
 | ow s=>exact vM K _ hr (gj s) _
 | ho b s=>exact vM K _ hr (gj s) _
theorem Lz:uK (A4 ks) 3 Fd:=⟨by decide,by decide,by decide,.inr rfl⟩
theorem HG{as:List cD}(h:∀a∈as,uK (A4 ks) 3 a):∀a∈dz as,uK (A4 ks) 3 a:=λa ha=>by
 cases as with
 | nil =>
  simp only[dz,aB]at ha;subst ha;exact Lz
 | cons b l=>exact h a ha
theorem Ft(K:mW ks):∀(l:List Rk) (i:Nat),(∀r∈l,r∈ks)->∀q∈jF i l,uK (A4 ks) 3 q
 | [],_,_,_,h=>nomatch h
 | r::l,i,hl,q,h=>by
  simp only[jF,aD]at h;rcases h with h | h
  ·subst h;exact VU K (hl r aE) _
  ·exact Ft K l (i+1) (λs hs=>hl s (aF _ hs)) q h
theorem Pk(K:mW ks){tk:Option Rk}(ht:∀r,tk=some r->r∈ks):∀q∈pY tk,uK (A4 ks) 3 q:=λq hq=>by
 cases tk with
 | none=>cases hq
 | some r =>
  have hr:=ht r rfl;obtain⟨x,d⟩:=r;cases d with
  | ow s =>
   simp only[pY,aB]at hq;subst hq;exact vM K _ hr (gj s) _
  | ho b s =>
   simp only[pY,aB]at hq;subst hq;exact⟨Int.le_refl 0,Int.le_refl 0,(by show(0:Int)+0<=((3:Nat):Int);decide),.inr rfl⟩
theorem tD{X:List Str}{Bd:Nat}{a b:List cD}(h1:∀q∈a,uK X Bd q)(h2:∀q∈b,uK X Bd q):∀q∈a++b,uK X Bd q:=λq hq=>(bh.mp hq).elim (h1 q) (h2 q)
theorem K7{K:Nat}(h:12<=K):∃k,K=k+7/\3<=k:=⟨K-7,by lia,by lia⟩
variable (K:mW ks) (M:Nat)
include K
theorem Pl{s:Sp}(hs:cy ks s){o:Op}(ho:dH ks o){w:Str}(hw:w="put"\/w="fill"):m4 ks M (.ao [.str w,aO s,dM o]) (nj o++yi s):=by
 have l1:=iu o;have l2:=yj s;have l6:(nj o++yi s).length<=6:=by rw[aR];lia
 refine⟨λF k hF hN hk=>?_,l6,?_,tD (tx K ho) (Ly K hs)⟩
 ·obtain⟨k,rfl,h3⟩:=K7 hk;have h:=DQ hF k h3 w hs ho;rcases hw with rfl | rfl
  ·exact Fs rfl (by kernel_rfl) (by kernel_rfl) l6 h (by simp[noRef,ai,fF hs,dH.nr ho])
  ·exact Fs rfl (by kernel_rfl) (by kernel_rfl) l6 h (by simp[noRef,ai,fF hs,dH.nr ho])
 ·rcases hw with rfl | rfl
  ·exact jv (by decide +kernel) (by decide +kernel)
  ·exact jv (by decide +kernel) (by decide +kernel)
theorem Pm{s:Sp}(hs:cy ks s)(q:PV)(hq:noRef q=true){a b:Op}(ha:dH ks a)(hb:dH ks b):m4 ks M (.ao [.str "set",aO s,q,dM a,dM b]) (nj a++nj b++yi s):=by
 have l1:=iu a;have l2:=iu b;have l3:=yj s;have l6:(nj a++nj b++yi s).length<=6:=by simp only[aR];lia
 refine⟨λF k hF hN hk=>?_,l6,jv (by decide +kernel) (by decide +kernel),tD (tD (tx K ha) (tx K hb)) (Ly K hs)⟩
 obtain⟨k,rfl,h3⟩:=K7 hk;exact Fs rfl (by kernel_rfl) (by kernel_rfl) l6 (DR hF k h3 "set" hs q ha hb) (by simp[noRef,ai,fF hs,dH.nr ha,dH.nr hb,hq])
theorem VW{a:Op}(ha:dH ks a)(i:Int){m:Nat}(hm:m<M):m4 ks M (.ao [.str "if",dM a,.int i,iN m]) (nj a++[]):=by
 have l1:=iu a;have l6:(nj a++[]).length<=6:=by simp only[dq];lia
 refine⟨λF k hF hN hk=>?_,l6,λj hj=>⟨"if",λ_=>rfl,λz=>absurd z (by decide +kernel),λ_=>⟨m,λ_=>rfl,hm⟩,λ_ _=>hj⟩,tD (tx K ha) (λ_ h=>nomatch h)⟩
 obtain⟨k,rfl,h3⟩:=K7 hk;exact Fs rfl (by kernel_rfl) (by kernel_rfl) l6 (Hu hF k h3 "if" (iN m) ha (b:=.n i) trivial) (by simp[noRef,ai,dH.nr ha,iN])
theorem Pn{a:Op}(ha:dH ks a):m4 ks M (.ao [.str "say",dM a]) (nj a):=by
 have l1:=iu a;have l6:(nj a).length<=6:=by lia
 refine⟨λF k hF hN hk=>?_,l6,jv (by decide +kernel) (by decide +kernel),tx K ha⟩
 obtain⟨k,rfl,h3⟩:=K7 hk;exact Fs rfl (by kernel_rfl) (by kernel_rfl) l6 (DS hF k h3 "say" ha) (by simp[noRef,ai,dH.nr ha])
theorem VX{m:Nat}(hm:m<M):m4 ks M (.ao [.str "go",iN m]) []:=by
 refine⟨λF k hF hN hk=>?_,by simp,λj hj=>⟨"go",λ_=>rfl,λ_=>⟨m,λ_=>rfl,hm⟩,λz=>absurd z (by decide +kernel),λ_ z=>absurd z (by decide +kernel)⟩,λ_ h=>nomatch h⟩
 obtain⟨k,rfl,h3⟩:=K7 hk;exact Fs rfl (by kernel_rfl) (by kernel_rfl) (by simp) (Hv k _) (by simp[noRef,ai,iN])
theorem HH:m4 ks M (.ao [.str "give",.str ""]) []:=by
 refine⟨λF k hF hN hk=>?_,by simp,jv (by decide +kernel) (by decide +kernel),λ_ h=>nomatch h⟩
 obtain⟨k,rfl,h3⟩:=K7 hk;exact Fs rfl (by kernel_rfl) (by kernel_rfl) (by simp) (yk k "give") (by simp[noRef,ai])
theorem LB{r:Rk}(hr:r∈ks):m4 ks M (.ao [.str "give",.str r.1]) [ZZ r.1 r.2]:=by
 refine⟨λF k hF hN hk=>?_,by simp,jv (by decide +kernel) (by decide +kernel),λq hq=>?_⟩
 ·obtain⟨k,rfl,h3⟩:=K7 hk;exact Fs rfl (by kernel_rfl) (by kernel_rfl) (by simp) (AN hF k h3 "give" hr (K.ok _ hr) (K.ne _ hr)) (by simp[noRef,ai])
 ·rw[aB]at hq;subst hq;exact VV K hr
theorem LC{s t:Sp}(hs:cy ks s)(ht:cy ks t):m4 ks M (.ao [.str "copy",aO s,aO t]) [pC "read" t "",pC "fill" s ""]:=by
 refine⟨λF k hF hN hk=>?_,by simp,jv (by decide +kernel) (by decide +kernel),λq hq=>?_⟩
 ·obtain⟨k,rfl,h3⟩:=K7 hk;exact Fs rfl (by kernel_rfl) (by kernel_rfl) (by simp) (AI hF k h3 "copy" hs ht) (by simp[noRef,ai,fF hs,fF ht])
 ·simp only[aD,eu,eA]at hq;rcases hq with rfl | rfl
  ·exact jn K _ ht _
  ·exact jn K _ hs _
theorem LD{s t:Sp}(hs:cy ks s)(ht:cy ks t):m4 ks M (.ao [.str "move",aO s,aO t]) [pC "empty" t "",pC "fill" s ""]:=by
 refine⟨λF k hF hN hk=>?_,by simp,jv (by decide +kernel) (by decide +kernel),λq hq=>?_⟩
 ·obtain⟨k,rfl,h3⟩:=K7 hk;exact Fs rfl (by kernel_rfl) (by kernel_rfl) (by simp) (AJ hF k h3 "move" hs ht) (by simp[noRef,ai,fF hs,fF ht])
 ·simp only[aD,eu,eA]at hq;rcases hq with rfl | rfl
  ·exact jn K _ ht _
  ·exact jn K _ hs _
theorem LF{s:Sp}(hs:cy ks s):m4 ks M (.ao [.str "drop",aO s]) [pC "empty" s ""]:=by
 refine⟨λF k hF hN hk=>?_,by simp,jv (by decide +kernel) (by decide +kernel),λq hq=>?_⟩
 ·obtain⟨k,rfl,h3⟩:=K7 hk;exact Fs rfl (by kernel_rfl) (by kernel_rfl) (by simp) (AK hF k h3 "drop" hs) (by simp[noRef,ai,fF hs])
 ·rw[aB]at hq;subst hq;exact jn K _ hs _
theorem LG{w:Str}(hw:w="lend"\/w="sole")(x:Str){s:Sp}(hs:cy ks s):m4 ks M (.ao [.str w,.str x,aO s]) [pC w s x]:=by
 refine⟨λF k hF hN hk=>?_,by simp,?_,λq hq=>?_⟩
 ·obtain⟨k,rfl,h3⟩:=K7 hk;have h:=AL hF k h3 w x hs;rcases hw with rfl | rfl
  ·exact Fs rfl (by kernel_rfl) (by kernel_rfl) (by simp) h (by simp[noRef,ai,fF hs])
  ·exact Fs rfl (by kernel_rfl) (by kernel_rfl) (by simp) h (by simp[noRef,ai,fF hs])
 ·rcases hw with rfl | rfl
  ·exact jv (by decide +kernel) (by decide +kernel)
  ·exact jv (by decide +kernel) (by decide +kernel)
 ·rw[aB]at hq;subst hq;exact jn K _ hs _
theorem LH(fn:PV)(Ed:noRef fn=true){ar:List Rk}(ha:∀r∈ar,r∈ks)(hal:ar.length<=4){tk:Option Rk}(ht:∀r,tk=some r->r∈ks):m4 ks M (.ao [.str "call",.str (AO tk),fn,.ao (ar.map λr=>.str r.1)]) (jF 0 ar++pB::pY tk):=by
 have tl:=sW ar 0;have tkl:(pY tk).length<=1:=by
  cases tk with
  | none=>simp[pY]
  | some r=>obtain⟨x,d⟩:=r;cases d<;>simp[pY]
 have l6:(jF 0 ar++pB::pY tk).length<=6:=by rw[aR,aK,tl];lia
 refine⟨λF k hF hN hk=>?_,l6,jv (by decide +kernel) (by decide +kernel),tD (Ft K ar 0 ha) λq hq=>?_⟩
 ·obtain⟨k,rfl,h3⟩:=K7 hk;have h:=AR hF k h3 hN "call" fn ha K.ok (by lia) (λr hr=>⟨ht r hr,K.ne r (ht r hr)⟩)
  exact Fs rfl (by kernel_rfl) (by kernel_rfl) l6 h (by simp[noRef,ai,Ed,gd])
 ·rcases aD.mp hq with rfl | h
  ·exact⟨by decide,by decide,by decide,.inr rfl⟩
  ·exact Pk K ht q h
end
theorem kq{a b:Str}{xs ys:List Tr}(h:eqT (.ao (.str a::xs)) (.ao (.str b::ys))=true):(a==b)=true/\mq xs ys=true:=fu.mp h
mutual
theorem tF:∀s t:Sh,eqT (vE s) (vE t)=true->s=t
 | .num,.num,_=>rfl
 | .own,.own,_=>rfl
 | .bJ n,.bJ m,h=>by
  have h2:((n==m)&&true)=true:=(kq h).2;rw[wq]at h2;rw[bf h2]
 | .br a,.br b,h=>by
  have h2:(mq (mO a) (mO b)&&true)=true:=(kq h).2;rw[wq]at h2;rw[Fu a b h2]
 | .num,.own,h=>absurd (kq h).1 (by decide +kernel)
 | .num,.bJ _,h=>absurd (kq h).1 (by decide +kernel)
 | .num,.br _,h=>absurd (kq h).1 (by decide +kernel)
 | .own,.num,h=>absurd (kq h).1 (by decide +kernel)
 | .own,.bJ _,h=>absurd (kq h).1 (by decide +kernel)
 | .own,.br _,h=>absurd (kq h).1 (by decide +kernel)
 | .bJ _,.num,h=>absurd (kq h).1 (by decide +kernel)
 | .bJ _,.own,h=>absurd (kq h).1 (by decide +kernel)
 | .bJ _,.br _,h=>absurd (kq h).1 (by decide +kernel)
 | .br _,.num,h=>absurd (kq h).1 (by decide +kernel)
 | .br _,.own,h=>absurd (kq h).1 (by decide +kernel)
 | .br _,.bJ _,h=>absurd (kq h).1 (by decide +kernel)
theorem Fu:∀a b:List Sh,mq (mO a) (mO b)=true->a=b
 | [],[],_=>rfl
 | s::a,t::b,h=>by
  have h:=fu.mp (show(eqT (vE s) (vE t)&&mq (mO a) (mO b))=true from h)
  rw[tF s t h.1,Fu a b h.2]
 | [],_::_,h=>nomatch h
 | _::_,[],h=>nomatch h
end
def LI:Kn->Tr
 | .ow s=>vE s
 | .ho b s=>.ao [.str (hw b),vE s]
theorem VY:∀a b:Kn,eqT (LI a) (LI b)=true->a=b
 | .ow s,.ow t,h=>by rw[tF s t h]
 | .ho a s,.ho b t,h=>by
  have h:=kq h;have h2:(eqT (vE s) (vE t)&&true)=true:=h.2;rw[wq]at h2;rw[tF s t h2];have h1:(hw a==hw b)=true:=h.1;cases a<;>cases b<;>first | rfl | exact absurd h1 (by decide +kernel)
 | .ow s,.ho b t,h=>by
  exfalso
  cases s<;>cases b<;>exact absurd (kq h).1 (by decide +kernel)
 | .ho b t,.ow s,h=>by
  exfalso
  cases s<;>cases b<;>exact absurd (kq h).1 (by decide +kernel)
structure Cs where
 d1:Kn
 d4:Kn
 d5:Kn
 r1:Option Kn
 pl:Int
noncomputable def pk(C:Cs):Nat->List Kn
 | 0=>[]
 | 1=>if C.pl%2=1 then [C.d1,C.d4]else [C.d4,C.d1]
 | _=>[C.d4,C.d5].take (C.pl/2).toNat++C.d1::[C.d4,C.d5].drop (C.pl/2).toNat
def rk(C:Cs):Nat->Option Kn
 | 0=>none
 | 1=>C.r1
 | _=>some C.d4
inductive Ro where
 | put (fl:Bool) (s:Sp) (o:Op)
 | set (s:Sp) (g:Str) (a b:Op)
 | oK (t s:Sp)
 | oM (t s:Sp)
 | drop (s:Sp)
 | iS (x:Str) (b:Bool) (s:Sp)
 | call (tk:Option Rk) (j:Nat) (ar:List Rk)
 | t7 (a:Op) (i:Int) (m:Nat)
 | go (m:Nat)
 | Bq (a:Op)
 | eR (z:Option Rk)
noncomputable def lw(b:Bool):Str:=if b then "sole" else "lend"
abbrev ei(r:Rk):PV:=.str r.1
abbrev Fv(r:Option Rk):PV:=.str (AO r)
def bt(fn:Nat->PV):Ro->PV
 | .put fl s o=>.ao [.str (if fl then "fill" else "put"),aO s,dM o]
 | .set s g a b=>.ao [.str "set",aO s,.str g,dM a,dM b]
 | .oK t s=>.ao [.str "copy",aO t,aO s]
 | .oM t s=>.ao [.str "move",aO t,aO s]
 | .drop s=>.ao [.str "drop",aO s]
 | .iS x b s=>.ao [.str (lw b),.str x,aO s]
 | .call tk j ar=>.ao [.str "call",Fv tk,fn j,.ao (ar.map ei)]
 | .t7 a i m=>.ao [.str "if",dM a,.int i,iN m]
 | .go m=>.ao [.str "go",iN m]
 | .Bq a=>.ao [.str "say",dM a]
 | .eR z=>.ao [.str "give",Fv z]
def nsp(s:Sp):Prop:=s.a=.bB\/A0 s.r.2.2.2=true
def tH(C:Cs)(ks:List Rk)(M:Nat):Ro->Prop
 | .put fl s o=>cy ks s/\dH ks o/\may s.d=true/\(fl=true->s.a=.bB)/\nsp s
 | .set s g a b=>cy ks s/\dH ks a/\dH ks b/\may s.d=true/\nsp s
 | .oK t s=>cy ks t/\cy ks s/\t.a=.bB/\s.a=.bB/\t.r.2.2.2=s.r.2.2.2/\may t.d=true
 | .oM t s=>cy ks t/\cy ks s/\t.a=.bB/\s.a=.bB/\t.r.2.2.2=s.r.2.2.2/\may t.d=true/\dA s.d=false
 | .drop s=>cy ks s/\s.a=.bB/\dA s.d=false
 | .iS x b s=>cy ks s/\s.a=.bB/\(x,Kn.ho b s.r.2.2.2)∈ks/\(b=true->may s.d=true)
 | .call tk j ar=>j<3/\tk.map (·.2)=rk C j/\ar.map (·.2)=pk C j/\(∀r∈ar,r∈ks)/\ar.length<=4/\∀r,tk=some r->r∈ks
 | .t7 a _ m=>dH ks a/\m<M
 | .go m=>m<M
 | .Bq a=>dH ks a
 | .eR z=>∀r,z=some r->r∈ks
def yH:Ro->List cD
 | .put _ s o=>nj o++yi s
 | .set s _ a b=>nj a++nj b++yi s
 | .oK t s=>[pC "read" s "",pC "fill" t ""]
 | .oM t s=>[pC "empty" s "",pC "fill" t ""]
 | .drop s=>[pC "empty" s ""]
 | .iS x b s=>[pC (lw b) s x]
 | .call tk _ ar=>jF 0 ar++pB::pY tk
 | .t7 a _ _=>nj a++[]
 | .go _=>[]
 | .Bq a=>nj a
 | .eR none=>[]
 | .eR (some r)=>[ZZ r.1 r.2]
theorem VZ{ks:List Rk}(K:mW ks)(M:Nat){fn:Nat->PV}(hf:∀j,noRef (fn j)=true){C:Cs}:∀r:Ro,tH C ks M r->m4 ks M (bt fn r) (yH r)
 | .put fl s o,h=>Pl K M h.1 h.2.1 (by cases fl<;>first | exact .inl rfl | exact .inr rfl)
 | .set s g a b,h=>Pm K M h.1 (.str g) rfl h.2.1 h.2.2.1
 | .oK t s,h=>LC K M h.1 h.2.1
 | .oM t s,h=>LD K M h.1 h.2.1
 | .drop s,h=>LF K M h.1
 | .iS x b s,h=>LG K M (by cases b<;>first | exact .inl rfl | exact .inr rfl) x h.1
 | .call tk j ar,h=>LH K M (fn j) (hf j) h.2.2.2.1 h.2.2.2.2.1 h.2.2.2.2.2
 | .t7 a i m,h=>VW K M h.1 i h.2
 | .go m,h=>VX K M h
 | .Bq a,h=>Pn K M h
 | .eR none,_=>HH K M
 | .eR (some r),h=>LB K M (h r rfl)
theorem Fw{ks:List Rk}{M:Nat}{fn:Nat->PV}(hf:∀j,noRef (fn j)=true){C:Cs}:∀r:Ro,tH C ks M r->noRef (bt fn r)=true
 | .put fl s o,h=>by simp[bt,noRef,ai,fF h.1,dH.nr h.2.1]
 | .set s g a b,h=>by simp[bt,noRef,ai,fF h.1,dH.nr h.2.1,dH.nr h.2.2.1]
 | .oK t s,h=>by simp[bt,noRef,ai,fF h.1,fF h.2.1]
 | .oM t s,h=>by simp[bt,noRef,ai,fF h.1,fF h.2.1]
 | .drop s,h=>by simp[bt,noRef,ai,fF h.1]
 | .iS x b s,h=>by simp[bt,noRef,ai,fF h.1]
 | .call tk j ar,h=>by simp[bt,noRef,ai,hf j,gd]
 | .t7 a i m,h=>by simp[bt,noRef,ai,dH.nr h.1,iN]
 | .go m,h=>rfl
 | .Bq a,h=>by simp[bt,noRef,ai,dH.nr h]
 | .eR z,_=>rfl
def uL(fn:Nat->PV)(C:Cs)(ks:List Rk)(M:Nat)(p:PV):Prop:=∃r,p=bt fn r/\tH C ks M r
def Rt(P:PV->Prop)(x:Option (Rs dE×cx)):Prop:=∃p s,x=some (.ok (.rt p),s)/\noRef p=true/\P p
theorem Rt.run{f:Gx dE}{n:Nat}{as:List PV}{P:PV->Prop}(h:Rt P (f ⟨gy n as,[]⟩)):∃p,Gives (dQ f n as []) p/\P p:=by
 obtain⟨p,⟨ρ,h'⟩,a,b,c⟩:=h;exact⟨p,gV a b,c⟩
theorem xS{f g:Gx dE}{s s1:cx}{P:PV->Prop}(h:Ev f s .nx s1)(k:Rt P (g s1)):Rt P (dX f g s):=by
 obtain⟨p,s2,a,b⟩:=k;exact⟨p,s2,sq h a,b⟩
theorem xI{gc:Gx Bool}{f h:Gx dE}{s s1:cx}{b:Bool}{P:PV->Prop}(hc:Ev gc s b s1)(ht:b=true->Rt P (f s1))(hf:b=false->Rt P (h s1)):Rt P (dX (dP gc f (aX .nx)) h s):=by
 cases b with
 | true =>
  obtain⟨p,s2,a,c⟩:=ht rfl;exact⟨p,s2,pV (iT hc a),c⟩
 | false =>
  obtain⟨p,s2,a,c⟩:=hf rfl;exact⟨p,s2,sq (iF hc rfl) a,c⟩
theorem xR{fa:Gx PV}{s s1:cx}{p:PV}{P:PV->Prop}(h:Ev fa s p s1)(hn:noRef p=true)(k:P p):Rt P (retS fa s):=⟨p,s1,rS h,hn,k⟩
theorem oB{f g:Gx Bool}{s:cx}{a b:Bool}(h1:Ev f s a s)(h2:Ev g s b s):Ev (dP f (aX true) g) s (a || b) s:=by
 cases a with
 | true=>exact iT h1 rfl
 | false=>exact iF h1 h2
theorem nD{f g:Gx Bool}{s:cx}{a b:Bool}(h1:Ev f s a s)(h2:Ev g s b s):Ev (dP f g (aX false)) s (a&&b) s:=by
 cases a with
 | true=>exact iT h1 h2
 | false=>exact iF h1 rfl
theorem RJ(h:List aq){s t:Sh}(hs:yg s)(ht:yg t):gT h (enc s) (enc t)=some (.bl (eqT (vE s) (vE t))):=by
 have e1:=toT_enc h s fQ (by have:=hs.2;show _<1000;lia)
 have e2:=toT_enc h t fQ (by have:=ht.2;show _<1000;lia)
 show((toT h fQ (enc s)).bind λx=>(toT h fQ (enc t)).map λy=>eqT x y).map PV.bl=_
 rw[e1,e2];rfl
theorem yr{α:Type}{l:List α}(h:l.isEmpty=false):0<l.length:=by
 cases l with
 | nil=>cases h
 | cons a l=>simp
theorem jo{α:Type}{l:List α}{x:α}(h:x∈l):0<l.length:=by
 cases l with
 | nil=>cases h
 | cons a l=>simp
section
variable {ks:List Rk} (K:mW ks) (M:Nat)
abbrev SL(ks:List Rk):PV:=.lst ((k0 ks).map kQ)
theorem m6(K:mW ks):∀s∈k0 ks,cy ks s:=λs hs=>(iy K.ok s hs).1
theorem tJ(K:mW ks):(k0 ks).length<=1000:=by
 have h1:=yq K.ok;have h2:=K.few
 lia
theorem Fx{l:List Sp}{f:Sp->Bool}(h:∀s∈l,cy ks s):∀s∈l.filter f,cy ks s:=λs hs=>h s (b9.mp hs).1
theorem V0{α:Type}{link:List (Option Nat)}{fi:Gx yD}{bd:Bd}{s s1:cx}{l:List α}{e G:α->PV}{f:α->Bool}(hi:Ev fi s (.sq (l.map e)) s1)(hl:l.length<=4000000)(hb:∀a∈l,bd (bK link s1.ρ) (e a) s1.h=some (if f a=true then some (G a)else none,s1.h)):Ev (da false link fi bd) s (.lst ((l.filter f).map G)) s1:=by
 have z:∀l:List α,(∀a∈l,bd (bK link s1.ρ) (e a) s1.h=some (if f a=true then some (G a)else none,s1.h))->(l.map e).filterMap (λp=>match bd (bK link s1.ρ) p s1.h with | some (o,_)=>o | none=>none)=(l.filter f).map G:=by
  intro l;induction l with
  | nil=>exact λ_=>rfl
  | cons a l ih =>
   intro h;have h1:=h a aE;have h2:=ih λb hb=>h b (aF _ hb)
   rw[aI,ny,h1,h2];cases hf:f a<;>simp[v9,hf]
 rw[<-z l hb];refine cQ hi (by rw[ak];exact hl) λp hp=>?_
 obtain⟨a,ha,rfl⟩:=aM.mp hp;rw[hb a ha]
theorem Po(s:Sh):oY false [] oP (.lst (bR (lv s)))=some (.bl ((lv s).any pE)):=by
 have hd:=sU (xG s);have e:=toT_encs [] (lv s) fQ (by rw[hd];decide)
 have e0:NW [] oP (bR (lv s))=some ((lv s).any pE):=by
  unfold NW;rw[e,show toT [] fQ oP=some (.ao [.str "own"])from rfl,<-DT]
  rfl
 have e1:oY false [] oP (.lst (bR (lv s)))=(NW [] oP (bR (lv s))).map λb=>.bl (if false=true then !b else b):=rfl
 rw[e1,e0];rfl
def Fy(s t:Sp):Bool:=eqT (vE t.r.2.2.2) (vE s.r.2.2.2)&&may t.d
theorem HI(K:mW ks){s:Sp}(hs:yg s.r.2.2.2)(x0 x1 x2 x4 x6 x7 x8:Option PV):Ek (da false [none,none,none,none,some 5] Qz (jB Qg Qk (rd 1))) (S0 [x0,x1,x2,some (SL ks),x4,some (enc s.r.2.2.2),x6,x7,x8]) (.lst (((k0 ks).filter (Fy s)).map aO)):=by
 have hl:=tJ K;refine V0 (sV rfl rfl) (by lia) λt ht=>?_
 have ok:=m6 K t ht;have g:Ek Qk (S0 [none,some (aO t),some (enc t.r.2.2.2),some (.bl (may t.d)),some (enc s.r.2.2.2)]) (Fy s t):=nD (bT (b2 rfl rfl (RJ _ (yp ok.ok ok.row) hs))) (tR rfl rfl);cases hg:Fy s t with
 | true=>rw[hg]at g;exact Mx rfl g rfl
 | false=>rw[hg]at g;exact Hd rfl g
end
theorem FA{ks:List Rk}{N:List Sp}(h:∀s∈N,cy ks s):gT [] (.lst (N.map aO)) (.lst [])=some (.bl N.isEmpty):=by
 have e:∀l:List Sp,(∀s∈l,cy ks s)->∃ts,cJ (toT [] 999) (l.map aO)=some ts/\ts.length=l.length:=by
  intro l;induction l with
  | nil=>exact λ_=>⟨[],rfl,rfl⟩
  | cons s l ih =>
   intro h;obtain⟨ts,h1,h2⟩:=ih λt ht=>h t (aF _ ht)
   obtain⟨t0,ht0⟩:∃t0,toT [] 999 (aO s)=some t0:=by
    have hp:∀p:List Int,cJ (toT [] 997) (p.map PV.int)=some (p.map Tr.int):=λp=>by
     induction p with
     | nil=>rfl
     | cons i p ih=>show((cJ (toT [] 997) (p.map PV.int)).map _)=_;rw[ih];rfl
    have hq:toT [] 998 (.ao (s.r.1.map PV.int))=some (.ao (s.r.1.map Tr.int)):=by
     show((cJ (toT [] 997) (s.r.1.map PV.int)).bind (Jy .ao))=_;rw[hp];rfl
    obtain⟨ta,hta⟩:∃ta,toT [] 998 s.a=some ta:=by
     have hA:=(h s aE).at_
     revert hA
     generalize s.a=a
     intro hA;cases hA<;>exact⟨_,rfl⟩
    refine⟨.ao [.str s.x,.bl (dA s.d),.ao (s.r.1.map Tr.int),ta],?_⟩;show((cJ (toT [] 998) [.str s.x,.bl (dA s.d),.ao (s.r.1.map PV.int),s.a]).bind (Jy .ao))=_;simp only[cJ,hq,hta];rfl
   refine⟨t0::ts,?_,by simp[h2]⟩
   rw[aI];simp only[cJ,ht0,h1];rfl
 obtain⟨ts,h1,h2⟩:=e N h;have e1:toT [] fQ (.lst (N.map aO))=some (.lst ts):=by
  show((cJ (toT [] 999) (N.map aO)).bind (Jy .lst))=_;rw[h1];rfl
 show((toT [] fQ (.lst (N.map aO))).bind λx=>(toT [] fQ (.lst [])).map λy=>eqT x y).map PV.bl=_
 rw[e1];cases N with
 | nil=>cases ts with
  | nil=>rfl
  | cons _ _=>simp at h2
 | cons _ _=>cases ts with
  | nil=>simp at h2
  | cons _ _=>rfl
section
variable {ks:List Rk} (K:mW ks) (M:Nat) (fn:Nat->PV) (C:Cs)
include K in
theorem HJ(k:Nat)(hk:3<=k)(w:Str)(a b:Int)(h0:0<(k0 ks).length):∃p,Gives (run txt (k+2) "_law_carried" [.str w,.int a,.int b,SL ks] []) p/\uL fn C ks M p:=by
 rw[xX];refine Rt.run ?_;obtain⟨s,hs,xp⟩:=dk (k0 ks) kQ a h0;have ok:=m6 K s hs;have hz:0<(((k0 ks).map kQ).length:Int):=by rw[ak];lia
 have h3:=(yp ok.ok ok.row);have hlv:=oJ s.r.2.2.2 k (by have:=h3.2;lia) (by have:=h3.1;have:=Ao s.r.2.2.2;lia)
 obtain⟨G,hG⟩:∃G,G=(k0 ks).filter (Fy s):=⟨_,rfl⟩
 have gc:=HI K h3 (some (.str w)) (some (.int a)) (some (.int b)) (some (aO s)) (some (.bl (may s.d))) none none;rw[<-hG]at gc;have hGs:∀t∈G,cy ks t:=by rw[hG];exact Fx (m6 K)
 have sa:s.a=.bB:=(iy K.ok s hs).2;have na:∀t∈G,t.a=.bB:=by rw[hG];exact λt ht=>(iy K.ok t (b9.mp ht).1).2
 have Mt:∀t∈G,t.r.2.2.2=s.r.2.2.2:=by rw[hG];exact λt ht=>tF _ _ (fu.mp (b9.mp ht).2).1
 have hgm:∀t∈G,may t.d=true:=by rw[hG];exact λt ht=>(fu.mp (b9.mp ht).2).2
 obtain⟨o,ho⟩:∃o,o=(lv s.r.2.2.2).any pE:=⟨_,rfl⟩
 have io:=Po s.r.2.2.2;rw[<-ho]at io;have a1:Ev (c8 (op2 bN (rd 3) (op2 fO (rd 1) (gw gv Qe))) Qj) (S0 [some (.str w),some (.int a),some (.int b),some (SL ks),none,none,none,none,none]) .nx (S0 [some (.str w),some (.int a),some (.int b),some (SL ks),some (aO s),some (enc s.r.2.2.2),some (.bl (may s.d)),none,none]):=aS (b2 rfl (b2 rfl (bV (cA rfl rfl) rfl) (cR hz)) (xp _)) rfl;refine xS a1 (xS (aS gc rfl) (xS (aS (b2 rfl (cU rfl rfl rfl hlv) io) rfl) ?_));refine xI (oB (bT (b2 rfl rfl (FA hGs))) (nD (tR rfl rfl) (tR rfl rfl))) (λ_=>?_) λhc=>?_
 ·exact xR rfl rfl ⟨.Bq (.n a),rfl,trivial⟩
 ·have hGe:G.isEmpty=false:=(Bool.or_eq_false_iff.mp hc).1;obtain⟨t,ht,hgt⟩:=dk G aO b (yr hGe);have V1:0<((G.map aO).length:Int):=by have:=yr hGe;rw[ak];lia
  have gx:Ek (op2 bN (rd 7) (op2 fO (rd 2) QA)) (S0 [some (.str w),some (.int a),some (.int b),some (SL ks),some (aO s),some (enc s.r.2.2.2),some (.bl (may s.d)),some (.lst (G.map aO)),some (.bl o)]) (aO t):=b2 rfl (b2 rfl (bV (cA rfl rfl) rfl) (cR V1)) (hgt _);have nt:=fF (hGs t ht);have ns:=fF ok;refine xI (oB (tR rfl rfl) (nD (bT (b2 rfl rfl (fE _ _ _))) (nB (tR rfl rfl)))) (λhm=>?_) λ_=>?_
  ·refine xR (tU (cA rfl (cA gx (cA rfl rfl))) (by simp)) (by simp[noRef,ai,nt,ns]) ⟨.oM t s,rfl,hGs t ht,ok,na t ht,sa,Mt t ht,hgm t ht,?_⟩
   have QF:=(Bool.or_eq_false_iff.mp hc).2;cases o with
   | true=>rw[wq]at QF;exact QF
   | false =>
    rw[Bool.false_or]at hm;have:=(fu.mp hm).2;cases h:dA s.d
    ·rfl
    ·rw[h]at this;cases this
  ·exact xR (tU (cA rfl (cA gx (cA rfl rfl))) (by simp)) (by simp[noRef,ai,nt,ns]) ⟨.oK t s,rfl,hGs t ht,ok,na t ht,sa,Mt t ht,hgm t ht⟩
end
section
variable {ks:List Rk} (K:mW ks) (M:Nat) (fn:Nat->PV) (C:Cs)
abbrev KL(ks:List Rk):PV:=.lst (ks.map bD)
def Pp(s:Sh)(w:Str)(t:Sp):Bool:=eqT (vE t.r.2.2.2) (vE s)&&(may t.d || w==(Str.ofString "lend"))
theorem LJ(K:mW ks)(b:Bool)(s:Sh)(hs:yg s)(w:Str)(x0 x1 x2 x4 x5 x8:Option PV):Ek (da false [none,none,none,none,some 6,some 7] Qz (jB Qg Q9 (rd 1))) (S0 [x0,x1,x2,some (SL ks),x4,x5,some (encK (.ho b s)),some (.str w),x8]) (.lst (((k0 ks).filter (Pp s w)).map aO)):=by
 have hl:=tJ K;refine V0 (sV rfl rfl) (by lia) λt ht=>?_
 have ok:=m6 K t ht;have g:Ek Q9 (S0 [none,some (aO t),some (enc t.r.2.2.2),some (.bl (may t.d)),some (encK (.ho b s)),some (.str w)]) (Pp s w t):=nD (bT (b2 rfl (b2 rfl rfl rfl) (RJ _ (yp ok.ok ok.row) hs))) (oB (tR rfl rfl) (bT (b2 rfl rfl (fE _ _ _))));cases hg:Pp s w t with
 | true=>rw[hg]at g;exact Mx rfl g rfl
 | false=>rw[hg]at g;exact Hd rfl g
theorem HK(K:mW ks)(x0 x1 x3 x4 x5 x6 x7 x8:Option PV):Ek (da false [none,none] (jC (rd 2)) (jB (aU 1) Qr (rd 1))) (S0 [x0,x1,some (KL ks),x3,x4,x5,x6,x7,x8]) (.lst ((ks.filter λq=>dA q.2).map bD)):=by
 have hl:=K.few;refine V0 (sV rfl rfl) (by lia) λq hq=>?_
 have g:Ek Qr (S0 [none,some (bD q)]) (dA q.2):=bT (b2 (b2 (b2 rfl rfl rfl) rfl (lV _ q.2)) rfl (mX _ q.2));cases hg:dA q.2 with
 | true=>rw[hg]at g;exact Mx rfl g rfl
 | false=>rw[hg]at g;exact Hd rfl g
include K in
theorem HL(k:Nat)(a b:Int)(hh:∃q∈ks,dA q.2=true):∃p,Gives (run txt (k+1) "_law_lending" [.int a,.int b,KL ks,SL ks] []) p/\uL fn C ks M p:=by
 rw[xY];refine Rt.run ?_;obtain⟨q0,hq0,hi0⟩:=hh;have h0:0<(ks.filter λq=>dA q.2).length:=jo (b9.mpr ⟨hq0,hi0⟩)
 obtain⟨q,hq,xp⟩:=dk (ks.filter λq=>dA q.2) bD a h0
 obtain⟨hqk,hqi⟩:=b9.mp hq;have hz:0<(((ks.filter λq=>dA q.2).map bD).length:Int):=by rw[ak];lia
 obtain⟨G,hG⟩:∃G,G=(ks.filter λq=>dA q.2).map bD:=⟨_,rfl⟩
 have sc:=HK K (some (.int a)) (some (.int b)) (some (SL ks)) none none none none none;rw[<-hG]at sc xp hz;obtain⟨x,d⟩:=q;cases d with
 | ow s=>cases hqi
 | ho bb s =>
  obtain⟨w,hw,hwb,e1⟩:∃w:Str,w=lw bb/\(may (.ho bb s) || w==(Str.ofString "lend"))=true/\Ek (op2 bN (lJ .lst (au (kS "lend") (au (kS "sole") (aX [])))) (gw Gz (au (op2 gT (op2 bN (rd 6) (kI 0)) (kS "sole")) (aX [])))) (S0 [some (.int a),some (.int b),some (KL ks),some (SL ks),some (.lst G),some (.str x),some (encK (.ho bb s)),none,none]) (.str w):=by
   cases bb with
   | true=>exact⟨"sole",rfl,by show(!((Str.ofString "sole")==(Str.ofString "lent")) || _)=true;decide +kernel,b2 (y:=.int 1) rfl (bV (cA (b2 (b2 rfl rfl (lV _ _)) rfl (fE _ _ _)) rfl) (by kernel_rfl)) rfl⟩
   | false=>exact⟨"lend",rfl,by show(!((Str.ofString "lent")==(Str.ofString "lent")) || _)=true;decide +kernel,b2 (y:=.int 0) rfl (bV (cA (b2 (b2 rfl rfl (lV _ _)) rfl (fE _ _ _)) rfl) (by kernel_rfl)) rfl⟩
  have fc:=LJ K bb s (K.ok _ hqk) w (some (.int a)) (some (.int b)) (some (KL ks)) (some (.lst G)) (some (.str x)) none;obtain⟨T,hT⟩:∃T,T=(k0 ks).filter (Pp s w):=⟨_,rfl⟩
  have Z7:0<T.length:=by
   rw[hT];refine jo (b9.mpr ⟨mY hqk,?_⟩);show(eqT (vE s) (vE s)&&(may (.ho bb s) || _))=true;rw[j5,hwb];rfl
  have Gk:∀t∈T,cy ks t:=by rw[hT];exact Fx (m6 K)
  have WZ:∀t∈T,t.a=.bB:=by rw[hT];exact λt ht=>(iy K.ok t (b9.mp ht).1).2
  have hTx:∀t∈T,s=t.r.2.2.2:=by rw[hT];exact λt ht=>(tF _ _ (fu.mp (b9.mp ht).2).1).symm
  have hTm:∀t∈T,bb=true->may t.d=true:=by
   rw[hT];intro t ht hb;have:=(fu.mp (b9.mp ht).2).2;rw[hw,hb]at this;rw[show(lw true==Str.ofString "lend")=false by decide +kernel,Bool.or_false]at this
   exact this
  rw[<-hT]at fc;obtain⟨t,ht,Z8⟩:=dk T aO b Z7;have V1:0<((T.map aO).length:Int):=by rw[ak];lia
  refine xS (aS sc rfl) (xS (aS (b2 rfl (b2 rfl (bV (cA rfl rfl) rfl) (cR hz)) (xp _)) rfl) (xS (aS e1 rfl) (xS (aS fc rfl) (xR (tU (cA rfl (cA rfl (cA (b2 rfl (b2 rfl (bV (cA rfl rfl) rfl) (cR V1)) (Z8 _)) rfl))) (by simp)) (by simp[noRef,ai,fF (Gk t ht)]) ⟨.iS x bb t,by rw[hw];rfl,Gk t ht,WZ t ht,hTx t ht▸hqk,hTm t ht⟩))))
end
theorem Pq{ks:List Rk}{N:List Sp}(h:∀s∈N,cy ks s):Mu [] (.lst (N.map aO)) (.lst [])=some (.bl (!N.isEmpty)):=by
 have e:=FA h;have e1:∀o:Option Bool,o.map PV.bl=some (.bl N.isEmpty)->(o.map λb=>PV.bl !b)=some (.bl (!N.isEmpty)):=λo ho=>by
  cases o with
  | none=>cases ho
  | some b =>
   have:b=N.isEmpty:=by injection ho with z;injection z
   rw[this];rfl
 exact e1 _ e
section
variable {ks:List Rk} (K:mW ks) (M:Nat) (fn:Nat->PV) (C:Cs)
include K in
theorem Pr(k:Nat)(w:Str)(a:Int){o:Op}(ho:dH ks o)(hw:∃q∈ks,dA q.2=false):∃p,Gives (run txt (k+1) "_law_small_row" [.str w,.int a,dM o,SL ks] []) p/\uL fn C ks M p:=by
 rw[sO];refine Rt.run ?_;have hl:=tJ K;refine xI (bT (b2 rfl rfl (fE _ _ _))) (λ_=>?_) λ_=>?_
 ·have c1:Ek (da false [none,none,none,none] Qz (jB Qg (zj (gf Q2)) (rd 1))) (S0 [some (.str w),some (.int a),some (dM o),some (SL ks),none,none]) (.lst (((k0 ks).filter λt=>!dA t.d).map aO)):=by
   refine V0 (sV rfl rfl) (by lia) λt ht=>?_
   have g:Ek (zj (gf Q2)) (S0 [none,some (aO t),some (enc t.r.2.2.2),some (.bl (may t.d))]) (!dA t.d):=nB (tR rfl rfl);cases hg:(!dA t.d)with
   | true=>rw[hg]at g;exact Mx rfl g rfl
   | false=>rw[hg]at g;exact Hd rfl g
  obtain⟨q,hq,hqi⟩:=hw;obtain⟨T,hT⟩:∃T,T=(k0 ks).filter λt=>!dA t.d:=⟨_,rfl⟩
  have Z7:0<T.length:=by
   rw[hT];exact jo (b9.mpr ⟨mY hq,by show(!dA q.2)=true;rw[hqi];rfl⟩)
  have Gk:∀t∈T,cy ks t:=by rw[hT];exact Fx (m6 K)
  have WZ:∀t∈T,t.a=.bB:=by rw[hT];exact λt ht=>(iy K.ok t (b9.mp ht).1).2
  have hTi:∀t∈T,dA t.d=false:=by
   rw[hT];intro t ht;have:=(b9.mp ht).2;cases h:dA t.d
   ·rfl
   ·rw[h]at this;cases this
  rw[<-hT]at c1;obtain⟨t,ht,Z8⟩:=dk T aO a Z7;have V1:0<((T.map aO).length:Int):=by rw[ak];lia
  exact xS (aS c1 rfl) (xR (tU (cA rfl (cA (b2 rfl (b2 rfl (bV (cA rfl rfl) rfl) (cR V1)) (Z8 _)) rfl)) (by simp)) (by simp[noRef,ai,fF (Gk t ht)]) ⟨.drop t,rfl,Gk t ht,WZ t ht,hTi t ht⟩)
 ·have c1:Ek (da false [none,none,none,none] Qz (jB Qg Qf (rd 1))) (S0 [some (.str w),some (.int a),some (dM o),some (SL ks),none,none]) (.lst (((k0 ks).filter λt=>A0 t.r.2.2.2&&may t.d).map aO)):=by
   refine V0 (sV rfl rfl) (by lia) λt ht=>?_
   have g:Ek Qf (S0 [none,some (aO t),some (enc t.r.2.2.2),some (.bl (may t.d))]) (A0 t.r.2.2.2&&may t.d):=nD (bT (b2 (b2 rfl rfl (pA _ _)) rfl (RH _ _))) (tR rfl rfl);cases hg:(A0 t.r.2.2.2&&may t.d)with
   | true=>rw[hg]at g;exact Mx rfl g rfl
   | false=>rw[hg]at g;exact Hd rfl g
  obtain⟨T,hT⟩:∃T,T=(k0 ks).filter λt=>A0 t.r.2.2.2&&may t.d:=⟨_,rfl⟩
  have Gk:∀t∈T,cy ks t:=by rw[hT];exact Fx (m6 K)
  have WZ:∀t∈T,t.a=.bB:=by rw[hT];exact λt ht=>(iy K.ok t (b9.mp ht).1).2
  have hTm:∀t∈T,may t.d=true:=by rw[hT];exact λt ht=>(fu.mp (b9.mp ht).2).2
  rw[<-hT]at c1;refine xS (aS c1 rfl) (xI (nD (bT (b2 rfl rfl (fE _ _ _))) (bT (b2 rfl rfl (Pq Gk)))) (λhc=>?_) λ_=>?_)
  ·have hTe:T.isEmpty=false:=by
    have:=(fu.mp hc).2;cases h:T.isEmpty
    ·rfl
    ·rw[h]at this;cases this
   obtain⟨t,ht,Z8⟩:=dk T aO a (yr hTe);have V1:0<((T.map aO).length:Int):=by have:=yr hTe;rw[ak];lia
   exact xR (tU (cA rfl (cA (b2 rfl (b2 rfl (bV (cA rfl rfl) rfl) (cR V1)) (Z8 _)) (cA rfl rfl))) (by simp)) (by simp[noRef,ai,fF (Gk t ht),dH.nr ho]) ⟨.put true t o,rfl,Gk t ht,ho,hTm t ht,λ_=>WZ t ht,.inl (WZ t ht)⟩
  ·exact xR (tU (cA rfl (cA rfl rfl)) (by simp)) (by simp[noRef,ai,dH.nr ho]) ⟨.Bq o,rfl,ho⟩
end
theorem lC{ts:Gx (List PV)}{s s1:cx}{ps:List PV}(h:Ev ts s ps s1)(hl:ps.length<=4000000):Ev (zm ts) s (.ref s1.h.length) ⟨s1.ρ,s1.h++[⟨.lst,ps⟩]⟩:=eB h (eB (by show(small ps PV.bB).map _=_;rw[show small ps PV.bB=some .bB from if_pos hl];rfl) rfl)
structure V2 (C:Cs) (ks:List Rk) (LK OT OW:List Rk) (BK:List (Option Rk)):Prop where
 lk:(∀r∈LK,r∈ks/\r.2=C.d4)/\0<LK.length
 ot:(∀r∈OT,r∈ks/\r.2=C.d5)/\0<OT.length
 ow:(∀r∈OW,r∈ks/\r.2=C.d1)/\0<OW.length
 bk:(∀o∈BK,(∀r,o=some r->r∈ks)/\o.map (·.2)=C.r1)/\0<BK.length
section
variable {ks:List Rk} (K:mW ks) (M:Nat) (fn:Nat->PV) (C:Cs)
def Pt(a b:Int)(CA f0 f1 f2:PV)(L T O B:List PV)(pl:Int)(x:Option PV)(h:List aq):cx:=⟨[some (.int a),some (.int b),some CA,some (.lst [f0,f1,f2]),some (.lst L),some (.lst T),some (.lst O),some (.lst B),some (.int pl),x],h⟩
include K in
theorem V3(k:Nat)(a b:Int)(Ed:∀j,noRef (fn j)=true){LK OT OW:List Rk}{BK:List (Option Rk)}(Q:V2 C ks LK OT OW BK)(hp:0<=C.pl/\C.pl<6):∃p,Gives (run txt (k+1) "_law_call" [.int a,.int b,.ao [.lst [fn 0,fn 1,fn 2],.lst (LK.map ei),.lst (OT.map ei),.lst (OW.map ei),.lst (BK.map Fv),.int C.pl]] []) p/\uL fn C ks M p:=by
 rw[Hq];refine Rt.run ?_;obtain⟨l1,hl1,al1⟩:=dk LK ei b Q.lk.2;obtain⟨o1,ho1,ao1⟩:=dk OW ei (b/8) Q.ow.2;obtain⟨t1,ht1,at1⟩:=dk OT ei (b/8) Q.ot.2;obtain⟨o2,ho2,ao2⟩:=dk OW ei (b/64) Q.ow.2;obtain⟨l2,WL,al2⟩:=dk LK ei (a/4) Q.lk.2;obtain⟨k1,hk1,ak1⟩:=dk BK Fv (a/4) Q.bk.2;have zl:0<((LK.map ei).length:Int):=by have:=Q.lk.2;rw[ak];lia
 have zo:0<((OW.map ei).length:Int):=by have:=Q.ow.2;rw[ak];lia
 have zt:0<((OT.map ei).length:Int):=by have:=Q.ot.2;rw[ak];lia
 have zk:0<((BK.map Fv).length:Int):=by have:=Q.bk.2;rw[ak];lia
 have hL:∀r∈LK,r∈ks/\r.2=C.d4:=Q.lk.1
 have hO:∀r∈OW,r∈ks/\r.2=C.d1:=Q.ow.1
 have hT:∀r∈OT,r∈ks/\r.2=C.d5:=Q.ot.1
 have hB:∀o∈BK,(∀r,o=some r->r∈ks)/\o.map (·.2)=C.r1:=Q.bk.1
 obtain⟨f0,e0⟩:∃f0,f0=fn 0:=⟨_,rfl⟩
 obtain⟨f1,e1⟩:∃f1,f1=fn 1:=⟨_,rfl⟩
 obtain⟨f2,e2⟩:∃f2,f2=fn 2:=⟨_,rfl⟩
 have n0:noRef f0=true:=by rw[e0];exact Ed 0
 have n1:noRef f1=true:=by rw[e1];exact Ed 1
 have n2:noRef f2=true:=by rw[e2];exact Ed 2
 rw[<-e0,<-e1,<-e2];obtain⟨pl,epl⟩:∃pl,pl=C.pl:=⟨_,rfl⟩
 rw[<-epl]at hp ⊢;obtain⟨L,eL⟩:∃L,L=LK.map ei:=⟨_,rfl⟩
 obtain⟨O,eO⟩:∃O,O=OW.map ei:=⟨_,rfl⟩
 obtain⟨T,eT⟩:∃T,T=OT.map ei:=⟨_,rfl⟩
 obtain⟨B,eB⟩:∃B,B=BK.map Fv:=⟨_,rfl⟩
 rw[<-eL]at al1 al2 zl;rw[<-eO]at ao1 ao2 zo;rw[<-eT]at at1 zt;rw[<-eB]at ak1 zk;rw[<-eL,<-eO,<-eT,<-eB];obtain⟨CA,Z9⟩:∃CA,CA=PV.ao [.lst [f0,f1,f2],.lst L,.lst T,.lst O,.lst B,.int pl]:=⟨_,rfl⟩
 have ev1:Ev Qa (S0 [some (.int a),some (.int b),some CA,none,none,none,none,none,none,none]) .nx (Pt a b CA f0 f1 f2 L T O B pl none []):=by rw[Z9];rfl
 rw[<-Z9];have d4:∀(v:Int) (x:Option PV) (h:List aq),Ek (toB (op2 gT (op2 fO (rd 0) (kI 4)) (aX (.int v)))) (Pt a b CA f0 f1 f2 L T O B pl x h) (a%4==v):=λv x h=>bT (b2 (b2 rfl rfl (cR (by decide))) rfl (oI _ _ _))
 refine xS ev1 (xI (d4 0 none []) (λ_=>?_) λ_=>?_)
 ·exact xR rfl (by simp[noRef,ai,n0]) ⟨.call none 0 [],by rw[e0];rfl,by decide,rfl,rfl,(λ_ h=>nomatch h),by simp,λ_ h=>nomatch h⟩
 have pkL:∀(x:Option PV) (h:List aq),Ek (op2 bN (rd 4) (op2 fO (rd 1) (gw gv (au (rd 4) (aX []))))) (Pt a b CA f0 f1 f2 L T O B pl x h) (ei l1):=λx h=>b2 rfl (b2 rfl (bV (cA rfl rfl) rfl) (cR zl)) (al1 _)
 have pkO:∀(x:Option PV) (h:List aq),Ek (op2 bN (rd 6) (op2 fO (op2 hZ (rd 1) (kI 8)) (gw gv Qx))) (Pt a b CA f0 f1 f2 L T O B pl x h) (ei o1):=λx h=>b2 rfl (b2 (b2 rfl rfl (vH (by decide))) (bV (cA rfl rfl) rfl) (cR zo)) (ao1 _)
 have pkT:∀(x:Option PV) (h:List aq),Ek (op2 bN (rd 5) (op2 fO (op2 hZ (rd 1) (kI 8)) (gw gv Qu))) (Pt a b CA f0 f1 f2 L T O B pl x h) (ei t1):=λx h=>b2 rfl (b2 (b2 rfl rfl (vH (by decide))) (bV (cA rfl rfl) rfl) (cR zt)) (at1 _)
 refine xS (aS (lC (cA (pkL none []) (cA (pkO none []) rfl)) (by simp)) rfl) ?_
 refine xI (d4 1 _ _) (λ_=>?_) λ_=>?_
 ·have d2:Ek (toB (op2 gT (op2 fO (rd 8) (kI 2)) (kI 1))) (Pt a b CA f0 f1 f2 L T O B pl (some (.ref 0)) [⟨.lst,[ei l1,ei o1]⟩]) (pl%2==1):=bT (b2 (b2 rfl rfl (cR (by decide))) rfl (oI _ _ _))
  have jI:∀(r1 r2:Rk),r1∈ks->r2∈ks->[r1.2,r2.2]=pk C 1->Rt (uL fn C ks M) (retS (lJ .ao (au (kS "call") (au (op2 bN (rd 7) (op2 fO (op2 hZ (rd 0) (kI 4)) QA)) (au (op2 bN (rd 3) (kI 1)) (au (gw Gy (au (rd 9) (aX []))) (aX [])))))) (Pt a b CA f0 f1 f2 L T O B pl (some (.ref 0)) [⟨.lst,[ei r1,ei r2]⟩])):=by
   intro r1 r2 h1 h2 h3;refine xR (tU (cA rfl (cA (b2 rfl (b2 (b2 rfl rfl (vH (by decide))) (bV (cA rfl rfl) rfl) (cR zk)) (ak1 _)) (cA (b2 rfl rfl rfl) (cA (bV rfl rfl) rfl)))) (by simp)) (by simp[noRef,ai,n1]) ⟨.call k1 1 [r1,r2],by rw[e1];rfl,by decide,(hB k1 hk1).2,h3,(λr hr=>?_),by simp,(hB k1 hk1).1⟩
   simp only[aD,eu,eA]at hr;rcases hr with rfl | rfl
   ·exact h1
   ·exact h2
  cases hb:(pl%2==1)with
  | true =>
   rw[hb]at d2;exact xS (iT d2 rfl) (jI o1 l1 (hO _ ho1).1 (hL _ hl1).1 (by rw[(hO _ ho1).2,(hL _ hl1).2];show _=(if C.pl%2=1 then _ else _);rw[<-epl,if_pos (bf hb)]))
  | false =>
   rw[hb]at d2;exact xS (iF d2 rfl) (jI l1 o1 (hL _ hl1).1 (hO _ ho1).1 (by rw[(hO _ ho1).2,(hL _ hl1).2];show _=(if C.pl%2=1 then _ else _);rw[<-epl,if_neg (λz=>by rw[z]at hb;cases hb)]))
 ·refine xS (aS (lC (cA (pkL _ _) (cA (pkT _ _) rfl)) (by simp)) rfl) ?_
  obtain⟨j,hj,hj2⟩:∃j:Nat,pl/2=(j:Int)/\j<=2:=⟨(pl/2).toNat,by lia,by lia⟩
  have adX:Ev (gO (C5 "list" (jA (gW JG)) (rd 9) (au (op2 hZ (rd 8) (kI 2)) (au (op2 bN (rd 6) (op2 fO (op2 hZ (rd 1) (kI 64)) (gw gv Qx))) (aX []))))) (Pt a b CA f0 f1 f2 L T O B pl (some (.ref 1)) [⟨.lst,[ei l1,ei o1]⟩,⟨.lst,[ei l1,ei t1]⟩]) .nx (Pt a b CA f0 f1 f2 L T O B pl (some (.ref 1)) [⟨.lst,[ei l1,ei o1]⟩,⟨.lst,([l1,t1].take j++o2::[l1,t1].drop j).map ei⟩]):=by
   refine dS (p:=.bB) (yF (as:=[.int (j:Int),ei o2]) rfl rfl (cA (b2 rfl rfl (by rw[<-hj];exact vH (by decide))) (cA (b2 rfl (b2 (b2 rfl rfl (vH (by decide))) (bV (cA rfl rfl) rfl) (cR zo)) (ao2 _)) rfl)) ?_)
   have:j=0\/j=1\/j=2:=by lia
   rcases this with rfl | rfl | rfl<;>rfl
  refine xS adX ?_;obtain⟨ar,har⟩:∃ar,ar=[l1,t1].take j++o2::[l1,t1].drop j:=⟨_,rfl⟩
  rw[<-har];have ham:(∀r∈ar,r∈ks)/\ar.length<=4/\ar.map (·.2)=pk C 2:=by
   have:j=0\/j=1\/j=2:=by lia
   rcases this with rfl | rfl | rfl
   all_goals
    rw[har];refine⟨λr hr=>?_,by simp,?_⟩
    rotate_left
    ·show _=[C.d4,C.d5].take (C.pl/2).toNat++C.d1::[C.d4,C.d5].drop (C.pl/2).toNat;rw[<-epl,hj];simp[(hO _ ho2).2,(hL _ hl1).2,(hT _ ht1).2]
    simp at hr;rcases hr with rfl | rfl | rfl
    all_goals first | exact(hL _ hl1).1 | exact(hT _ ht1).1 | exact(hO _ ho2).1
  exact xR (tU (cA rfl (cA (b2 rfl (b2 (b2 rfl rfl (vH (by decide))) (bV (cA rfl rfl) rfl) (cR zl)) (al2 _)) (cA (b2 rfl rfl rfl) (cA (bV rfl rfl) rfl)))) (by simp)) (by simp[noRef,ai,n2,gd]) ⟨.call (some l2) 2 ar,by rw[e2];rfl,by decide,by show some l2.2=some C.d4;rw[(hL _ WL).2],ham.2.2,ham.1,ham.2.1,λr hr=>by cases hr;exact(hL _ WL).1⟩
end
theorem Pu(m:Int):∃y:Str,∀h,bN h (.str "+-*") (.int (m%3))=some (.str y):=by
 have:m%3=0\/m%3=1\/m%3=2:=by lia
 rcases this with h | h | h<;>rw[h]
 ·exact⟨"+",λ_=>by kernel_rfl⟩
 ·exact⟨"-",λ_=>by kernel_rfl⟩
 ·exact⟨"*",λ_=>by kernel_rfl⟩
theorem adZ(h:List aq)(w a b:Str):oY false h (.str w) (.ao [.str a,.str b])=some (.bl (a==w || (b==w || false))):=rfl
theorem LM{N:List Sp}(hl:N.length<=1000)(x0 x1 x2 x3 x4 x5 x7 x8 x9 yt uM nq nu:Option PV):Ek (da false [none,none,none] (jC (rd 6)) (jB Qc (gf (rd 2)) (rd 1))) (S0 [x0,x1,x2,x3,x4,x5,some (.lst (N.map jH)),x7,x8,x9,yt,uM,nq,nu]) (.lst ((N.filter λt=>may t.d).map aO)):=by
 refine V0 (sV rfl rfl) (by lia) λs hs=>?_
 have g:Ek (gf (rd 2)) (S0 [none,some (aO s),some (.bl (may s.d))]) (may s.d):=tR rfl rfl;cases hg:may s.d with
 | true=>rw[hg]at g;exact Mx (by rw[<-hg];rfl) g rfl
 | false=>rw[hg]at g;exact Hd (by rw[<-hg];rfl) g
abbrev mdT(W:List Str)(ks:List Rk)(x:Str)(dg:Int)(CA iz:PV):PV:=.ao [.lst (W.map .str),KL ks,SL ks,.lst ((RI ks x dg).map jH),CA,iz]
abbrev caT(fn:Nat->PV)(LK OT OW:List Rk)(BK:List (Option Rk))(pl:Int):PV:=.ao [.lst [fn 0,fn 1,fn 2],.lst (LK.map ei),.lst (OT.map ei),.lst (OW.map ei),.lst (BK.map Fv),.int pl]
theorem V4{ks:List Rk}{x:Str}{dg:Int}(h:VF ks):∀t∈RI ks x dg,nsp t:=λt ht=>by
 obtain⟨s,hs,ht⟩:=gn.mp ht;have hn:=(iy h s hs).2;unfold gZ at ht;split at ht
 ·rw[aB]at ht;subst ht;exact .inl hn
 ·rw[aB]at ht;subst ht;exact .inl hn
 ·rename_i e;rw[aB]at ht;subst ht;exact .inr (by show A0 s.r.2.2.2=true;rw[e];rfl)
 ·cases ht
theorem aaa(k:Nat)(hk:3<=k){ks:List Rk}(K:mW ks){M:Nat}(hM:0<M){W:List Str}(hW:0<W.length){x:Str}(hx:(x,Kn.ow .num)∈ks)(hh:∃q∈ks,dA q.2=true)(dg:Int){fn:Nat->PV}(Ed:∀j,noRef (fn j)=true){C:Cs}{LK OT OW:List Rk}{BK:List (Option Rk)}(Q:V2 C ks LK OT OW BK)(hp:0<=C.pl/\C.pl<6){iz:PV}(hln:noRef iz=true)(hla:uL fn C ks M iz)(Ce:Int) :
  ∃p,Gives (run txt (k+3) "_law_row" [.int Ce,.int (M:Int),mdT W ks x dg (caT fn LK OT OW BK C.pl) iz] []) p/\uL fn C ks M p:=by
 obtain⟨n1,n2,n3⟩:=D0 K hx dg;have n4:=V4 (x:=x) (dg:=dg) K.ok;obtain⟨tm,htm,hmy⟩:=n3;obtain⟨N,hN⟩:∃N,N=RI ks x dg:=⟨_,rfl⟩
 rw[<-hN]at n1 n2 n4 htm;have hN0:=jo htm;have h0:0<(k0 ks).length:=jo (mY hx);have hz:0<((W.map PV.str).length:Int):=by rw[ak];lia
 obtain⟨w,_,hwa⟩:=dk W PV.str (AW Ce 0) hW;obtain⟨a,ha⟩:∃a,a=AW Ce 1:=⟨_,rfl⟩
 obtain⟨b,hb⟩:∃b,b=AW Ce 2:=⟨_,rfl⟩
 have ma:=jl (k+1) Ce (i:=1) (by decide)
 have mb:=jl (k+1) Ce (i:=2) (by decide)
 have m0:=jl (k+1) Ce (i:=0) (by decide)
 rw[<-ha]at ma;rw[<-hb]at mb;obtain⟨one,e1,o1⟩:=vL (k+1) n1 hN0 Ce b;obtain⟨two,e2,o2⟩:=vL (k+1) n1 hN0 (Ce/7) a;obtain⟨pc,c1,c2⟩:=HJ K M fn C k hk w a b h0;obtain⟨pl',l1,l2⟩:=HL K M fn C (k+1) a b hh;obtain⟨pq,q1,q2⟩:=V3 K M fn C (k+1) a b Ed Q hp;obtain⟨ps,s1,s2⟩:=Pr K M fn C (k+1) w a o1 ⟨_,hx,rfl⟩;obtain⟨T,hT⟩:∃T,T=N.filter λt=>may t.d:=⟨_,rfl⟩
 have Z7:0<T.length:=by rw[hT];exact jo (b9.mpr ⟨htm,hmy⟩)
 have Gk:∀t∈T,cy ks t/\may t.d=true/\nsp t:=by
  rw[hT];exact λt ht=>⟨n1 t (b9.mp ht).1,(b9.mp ht).2,n4 t (b9.mp ht).1⟩
 obtain⟨t,ht,hta⟩:=dk T aO a Z7;obtain⟨t1,t2,t3⟩:=Gk t ht;have hTz:0<((T.map aO).length:Int):=by rw[ak];lia
 obtain⟨pm,hpm⟩:=Pu b;obtain⟨j,hj,hjM⟩:∃j:Nat,a%(M:Int)=(j:Int)/\j<M:=⟨(a%(M:Int)).toNat,by
  have:=jU a (show(M:Int)≠0 by lia)
  lia,by
  have:=qB a (show(0:Int)<(M:Int) by lia)
  have:=jU a (show(M:Int)≠0 by lia)
  lia⟩
 have gm:∀h,fO h (.int a) (.int (M:Int))=some (iN j):=λh=>by
  unfold iN;rw[<-hj];exact cR (by lia)
 unfold mdT;rw[<-hN];obtain⟨CA,Z9⟩:∃CA,CA=caT fn LK OT OW BK C.pl:=⟨_,rfl⟩
 rw[<-Z9];have q1:Gives (run txt (k+2) "_law_call" [.int a,.int b,CA] []) pq:=by rw[Z9];exact q1
 obtain⟨md,W0⟩:∃md,md=PV.ao [.lst (W.map .str),KL ks,SL ks,.lst (N.map jH),CA,iz]:=⟨_,rfl⟩
 rw[K9];refine Rt.run ?_;have a0:Ev Qa (S0 [some (.int Ce),some (.int (M:Int)),some md,none,none,none,none,none,none,none,none,none,none,none]) .nx (S0 [some (.int Ce),some (.int (M:Int)),some md,some (.lst (W.map .str)),some (KL ks),some (SL ks),some (.lst (N.map jH)),some CA,some iz,none,none,none,none,none]):=by rw[W0];exact aS rfl rfl
 rw[<-W0];have oc:=LM n2 (some (.int Ce)) (some (.int (M:Int))) (some md) (some (.lst (W.map .str))) (some (KL ks)) (some (SL ks)) (some CA) (some iz) (some (.int a)) (some (.int b)) (some (.str w)) none none;rw[<-hT]at oc;have nc:∀s:cx,s.h=[]->∀as:List PV,(s.h.isEmpty || ai as)=true:=λs h as=>by rw[h];rfl
 obtain⟨S,hS⟩:∃S:cx,S=S0 [some (.int Ce),some (.int (M:Int)),some md,some (.lst (W.map .str)),some (KL ks),some (SL ks),some (.lst (N.map jH)),some CA,some iz,some (.int a),some (.int b),some (.str w),some (.lst (T.map aO)),some (dM one)]:=⟨_,rfl⟩
 refine xS a0 (xS (aS (cU (cA rfl (cA rfl rfl)) rfl rfl ma) rfl) (xS (aS (cU (cA rfl (cA rfl rfl)) rfl rfl mb) rfl) (xS (aS (b2 (x:=.lst (W.map .str)) rfl (b2 (cU (cA rfl (cA rfl rfl)) rfl rfl m0) (bV (as:=[.lst (W.map .str)]) (cA rfl rfl) rfl) (cR hz)) (hwa _)) rfl) (xS (aS oc rfl) (xS (s1:=S) (aS (cU (cA rfl (cA rfl (cA rfl rfl))) rfl rfl e1) (by rw[hS];rfl)) ?_)))))
 have wd:∀v:Str,Ev (toB (op2 gT (rd 11) (aX (.str v)))) S (w==v) S:=λv=>by rw[hS];exact bT (b2 rfl rfl (fE _ _ _))
 have ot:Ev (op2 bN (rd 12) (op2 fO (rd 9) (gw gv (au (rd 12) (aX []))))) S (aO t) S:=by rw[hS];exact b2 (x:=.lst (T.map aO)) rfl (b2 (x:=.int a) rfl (bV (as:=[.lst (T.map aO)]) (cA rfl rfl) rfl) (cR hTz)) (hta _)
 have sa:Ev (rd 9) S (.int a) S:=by rw[hS];rfl
 have sb:Ev (rd 10) S (.int b) S:=by rw[hS];rfl
 have YK:Ev (rd 1) S (.int (M:Int)) S:=by rw[hS];rfl
 have so:Ev (rd 13) S (dM one) S:=by rw[hS];rfl
 have sh:(S.h.isEmpty)=true:=by rw[hS];rfl
 have cl:∀as:List PV,(S.h.isEmpty || ai as)=true:=λas=>by rw[sh];rfl
 have rw1:Ev (rd 11) S (.str w) S:=by rw[hS];rfl
 have r4:Ev (rd 4) S (KL ks) S:=by rw[hS];rfl
 have r5:Ev (rd 5) S (SL ks) S:=by rw[hS];rfl
 have r6:Ev (rd 6) S (.lst (N.map jH)) S:=by rw[hS];rfl
 have r7:Ev (rd 7) S CA S:=by rw[hS];rfl
 have r8:Ev (rd 8) S iz S:=by rw[hS];rfl
 have r0:Ev (rd 0) S (.int Ce) S:=by rw[hS];rfl
 have nS:noRef (aO t)=true:=fF t1;have nO:noRef (dM one)=true:=dH.nr o1;have nO2:noRef (dM two)=true:=dH.nr o2;have nX:∀p,uL fn C ks M p->noRef p=true:=λp ⟨r,h1,h2⟩=>by rw[h1];exact Fw Ed r h2
 refine xI (wd "put") (λ_=>?_) λ_=>?_
 ·exact xR (tU (ps:=[.str "put",aO t,dM one]) (cA rfl (cA ot (cA so rfl))) (by simp)) (by simp[noRef,ai,nS,nO]) ⟨.put false t one,rfl,t1,o1,t2,(λz=>nomatch z),t3⟩
 refine xI (wd "set") (λ_=>?_) λ_=>?_
 ·exact xR (tU (ps:=[.str "set",aO t,.str pm,dM one,dM two]) (cA rfl (cA ot (cA (b2 (x:=.str "+-*") rfl (b2 sb rfl (cR (by decide))) (hpm _)) (cA so (cA (cU (cA (b2 r0 rfl (vH (by decide))) (cA sa (cA r6 rfl))) rfl (cl _) e2) rfl))))) (by simp)) (by simp[noRef,ai,nS,nO,nO2]) ⟨.set t pm one two,rfl,t1,o1,o2,t2,t3⟩
 refine xI (bT (b2 (x:=.str w) (y:=.ao [.str "copy",.str "move"]) rw1 rfl (adZ _ _ _ _))) (λ_=>?_) λ_=>?_
 ·exact xR (cU (cA rw1 (cA sa (cA sb (cA r5 rfl)))) rfl (cl _) c1) (nX _ c2) c2
 refine xI (wd "lend") (λ_=>?_) λ_=>?_
 ·exact xR (cU (cA sa (cA sb (cA r4 (cA r5 rfl)))) rfl (cl _) l1) (nX _ l2) l2
 refine xI (wd "call") (λ_=>?_) λ_=>?_
 ·exact xR (cU (cA sa (cA sb (cA r7 rfl))) rfl (cl _) q1) (nX _ q2) q2
 refine xI (wd "give") (λ_=>?_) λ_=>?_
 ·exact xR r8 hln hla
 refine xI (wd "go") (λ_=>?_) λ_=>?_
 ·exact xR (tU (ps:=[.str "go",iN j]) (cA rfl (cA (b2 sa YK (gm _)) rfl)) (by simp)) rfl ⟨.go j,rfl,hjM⟩
 refine xI (wd "if") (λ_=>?_) λ_=>?_
 ·exact xR (tU (ps:=[.str "if",dM one,.int (b%97),iN j]) (cA rfl (cA so (cA (b2 sb rfl (cR (by decide))) (cA (b2 sa YK (gm _)) rfl)))) (by simp)) (by simp[noRef,ai,nO,iN]) ⟨.t7 one (b%97) j,rfl,o1,hjM⟩
 ·exact xR (cU (cA rw1 (cA sa (cA so (cA r5 rfl)))) rfl (cl _) s1) (nX _ s2) s2
def mC(ns:List Int)(i:Nat):Int:=AW (cell ns (1+i)) (i%4)
abbrev NM(C:Int):PV:=.lst (nmL C 13)
abbrev CE(ns:List Int):PV:=.lst ((List.range 7).map λi=>.int (mC ns i))
def HM(ns:List Int):List Sh:=[.num,iw (mC ns 0),iw (mC ns 1),iw (mC ns 2)]
abbrev OE(ns:List Int):PV:=.lst ((HM ns).map enc)
theorem LN(C:Int){q:Nat}(h:q<13)(H:List aq):bN H (NM C) (.int (q:Int))=some (.str (gY C q)):=atI_nat (by unfold nmL;rw[bH,nz h];rfl)
theorem RK(ns:List Int){q:Nat}(h:q<7)(H:List aq):bN H (CE ns) (.int (q:Int))=some (.int (mC ns q)):=atI_nat (by rw[bH,nz h];rfl)
theorem V5(ns:List Int):∀s∈HM ns,cK s:=λs hs=>by
 simp only[HM,aD,eu,eA]at hs;rcases hs with rfl | rfl | rfl | rfl
 ·exact Lp
 ·exact kD _
 ·exact kD _
 ·exact kD _
noncomputable def V6(S:Option PV)(NN:PV)(i:Nat)(CC OO:PV)(acc:List PV)(o6 o7:Option PV):cx:=⟨[S,some NN,some (.int (i:Int)),some CC,some OO,some (.ref 0),o6,o7],[⟨.lst,acc⟩]⟩
theorem m7(k:Nat)(hk:3<=k)(C:Int)(ns:List Int)(S:Option PV){i:Nat}(hi:i<4)(acc:List PV)(ha:acc.length<=100)(o6 o7:Option PV):∃(d:Kn) (HC Pe:Option PV),Ev (Hn (run txt (k+1))) (V6 S (NM C) i (CE ns) (OE ns) acc o6 o7) .nx (V6 S (NM C) i (CE ns) (OE ns) (acc++[bD (gY C (4+i),d)]) HC Pe)/\dA d=true/\cK (bE d):=by
 obtain⟨m,hm⟩:∃m,m=mC ns (3+i):=⟨_,rfl⟩
 have hc:=RK ns (q:=3+i) (by lia)
 rw[<-hm]at hc;obtain⟨CC,hCC⟩:∃CC,CC=CE ns:=⟨_,rfl⟩
 rw[<-hCC]at hc;rw[<-hCC];have hn:=LN C (q:=4+i) (by lia)
 obtain⟨NN,Mz⟩:∃NN,NN=NM C:=⟨_,rfl⟩
 rw[<-Mz]at hn;rw[<-Mz];have h3:∀h,eE h (.int 3) (.int (i:Int))=some (.int ((3+i:Nat):Int)):=λ_=>dB (λz=>some (PV.int z)) (by lia)
 have h4:∀h,eE h (.int 4) (.int (i:Int))=some (.int ((4+i:Nat):Int)):=λ_=>dB (λz=>some (PV.int z)) (by lia)
 obtain⟨s,hs,xp⟩:∃s∈HM ns,∀h,bN h (OE ns) (.int (1+m%3))=some (enc s):=by
  have:m%3=0\/m%3=1\/m%3=2:=by lia
  rcases this with h | h | h
  ·rw[h];exact⟨iw (mC ns 0),by simp[HM],λ_=>(atI_nat rfl:L2.jJ ((HM ns).map enc) ((1:Nat):Int)=_)⟩
  ·rw[h];exact⟨iw (mC ns 1),by simp[HM],λ_=>(atI_nat rfl:L2.jJ ((HM ns).map enc) ((2:Nat):Int)=_)⟩
  ·rw[h];exact⟨iw (mC ns 2),by simp[HM],λ_=>(atI_nat rfl:L2.jJ ((HM ns).map enc) ((3:Nat):Int)=_)⟩
 have fs:=V5 ns s hs;obtain⟨OO,hOO⟩:∃OO,OO=OE ns:=⟨_,rfl⟩
 rw[<-hOO]at xp;rw[<-hOO];have hp:=yo s k (by have:=fs.1.1.2;lia) (by have:=fs.1.1.1;lia)
 obtain⟨r,hr,hra⟩:=dk (tab s) jG (m/9) (xK s);have hz:0<(((tab s).map jG).length:Int):=by have:=xK s;rw[ak];lia
 obtain⟨T,hT⟩:∃T,T=(tab s).map jG:=⟨_,rfl⟩
 rw[<-hT]at hp hra hz;obtain⟨b,hb⟩:∃b:Bool,∀h,bN h (.lst [.str "lent",.str "sole",.str "sole"]) (.int (m/3%3))=some (.str (hw b)):=by
  have:m/3%3=0\/m/3%3=1\/m/3%3=2:=by lia
  rcases this with h | h | h
  ·rw[h];exact⟨false,λ_=>rfl⟩
  ·rw[h];exact⟨true,λ_=>rfl⟩
  ·rw[h];exact⟨true,λ_=>rfl⟩
 refine⟨.ho b r.2.2.2,some (.lst T),some (.str (hw b)),?_,rfl,Lq fs hr⟩;have c0:∀(x6 x7:Option PV),Ek (op2 bN (rd 3) (op2 eE (kI 3) (rd 2))) (V6 S NN i CC OO acc x6 x7) (.int m):=λx6 x7=>b2 rfl (b2 rfl rfl (h3 _)) (hc _)
 refine sq (aS (cU (cA (b2 rfl (b2 rfl (b2 (c0 _ _) rfl (cR (by decide))) rfl) (xp _)) rfl) rfl (by simp[ai,dv]) hp) rfl) (sq (aS (b2 rfl (b2 (b2 (c0 _ _) rfl (vH (by decide))) rfl (cR (by decide))) (hb _)) rfl) ?_)
 have ln:∀h,gv h [.lst T]=some (.int (T.length:Int)):=λ_=>rfl
 exact dS (yF rfl rfl (cA (tU (cA (b2 rfl (b2 rfl rfl (h4 _)) (hn _)) (cA (tU (cA rfl (cA (b2 (b2 rfl (b2 (b2 (c0 _ _) rfl (vH (by decide))) (bV (cA rfl rfl) (ln _)) (cR hz)) (hra _)) rfl rfl) rfl)) (by simp)) rfl)) (by simp)) rfl) (aC rfl (by lia)))
abbrev ltL(C:Int)(ns:List Int)(d4 d5 d6 d7:Kn):List Rk:=[(gY C 0,.ow .num),(gY C 1,.ow (iw (mC ns 0))),(gY C 2,.ow (iw (mC ns 1))),(gY C 3,.ow (iw (mC ns 2))),(gY C 4,d4),(gY C 5,d5),(gY C 6,d6),(gY C 7,d7)]
theorem tK:∀l:List Rk,ai (l.map bD)=true
 | []=>rfl
 | r::l=>by rw[aI];simp[ai,noRef,bD,ye,tK l]
theorem V7(k:Nat)(hk:3<=k)(C:Int)(ns:List Int):∃d4 d5 d6 d7:Kn,Gives (run txt (k+2) "_law_lets" [qj ns,NM C] []) (.lst ((ltL C ns d4 d5 d6 d7).map bD))/\(dA d4=true/\cK (bE d4))/\(dA d5=true/\cK (bE d5))/\(dA d6=true/\cK (bE d6))/\(dA d7=true/\cK (bE d7)):=by
 obtain⟨S,hS⟩:∃S,S=qj ns:=⟨_,rfl⟩
 have jZ:∀i:Nat,Gives (run txt (k+1) "_law_cell_at" [S,.int (i:Int)] []) (.int (cell ns i)):=λi=>by rw[hS];exact DW k ns i
 obtain⟨acc,oo⟩:∃acc,acc=(([(gY C 0,.ow .num),(gY C 1,.ow (iw (mC ns 0))),(gY C 2,.ow (iw (mC ns 1))),(gY C 3,.ow (iw (mC ns 2)))]:List Rk).map bD):=⟨_,rfl⟩
 have hal:acc.length=4:=by rw[oo];rfl
 obtain⟨d4,x6,x7,h4,i4⟩:=m7 k hk C ns (some S) (i:=0) (by decide) acc (by lia) none none
 obtain⟨d5,y6,y7,h5,i5⟩:=m7 k hk C ns (some S) (i:=1) (by decide) (acc++[bD (gY C 4,d4)]) (by simp;lia) x6 x7
 obtain⟨d6,z6,z7,h6,i6⟩:=m7 k hk C ns (some S) (i:=2) (by decide) (acc++[bD (gY C 4,d4)]++[bD (gY C 5,d5)]) (by simp;lia) y6 y7
 obtain⟨d7,v6,v7,h7,i7⟩:=m7 k hk C ns (some S) (i:=3) (by decide) (acc++[bD (gY C 4,d4)]++[bD (gY C 5,d5)]++[bD (gY C 6,d6)]) (by simp;lia) z6 z7
 refine⟨d4,d5,d6,d7,?_,i4,i5,i6,i7⟩;rw[Ho,<-hS];have c1:Ek (da false [none,none,some 0] (CY (uj xj (au (kI 7) (aX [])))) (lM (aU 1) (bnd (au (bnd (au (rd 2) (au (op2 eE (kI 1) (rd 1)) (aX []))) (b8 0 2 (run txt (k+1) "_law_cell_at"))) (au (op2 fO (rd 1) (kI 4)) (aX []))) (b8 0 2 (run txt (k+1) "_law_mixed"))))) (S0 [some S,some (NM C),none,none,none,none,none,none]) (CE ns):=by
  refine cM (mU (cA rfl rfl) (by lia)) (by simp) λi hi=>?_
  have e0:nk i=iN i:=by unfold nk iN;rw[lB]
  rw[e0];have h1:∀h,eE h (.int 1) (.int (i:Int))=some (.int ((1+i:Nat):Int)):=λ_=>dB (λz=>some (PV.int z)) (by lia)
  have h2:∀h,fO h (.int (i:Int)) (.int 4)=some (.int ((i%4:Nat):Int)):=λh=>by
   rw[cR (by decide)]
   exact dB (λz=>some (PV.int z)) (by lia)
  exact e1 rfl (cU (cA (cU (cA rfl (cA (b2 rfl rfl (h1 _)) rfl)) rfl rfl (jZ (1+i))) (cA (b2 rfl rfl (h2 _)) rfl)) rfl rfl (jl k (cell ns (1+i)) (by lia)))
 have c2:Ek (op2 eE (lJ .lst (au (lJ .ao (au (kS "num") (aX []))) (aX []))) (da false [none,none,some 3] (CY (uj xj (au (kI 3) (aX [])))) (lM (aU 1) (bnd (au (op2 bN (rd 2) (rd 1)) (aX [])) (b8 0 1 (run txt (k+1) "_law_shape")))))) (S0 [some S,some (NM C),none,some (CE ns),none,none,none,none]) (OE ns):=by
  refine b2 (x:=.lst [enc .num]) (y:=.lst ((List.range 3).map λi=>enc (iw (mC ns i)))) rfl (cM (mU (j:=3) (cA rfl rfl) (by lia)) (by simp) λi hi=>?_) (aL (by simp))
  have hi:=gq.mp hi;have e0:nk i=iN i:=by unfold nk iN;rw[lB]
  rw[e0];have hc:=RK ns (q:=i) (by lia)
  obtain⟨CC,hCC⟩:∃CC,CC=CE ns:=⟨_,rfl⟩
  rw[<-hCC]at hc;rw[<-hCC];exact e1 (rM:=[none,some (iN i),some CC]) (h1:=[]) rfl (cU (cA (b2 (x:=CC) (y:=.int (i:Int)) rfl rfl (hc _)) rfl) rfl rfl (Pd k (mC ns i)))
 have c3:Ev (c8 (da true [none,none,some 1,some 4] (CY (uj xj (au (kI 4) (aX [])))) (lM (aU 1) (lJ .ao (au (op2 bN (rd 2) (rd 1)) (au (op2 bN (rd 3) (rd 1)) (aX [])))))) (aU 5)) (S0 [some S,some (NM C),none,some (CE ns),some (OE ns),none,none,none]) .nx ⟨[some S,some (NM C),none,some (CE ns),some (OE ns),some (.ref 0),none,none],[⟨.lst,acc⟩]⟩:=by
  have ea:acc=(List.range 4).map λi=>PV.ao [.str (gY C i),enc ((HM ns).getD i .num)]:=by rw[oo];rfl
  rw[ea];refine aS (cN (mU (j:=4) (cA rfl rfl) (by lia)) (by simp) (cF _ λi hi=>?_)) rfl
  have hi:=gq.mp hi;have e0:nk i=iN i:=by unfold nk iN;rw[lB]
  rw[e0];have hn:=LN C (q:=i) (by lia)
  have ho:∀h,bN h (OE ns) (.int (i:Int))=some (enc ((HM ns).getD i .num)):=λ_=>(atI_nat (by
   have:i=0\/i=1\/i=2\/i=3:=by lia
   rcases this with rfl | rfl | rfl | rfl<;>rfl):L2.jJ ((HM ns).map enc) (i:Int)=_)
  obtain⟨NN,Mz⟩:∃NN,NN=NM C:=⟨_,rfl⟩
  rw[<-Mz]at hn;rw[<-Mz];obtain⟨OO,hOO⟩:∃OO,OO=OE ns:=⟨_,rfl⟩
  rw[<-hOO]at ho;rw[<-hOO];exact e1 (rM:=[none,some (iN i),some NN,some OO]) (h1:=[]) rfl (tU (cA (b2 (x:=NN) (y:=.int (i:Int)) rfl rfl (hn _)) (cA (b2 (x:=OO) (y:=.int (i:Int)) rfl rfl (ho _)) rfl)) (by simp))
 have hl:acc++[bD (gY C 4,d4)]++[bD (gY C 5,d5)]++[bD (gY C 6,d6)]++[bD (gY C 7,d7)]=(ltL C ns d4 d5 d6 d7).map bD:=by rw[oo];rfl
 rw[hl]at h7;refine⟨.ref 0,_,jj (sq (aS c1 rfl) (sq (aS c2 rfl) (sq c3 (sq (fS (mU (j:=4) (cA rfl rfl) (by lia)) (fC (s1:=V6 (some S) (NM C) 0 (CE ns) (OE ns) acc none none) rfl h4 (fC (s1:=V6 (some S) (NM C) 1 (CE ns) (OE ns) (acc++[bD (gY C 4,d4)]) x6 x7) rfl h5 (fC (s1:=V6 (some S) (NM C) 2 (CE ns) (OE ns) (acc++[bD (gY C 4,d4)]++[bD (gY C 5,d5)]) y6 y7) rfl h6 (fC (s1:=V6 (some S) (NM C) 3 (CE ns) (OE ns) (acc++[bD (gY C 4,d4)]++[bD (gY C 5,d5)]++[bD (gY C 6,d6)]) z6 z7) rfl h7 rfl))))) (rS rfl))))),oH (tK _)⟩
theorem aae(h:List aq):NR h (.int 10) (.int 12)=some (.int (10^12)):=by kernel_rfl
theorem qp(m:Int):m%4=0\/m%4=1\/m%4=2\/m%4=3:=by lia
structure Md where
 C:Int
 s1:Sh
 s2:Sh
 s3:Sh
 b4:Bool
 t4:Sh
 b5:Bool
 t5:Sh
 d6:Kn
 d7:Kn
 pl:Int
 bk:Int
 L:List Ro
namespace Md
variable (m:Md)
abbrev d4:Kn:=.ho m.b4 m.t4
abbrev d5:Kn:=.ho m.b5 m.t5
def nm(i:Nat):Str:=gY m.C i
def P:List Rk:=if m.pl%2=1 then [(m.nm 9,.ow m.s1),(m.nm 8,m.d4)]else [(m.nm 8,m.d4),(m.nm 9,.ow m.s1)]
def LT:List Rk:=[(m.nm 0,.ow .num),(m.nm 1,.ow m.s1),(m.nm 2,.ow m.s2),(m.nm 3,.ow m.s3),(m.nm 4,m.d4),(m.nm 5,m.d5),(m.nm 6,m.d6),(m.nm 7,m.d7)]
def ks:List Rk:=m.P++m.LT
noncomputable def so1:List Nat:=if m.bk%4=2 then [8]else []
noncomputable def so2:List Nat:=if m.bk/4%4=0 then []else if m.bk/4%4=1 then [0]else if m.bk/4%4=2 then [1]else [0,1]
def sT(l:List Nat):PV:=.ao (l.map λi=>.str (m.nm i))
def res:PV:=if m.bk%4=0 then .bB else if m.bk%4=3 then enc m.s2 else .ao [.str (hw m.b5),enc m.t5,m.sT m.so1]
def z:Option Rk:=if m.bk%4=0 then none else if m.bk%4=3 then some (m.nm 2,.ow m.s2)else some (m.nm 5,m.d5)
def hd:List Rk:=[(m.nm 0,m.d4),(m.nm 1,m.d5)].take (m.pl/2).toNat++(m.nm 2,.ow m.s1)::[(m.nm 0,m.d4),(m.nm 1,m.d5)].drop (m.pl/2).toNat
def fn(j:Nat):PV:=.str (m.nm (10+j))
def cs:Cs:=⟨.ow m.s1,m.d4,m.d5,m.z.map (·.2),m.pl⟩
def rows:List PV:=m.L.map (bt m.fn)
def F1:PV:=Bp (m.fn 1) m.res (.ao m.rows) m.P m.LT
def F0:PV:=.ao [m.fn 0,.ao [],.bB,.ao [],.ao [.ao [.str "give",.str ""]]]
def F2:PV:=.ao [m.fn 2,.ao (m.hd.map bD),.ao [.str (hw m.b4),enc m.t4,m.sT m.so2],.ao [],.ao [.ao [.str "give",.str (m.nm 0)]]]
def prog:PV:=.ao [m.F0,m.F1,m.F2]
end Md
structure cZ (m:Md) (most:Nat):Prop where
 f1:cK m.s1
 f2:cK m.s2
 f3:cK m.s3
 f4:cK m.t4
 f5:cK m.t5
 f6:dA m.d6=true/\cK (bE m.d6)
 f7:dA m.d7=true/\cK (bE m.d7)
 pl:0<=m.pl/\m.pl<6
 rows:∃L,m.L=L++[.eR m.z]/\L.length<=most
 ok:∀r∈m.L,tH m.cs m.ks m.L.length r
theorem D1(C:Int):∀l:List (Fin 26),l.Nodup->(l.map λi=>gY C i.1).Nodup
 | [],_=>lz
 | i::l,h=>by
  rw[gJ]at h;rw[aI,gJ];refine⟨λhm=>?_,D1 C l h.2⟩
  obtain⟨j,hj,e⟩:=aM.mp hm;have:=Pb j.2 i.2 e;exact h.1 (by rw[<-Fin.ext this];exact hj)
section
variable {m:Md}
theorem tM:m.ks.length=10:=by
 unfold Md.ks Md.P;split<;>rfl
theorem RL{q:Rk}(h:q∈m.P):q=(m.nm 9,.ow m.s1)\/q=(m.nm 8,m.d4):=by
 unfold Md.P at h;split at h
 all_goals simp only[aD,eu,eA]at h
 ·exact h
 ·exact h.symm
theorem RM{q:Rk}(h:q∈m.LT):q=(m.nm 0,.ow .num)\/q=(m.nm 1,.ow m.s1)\/q=(m.nm 2,.ow m.s2)\/q=(m.nm 3,.ow m.s3)\/q=(m.nm 4,m.d4)\/q=(m.nm 5,m.d5)\/q=(m.nm 6,m.d6)\/q=(m.nm 7,m.d7):=by
 unfold Md.LT at h;simpa only[aD,eu,eA]using h
theorem vO:(m.ks.map (·.1)).Nodup:=by
 unfold Md.ks Md.P;split
 ·exact D1 m.C [9,8,0,1,2,3,4,5,6,7] (by decide)
 ·exact D1 m.C [8,9,0,1,2,3,4,5,6,7] (by decide)
theorem RN{q:Rk}(h:q∈m.ks):∃i,i<10/\q.1=m.nm i:=by
 rcases bh.mp h with h | h
 ·rcases RL h with rfl | rfl
  ·exact⟨9,by decide,rfl⟩
  ·exact⟨8,by decide,rfl⟩
 ·rcases RM h with rfl | rfl | rfl | rfl | rfl | rfl | rfl | rfl
  ·exact⟨0,by decide,rfl⟩
  ·exact⟨1,by decide,rfl⟩
  ·exact⟨2,by decide,rfl⟩
  ·exact⟨3,by decide,rfl⟩
  ·exact⟨4,by decide,rfl⟩
  ·exact⟨5,by decide,rfl⟩
  ·exact⟨6,by decide,rfl⟩
  ·exact⟨7,by decide,rfl⟩
theorem RO(f1:cK m.s1)(f2:cK m.s2)(f3:cK m.s3)(f4:cK m.t4)(f5:cK m.t5)(f6:cK (bE m.d6))(f7:cK (bE m.d7)):mW m.ks:=by
 refine⟨vO,λq h=>?_,by rw[tM];decide,λq h=>?_⟩
 ·rcases bh.mp h with h | h
  ·rcases RL h with rfl | rfl
   ·exact f1
   ·exact f4
  ·rcases RM h with rfl | rfl | rfl | rfl | rfl | rfl | rfl | rfl
   ·exact Lp
   ·exact f1
   ·exact f2
   ·exact f3
   ·exact f4
   ·exact f5
   ·exact f6
   ·exact f7
 ·obtain⟨i,_,e⟩:=RN h;rw[e];exact Lm m.C i
theorem cZ.ks{most:Nat}(h:cZ m most):mW m.ks:=RO h.f1 h.f2 h.f3 h.f4 h.f5 h.f6.2 h.f7.2
theorem m8(j:Nat):noRef (m.fn j)=true:=rfl
theorem RP:∀r,m.z=some r->r∈m.ks:=λr h=>by
 unfold Md.z at h;have m2:((m.nm 2,.ow m.s2):Rk)∈m.ks:=cV _ (by simp[Md.LT])
 have m5:((m.nm 5,m.d5):Rk)∈m.ks:=cV _ (by simp[Md.LT])
 split at h
 ·cases h
 ·split at h
  ·cases h;exact m2
  ·cases h;exact m5
end
def fk(ks:List Rk)(d:Kn):List Rk:=ks.filter λq=>eqT (LI q.2) (LI d)
theorem FC{ks:List Rk}{r:Rk}(h:r∈ks):(∀q∈fk ks r.2,q∈ks/\q.2=r.2)/\0<(fk ks r.2).length:=⟨λq hq=>⟨(b9.mp hq).1,VY _ _ (b9.mp hq).2⟩,jo (b9.mpr ⟨h,j5 _⟩)⟩
theorem toT_K(h:List aq){d:Kn}(hs:yg (bE d)):toT h fQ (encK d)=some (LI d):=by
 cases d with
 | ow s=>exact toT_enc h s fQ (by have:=hs.2;simp only[bE]at this;show _<1000;lia)
 | ho b s =>
  have e1:=toT_enc h s 999 (by have:=hs.2;simp only[bE]at this;show _<999;lia)
  show((cJ (toT h 999) [.str (hw b),enc s]).bind (Jy .ao))=_;simp only[cJ,e1];rfl
theorem aag(h:List aq){d e:Kn}(hd:yg (bE d))(he:yg (bE e)):gT h (encK d) (encK e)=some (.bl (eqT (LI d) (LI e))):=by
 show((toT h fQ (encK d)).bind λx=>(toT h fQ (encK e)).map λy=>eqT x y).map PV.bl=_
 rw[toT_K h hd,toT_K h he];rfl
theorem qr{ks:List Rk}(K:mW ks){s:cx}{LL:PV}(h8:Ev (rd 8) s (KL ks) s)(G3:bK [none,none,none,some 4] s.ρ=[none,none,none,some LL]){j:Int}{q0:Rk}(hq:q0∈ks)(hj:∀h,bN h LL (.int j)=some (bD q0)):Ev (da false [none,none,none,some 4] (jC (rd 8)) (jB Qc (toB (op2 gT (rd 2) (op2 bN (op2 bN (rd 3) (aX (.int j))) (kI 1)))) (rd 1))) s (.lst ((fk ks q0.2).map ei)) s:=by
 have hl:=K.few;refine V0 (sV h8 rfl) (by lia) λq wL=>?_
 rw[G3];have g:Ek (toB (op2 gT (rd 2) (op2 bN (op2 bN (rd 3) (aX (.int j))) (kI 1)))) ⟨[none,some (.str q.1),some (encK q.2),some LL],s.h⟩ (eqT (LI q.2) (LI q0.2)):=bT (b2 rfl (b2 (b2 rfl rfl (hj _)) rfl rfl) (aag _ (K.ok q wL) (K.ok q0 hq)));cases hg:eqT (LI q.2) (LI q0.2)with
 | true=>rw[hg]at g;exact Mx rfl g rfl
 | false=>rw[hg]at g;exact Hd rfl g
theorem HN(ns:List Int)(n:Nat):∃cs:List Int,jy (ns.map PV.int) (some 8) (some (8+(n:Int)))=cs.map .int/\cs.length<=n:=by
 have e1:=HT.wM (ns.map PV.int).length 0 8;have e2:=HT.wM (ns.map PV.int).length (ns.map PV.int).length (8+n);unfold jy;rw[show(some 8:Option Int)=some ((8:Nat):Int)from rfl,show(some (8+(n:Int)):Option Int)=some ((8+n:Nat):Int) by rw[Int.natCast_add];rfl,e1,e2,<-List.map_drop,<-wt]
 exact⟨_,rfl,by rw[lr];lia⟩
theorem FD{fn:Nat->PV}{R:Ro->Prop}{bd:PV->List aq->Option (Option PV×List aq)}{h:List aq}:∀cs:List Int,(∀c∈cs,∃r,bd (.int c) h=some (some (bt fn r),h)/\R r)->∃L:List Ro,dO bd (cs.map PV.int) h=some (L.map (bt fn),h)/\(∀r∈L,R r)/\L.length=cs.length
 | [],_=>⟨[],rfl,(λ_ z=>nomatch z),rfl⟩
 | c::cs,H=>by
  obtain⟨r,h1,h2⟩:=H c aE;obtain⟨L,h3,h4,h5⟩:=FD cs λc hc=>H c (aF _ hc)
  refine⟨r::L,?_,λq hq=>?_,by simp[h5]⟩
  ·show(bd (.int c) h).bind _=_;rw[h1];show(dO bd (cs.map PV.int) h).map _=_;rw[h3];rfl
  ·rcases aD.mp hq with rfl | hq
   ·exact h2
   ·exact h4 q hq
theorem cN'{link:List (Option Nat)}{fi:Gx yD}{bd:Bd}{s s1:cx}{ps qs:List PV}(hi:Ev fi s (.sq ps) s1)(hl:ps.length<=4000000)(hb:dO (bd (bK link s1.ρ)) ps s1.h=some (qs,s1.h)):Ev (da false link fi bd) s (.lst qs) s1:=eB hi (by
 show(if ps.length<=fq then dO _ ps s1.h else none).bind _=_
 rw[if_pos (show ps.length<=fq from hl),hb]
 rfl)
theorem FE:∀l:List Str,ai (l.map PV.str)=true
 | []=>rfl
 | _::l=>by rw[aI];simp[ai,noRef,FE l]
theorem yu:∀l:List PV,(∀p∈l,noRef p=true)->ai l=true
 | [],_=>rfl
 | p::l,h=>by simp[ai,h p aE,yu l λq hq=>h q (aF _ hq)]
def pS(l:List (Option PV))(h:List aq):cx:=⟨(l.reverse++List.replicate 24 none).take 24,h⟩
theorem aQ{fa:Gx PV}{g:Gx dE}{P:PV->Prop}{l:List (Option PV)}{h h':List aq}{p q:PV}{s1:cx}{i:Nat}(a:Ev fa (pS l h) p s1)(hq:p=q)(hs:s1=pS l h')(ht:aU i q (pS l h')=some (pS (some q::l) h')) (k:Rt P (g (pS (some q::l) h'))):Rt P (dX (c8 fa (aU i)) g (pS l h)):=by
 subst hq hs;exact xS (aS a ht) k
theorem aP{fa:Gx PV}{g:Gx dE}{P:PV->Prop}{l:List (Option PV)}{h:List aq}{p:PV}{i:Nat}(a:Ek fa (pS l h) p)(ht:aU i p (pS l h)=some (pS (some p::l) h)) (k:Rt P (g (pS (some p::l) h))):Rt P (dX (c8 fa (aU i)) g (pS l h)):=xS (aS a ht) k
theorem xH{f g:Gx dE}{P:PV->Prop}{l:List (Option PV)}{h h':List aq}(a:Ev f (pS l h) .nx (pS l h'))(k:Rt P (g (pS l h'))):Rt P (dX f g (pS l h)):=xS a k
theorem HP(k:Nat)(hk:3<=k)(ns:List Int)(most:Nat)(afA:most<=31){W:List Str}(hW:0<W.length):∃m,Gives (run txt (k+4) "_law_program" [qj ns,.int (most:Int),.lst (W.map .str)] []) (Md.prog m)/\cZ m most:=by
 obtain⟨S,hS⟩:∃S,S=qj ns:=⟨_,rfl⟩
 have jZ:Gives (run txt (k+3) "_law_cell_at" [S,.int 0] []) (.int (cell ns 0)):=by rw[hS];exact DW (k+2) ns 0
 obtain⟨C,hC⟩:∃C,C=cell ns 0%10^12:=⟨_,rfl⟩
 have hn:=Pc (k+2) C 13 (by decide)
 obtain⟨d4,d5,d6,d7,CS,i4,i5,i6,i7⟩:=V7 (k+1) (by lia) C ns
 obtain⟨back,aah⟩:∃back,back=AW (cell ns 0) 3:=⟨_,rfl⟩
 have hb:=jl (k+2) (cell ns 0) (i:=3) (by decide)
 rw[<-aah]at hb;obtain⟨b4,t4,e4⟩:∃b4 t4,d4=.ho b4 t4:=by
  cases d4 with
  | ow s=>cases i4.1
  | ho b s=>exact⟨b,s,rfl⟩
 obtain⟨b5,t5,e5⟩:∃b5 t5,d5=.ho b5 t5:=by
  cases d5 with
  | ow s=>cases i5.1
  | ho b s=>exact⟨b,s,rfl⟩
 subst e4 e5;obtain⟨s1,q1⟩:∃s,s=iw (mC ns 0):=⟨_,rfl⟩
 obtain⟨s2,q2⟩:∃s,s=iw (mC ns 1):=⟨_,rfl⟩
 obtain⟨s3,q3⟩:∃s,s=iw (mC ns 2):=⟨_,rfl⟩
 have f1:=kD (mC ns 0);have f2:=kD (mC ns 1);have f3:=kD (mC ns 2);rw[<-q1]at f1;rw[<-q2]at f2;rw[<-q3]at f3;unfold ltL at CS;rw[<-q1,<-q2,<-q3]at CS;obtain⟨m0,RQ⟩:∃m:Md,m=⟨C,s1,s2,s3,b4,t4,b5,t5,d6,d7,back/1024%6,back,[]⟩:=⟨_,rfl⟩
 have hp6:0<=m0.pl/\m0.pl<6:=by rw[RQ];show 0<=back/1024%6/\back/1024%6<6;lia
 have K:mW m0.ks:=by rw[RQ];exact RO f1 f2 f3 i4.2 i5.2 i6.2 i7.2
 have fm:cK m0.s1/\cK m0.s2/\cK m0.s3/\cK m0.t4/\cK m0.t5/\(dA m0.d6=true/\cK (bE m0.d6))/\(dA m0.d7=true/\cK (bE m0.d7)):=by rw[RQ];exact⟨f1,f2,f3,i4.2,i5.2,i6,i7⟩
 have CS:Gives (run txt (k+1+2) "_law_lets" [qj ns,NM C] []) (.lst (m0.LT.map bD)):=by rw[RQ];exact CS
 have hbk:m0.bk=back:=by rw[RQ]
 have l8:m0.pl=back/1024%6:=by rw[RQ]
 have hCm:m0.C=C:=by rw[RQ]
 clear RQ;have LTm:∀q∈m0.LT,q∈m0.ks:=λq hq=>cV _ hq
 have M0:((m0.nm 0,Kn.ow .num):Rk)∈m0.ks:=LTm _ (by simp[Md.LT])
 have M1:((m0.nm 1,Kn.ow m0.s1):Rk)∈m0.ks:=LTm _ (by simp[Md.LT])
 have M2:((m0.nm 2,Kn.ow m0.s2):Rk)∈m0.ks:=LTm _ (by simp[Md.LT])
 have M4:((m0.nm 4,m0.d4):Rk)∈m0.ks:=LTm _ (by simp[Md.LT])
 have M5:((m0.nm 5,m0.d5):Rk)∈m0.ks:=LTm _ (by simp[Md.LT])
 obtain⟨LL,V8⟩:∃LL,LL=PV.lst (m0.LT.map bD):=⟨_,rfl⟩
 have l1:∀h,bN h LL (.int 1)=some (bD (m0.nm 1,.ow m0.s1)):=λ_=>by rw[V8];rfl
 have l2:∀h,bN h LL (.int 2)=some (bD (m0.nm 2,.ow m0.s2)):=λ_=>by rw[V8];rfl
 have l4:∀h,bN h LL (.int 4)=some (bD (m0.nm 4,m0.d4)):=λ_=>by rw[V8];rfl
 have l5:∀h,bN h LL (.int 5)=some (bD (m0.nm 5,m0.d5)):=λ_=>by rw[V8];rfl
 obtain⟨NN,Mz⟩:∃NN,NN=NM C:=⟨_,rfl⟩
 have nn:∀q:Nat,q<13->∀h,bN h NN (.int (q:Int))=some (.str (m0.nm q)):=λq hq h=>by
  rw[Mz];show _=some (PV.str (gY m0.C q));rw[hCm];exact LN C hq h
 have n0:∀h,bN h NN (.int 0)=some (.str (m0.nm 0)):=nn 0 (by decide)
 have n1:∀h,bN h NN (.int 1)=some (.str (m0.nm 1)):=nn 1 (by decide)
 have n2:∀h,bN h NN (.int 2)=some (.str (m0.nm 2)):=nn 2 (by decide)
 have n5:∀h,bN h NN (.int 5)=some (.str (m0.nm 5)):=nn 5 (by decide)
 have n8:∀h,bN h NN (.int 8)=some (.str (m0.nm 8)):=nn 8 (by decide)
 have n9:∀h,bN h NN (.int 9)=some (.str (m0.nm 9)):=nn 9 (by decide)
 have n10:∀h,bN h NN (.int 10)=some (m0.fn 0):=nn 10 (by decide)
 have n11:∀h,bN h NN (.int 11)=some (m0.fn 1):=nn 11 (by decide)
 have n12:∀h,bN h NN (.int 12)=some (m0.fn 2):=nn 12 (by decide)
 have ad4:∀h,Ez h (some 10) none NN=some (.lst [m0.fn 0,m0.fn 1,m0.fn 2]):=λh=>by
  rw[Mz];show some (PV.lst (jy _ (some 10) none))=some (.lst [.str (gY m0.C 10),.str (gY m0.C 11),.str (gY m0.C 12)]);rw[hCm];rfl
 obtain⟨cs,WI,hcl⟩:=HN ns most;have ad5:∀h,Ez h (some 8) (some (8+(most:Int))) S=some (.lst (cs.map .int)):=λh=>by
  rw[hS];show some (PV.lst (jy (ns.map .int) (some 8) (some (8+(most:Int)))))=_;rw[WI]
 have rs:∀h,bN h (.lst [.bB,.ao [.str (hw m0.b5),enc m0.t5,.ao []],.ao [.str (hw m0.b5),enc m0.t5,.ao [.str (m0.nm 8)]],enc m0.s2]) (.int (back%4))=some m0.res:=λ_=>by
  unfold Md.res Md.so1;rw[hbk];rcases qp back with h | h | h | h<;>rw[h]<;>rfl
 have rz:∀h,bN h (.lst [.str "",.str (m0.nm 5),.str (m0.nm 5),.str (m0.nm 2)]) (.int (back%4))=some (Fv m0.z):=λ_=>by
  unfold Md.z;rw[hbk];rcases qp back with h | h | h | h<;>rw[h]<;>rfl
 obtain⟨BK,hBK,hB1,hB2⟩:∃BK:List (Option Rk),(∀h,bN h (.lst [.lst [.str ""],.lst ((fk m0.ks m0.d5).map ei),.lst ((fk m0.ks m0.d5).map ei),.lst ((fk m0.ks (.ow m0.s2)).map ei)]) (.int (back%4))=some (.lst (BK.map Fv)))/\(∀o∈BK,(∀r,o=some r->r∈m0.ks)/\o.map (·.2)=m0.z.map (·.2))/\0<BK.length:=by
  have sm:∀{r:Rk},r∈m0.ks->m0.z.map (·.2)=some r.2->(∀o∈(fk m0.ks r.2).map some,(∀q,o=some q->q∈m0.ks)/\o.map (·.2)=m0.z.map (·.2))/\0<((fk m0.ks r.2).map some).length:=λ{r} hr hz=>by
   obtain⟨g1,g2⟩:=FC hr;refine⟨λo ho=>?_,by rw[ak];exact g2⟩
   obtain⟨q',wL,rfl⟩:=aM.mp ho;exact⟨λq hq=>by cases hq;exact(g1 _ wL).1,by rw[hz];show some q'.2=_;rw[(g1 _ wL).2]⟩
  have mm:∀l:List Rk,(l.map some).map Fv=l.map ei:=λl=>by rw[cX];rfl
  unfold Md.z at sm ⊢;rw[hbk]at sm ⊢;rcases qp back with h | h | h | h<;>rw[h]at sm ⊢
  ·refine⟨[none],λ_=>rfl,λo ho=>?_,by simp⟩
   rw[aB]at ho;subst ho;exact⟨(λ_ z=>nomatch z),rfl⟩
  ·exact⟨(fk m0.ks m0.d5).map some,λ_=>by rw[mm];rfl,sm M5 rfl⟩
  ·exact⟨(fk m0.ks m0.d5).map some,λ_=>by rw[mm];rfl,sm M5 rfl⟩
  ·exact⟨(fk m0.ks (.ow m0.s2)).map some,λ_=>by rw[mm];rfl,sm M2 rfl⟩
 have CO:V2 m0.cs m0.ks (fk m0.ks m0.d4) (fk m0.ks m0.d5) (fk m0.ks (.ow m0.s1)) BK:=⟨FC M4,FC M5,FC M1,hB1,hB2⟩;have v20:∀h,bN h (.lst [.ao [],.ao [.str (m0.nm 0)],.ao [.str (m0.nm 1)],.ao [.str (m0.nm 0),.str (m0.nm 1)]]) (.int (back/4%4))=some (m0.sT m0.so2):=λ_=>by
  unfold Md.so2;rw[hbk];rcases qp (back/4)with h | h | h | h<;>rw[h]<;>rfl
 have ad6:=Pf (k+1) (by lia) m0.ks K.ok (by rw[tM];decide)
 have ad7:=HF (k+2) K M0 (back/16%64);obtain⟨iz,FF⟩:∃iz,iz=PV.ao [.str "give",Fv m0.z]:=⟨_,rfl⟩
 have hla:∀M,uL m0.fn m0.cs m0.ks M iz:=λM=>⟨.eR m0.z,FF,RP⟩
 have hln:noRef iz=true:=by rw[FF];rfl
 have V9:=λc:Int=>aaa k hk K (M:=cs.length+1) (by lia) hW M0 ⟨_,M4,rfl⟩ (back/16%64) m8 CO hp6 hln (hla _) c
 obtain⟨md,W0⟩:∃md,md=mdT W m0.ks (m0.nm 0) (back/16%64) (caT m0.fn (fk m0.ks m0.d4) (fk m0.ks m0.d5) (fk m0.ks (.ow m0.s1)) BK m0.pl) iz:=⟨_,rfl⟩
 have V9:∀c:Int,∃p,Gives (run txt (k+3) "_law_row" [.int c,.int ((cs.length+1:Nat):Int),md] []) p/\uL m0.fn m0.cs m0.ks (cs.length+1) p:=by rw[W0];exact V9
 have nrm:noRef md=true:=by rw[W0];simp[noRef,ai,FE,tK,Fo _ (m6 K),Lv _ (D0 K M0 (back/16%64)).1,hln,m8,gd]
 have aaj:∀hp:List aq,∃L:List Ro,dO (lM (aU 1) (bnd (au (rd 1) (au (op2 eE Q8 (kI 1)) Qe)) (b8 0 3 (run txt (k+3) "_law_row"))) [none,none,some (.lst (cs.map .int)),some md]) (cs.map PV.int) hp=some (L.map (bt m0.fn),hp)/\(∀r∈L,tH m0.cs m0.ks (cs.length+1) r)/\L.length=cs.length:=λhp=>by
  refine FD cs λc hc=>?_
  obtain⟨p,h1,r,h2,h3⟩:=V9 c;refine⟨r,?_,h3⟩;have hl1:Ek (op2 eE Q8 (kI 1)) ⟨[none,some (.int c),some (.lst (cs.map .int)),some md],hp⟩ (.int ((cs.length+1:Nat):Int)):=by
   refine b2 (x:=.int (cs.length:Int)) (bV (cA rfl rfl) ?_) rfl rfl;show some (PV.int (((cs.map PV.int).length:Nat):Int))=_;rw[ak]
  rw[h2]at h1;exact e1 rfl (cU (cA rfl (cA hl1 (cA rfl rfl))) rfl (by simp[ai,noRef,nrm]) h1)
 obtain⟨L,hL1,hL2,hL3⟩:=aaj [⟨.lst,m0.P.map bD⟩];have hLn:L.length<=most:=by lia
 obtain⟨m,hm⟩:∃m:Md,m={m0 with L:=L++[Ro.eR m0.z]}:=⟨_,rfl⟩
 refine⟨m,?_,?_⟩
 rotate_left
 ·rw[hm];obtain⟨g1,g2,g3,g4,g5,g6,g7⟩:=fm;refine⟨g1,g2,g3,g4,g5,g6,g7,hp6,⟨L,rfl,hLn⟩,λr hr=>?_⟩
  show tH m0.cs m0.ks (L++[Ro.eR m0.z]).length r;rw[aR,hL3];rcases bh.mp hr with h | h
  ·exact hL2 r h
  ·rw[aB]at h;subst h;exact RP
 have hR:m.rows=L.map (bt m0.fn)++[iz]:=by
  rw[hm,FF];show(L++[Ro.eR m0.z]).map (bt m0.fn)=_;rw[bQ];rfl
 have hF1:m.F1=Bp (m0.fn 1) m0.res (.ao (L.map (bt m0.fn)++[iz])) m0.P m0.LT:=by
  rw[<-hR,hm];rfl
 have hF0:m.F0=m0.F0:=by rw[hm];rfl
 have hF2:m.F2=m0.F2:=by rw[hm];rfl
 unfold Md.prog;rw[hF0,hF1,hF2,xZ,<-hS];obtain⟨WW,hWW⟩:∃WW,WW=PV.lst (W.map .str):=⟨_,rfl⟩
 rw[<-hWW];obtain⟨x1,hx1⟩:∃x,x=PV.int (most:Int):=⟨_,rfl⟩
 rw[<-hx1];obtain⟨KS,Wa⟩:∃KS,KS=KL m0.ks:=⟨_,rfl⟩
 obtain⟨PP,W2⟩:∃PP,PP=m0.P.map bD:=⟨_,rfl⟩
 obtain⟨RR,hRR⟩:∃RR,RR=L.map (bt m0.fn)++[iz]:=⟨_,rfl⟩
 rw[<-hRR];obtain⟨v4,hv4⟩:∃v,v=PV.lst ((fk m0.ks m0.d4).map ei):=⟨_,rfl⟩
 obtain⟨v5,hv5⟩:∃v,v=PV.lst ((fk m0.ks m0.d5).map ei):=⟨_,rfl⟩
 obtain⟨v1,hv1⟩:∃v,v=PV.lst ((fk m0.ks (.ow m0.s1)).map ei):=⟨_,rfl⟩
 obtain⟨vB,hvB⟩:∃v,v=PV.lst (BK.map Fv):=⟨_,rfl⟩
 obtain⟨vS,hvS⟩:∃v,v=SL m0.ks:=⟨_,rfl⟩
 obtain⟨vN,hvN⟩:∃v,v=PV.lst ((RI m0.ks (m0.nm 0) (back/16%64)).map jH):=⟨_,rfl⟩
 obtain⟨vC,hvC⟩:∃v,v=PV.lst (cs.map .int):=⟨_,rfl⟩
 obtain⟨p9,h9⟩:∃v,v=m0.res:=⟨_,rfl⟩
 obtain⟨w20,h20⟩:∃v,v=m0.sT m0.so2:=⟨_,rfl⟩
 rw[<-h9]at rs;rw[<-h20]at v20;rw[<-W2]at hL1;have Xp:Gives (run txt (k+3) "_law_names" [.int (cell ns 0%10^12),.int 13] []) NN:=by rw[<-hC,Mz];exact hn
 rw[<-hS,<-Mz,<-V8]at CS;have fd:∀h,fO h (.int (back/1024)) (.int 6)=some (.int m0.pl):=λh=>by rw[l8];exact cR (by decide)
 have P2:PP.length=2:=by rw[W2,ak];unfold Md.P;split<;>rfl
 have hLT:m0.LT.length=8:=rfl;have nrR:ai RR=true:=by
  rw[hRR];refine yu _ λp hp=>?_
  rcases bh.mp hp with h | h
  ·obtain⟨r,hr,rfl⟩:=aM.mp h;exact Fw m8 r (hL2 r hr)
  ·rw[aB]at h;rw[h];exact hln
 have nr9:noRef m0.res=true:=by
  unfold Md.res;split
  ·rfl
  ·split
   ·exact dv _
   ·simp[noRef,ai,dv,Md.sT,gd]
 have nrP:noRef (.ao [m0.F0,Bp (m0.fn 1) m0.res (.ao RR) m0.P m0.LT,m0.F2])=true:=by simp[noRef,ai,Md.F0,Md.F2,Bp,dv,tK,nrR,nr9,Md.sT,gd,m8]
 suffices h:Rt (λp=>p=.ao [m0.F0,Bp (m0.fn 1) m0.res (.ao RR) m0.P m0.LT,m0.F2]) (sP (run txt (k+3)) ⟨gy 24 [S,x1,WW],[]⟩)from by
  obtain⟨p,a,b⟩:=Rt.run h;rw[<-b];exact a
 refine xS (aS (cU (cA (b2 (cU (cA rfl (cA rfl rfl)) rfl rfl jZ) (b2 rfl rfl (aae _)) (cR (by decide))) (cA rfl rfl)) rfl rfl Xp) rfl) ?_
 refine xS (aS (cU (cA rfl (cA rfl rfl)) rfl rfl CS) rfl) ?_;refine xS (aS (cU (cA (cU (cA rfl (cA rfl rfl)) rfl rfl jZ) (cA rfl rfl)) rfl rfl hb) rfl) ?_;refine xS (aS (b2 (b2 rfl rfl (vH (by decide))) rfl (fd _)) rfl) ?_
 refine xS (aS (lC (cA (tU (cA (b2 (x:=NN) rfl rfl (n8 _)) (cA (b2 (b2 (x:=LL) rfl rfl (l4 _)) rfl rfl) rfl)) (by simp)) (cA (tU (cA (b2 (x:=NN) rfl rfl (n9 _)) (cA (b2 (b2 (x:=LL) rfl rfl (l1 _)) rfl rfl) rfl)) (by simp)) rfl)) (by simp)) rfl) ?_
 refine xS (s1:=pS [some (.ref 0),some (.int m0.pl),some (.int back),some LL,some NN,some WW,some x1,some S] [⟨.lst,PP⟩]) ?_ ?_
 ·have d2:Ek (toB (op2 gT (op2 fO (rd 6) (kI 2)) (kI 1))) (pS [some (.ref 0),some (.int m0.pl),some (.int back),some LL,some NN,some WW,some x1,some S] [⟨.lst,[bD (m0.nm 8,m0.d4),bD (m0.nm 9,.ow m0.s1)]⟩]) (m0.pl%2==1):=bT (b2 (b2 (x:=.int m0.pl) rfl rfl (cR (by decide))) rfl (oI _ _ _))
  rw[W2];unfold Md.P;by_cases h:m0.pl%2=1
  ·rw[show(m0.pl%2==1)=true by rw[h];rfl]at d2
   rw[if_pos h];exact iT d2 rfl
  ·rw[show(m0.pl%2==1)=false by rw[fK];exact h]at d2
   rw[if_neg h];exact iF d2 rfl
 refine aP (p:=KS) ?_ rfl ?_
 ·rw[Wa,V8,W2];show Ev _ _ (PV.lst (m0.ks.map bD)) _;unfold Md.ks;rw[bQ];refine b2 (x:=.ref 0) (y:=.lst (m0.LT.map bD)) rfl rfl ?_;show sizeOk ((m0.P.map bD).length+(m0.LT.map bD).length) _=_;exact if_pos (show _<=4000000 by rw[<-W2,P2,ak,hLT];decide)
 refine aP (p:=p9) (b2 (x:=.lst [.bB,.ao [.str (hw m0.b5),enc m0.t5,.ao []],.ao [.str (hw m0.b5),enc m0.t5,.ao [.str (m0.nm 8)]],enc m0.s2]) (lS (cA rfl (cA (b2 (y:=.ao [.ao []]) (b2 (x:=bD (m0.nm 5,m0.d5)) (z:=.ao [.str (hw m0.b5),enc m0.t5]) (b2 (x:=LL) rfl rfl (l5 _)) rfl rfl) rfl (aT (by simp))) (cA (b2 (y:=.ao [.ao [.str (m0.nm 8)]]) (b2 (x:=bD (m0.nm 5,m0.d5)) (z:=.ao [.str (hw m0.b5),enc m0.t5]) (b2 (x:=LL) rfl rfl (l5 _)) rfl rfl) (tU (cA (tU (cA (b2 (x:=NN) rfl rfl (n8 _)) rfl) (by simp)) rfl) (by simp)) (aT (by simp))) (cA (b2 (b2 (x:=LL) rfl rfl (l2 _)) rfl rfl) rfl)))) (by simp)) (b2 (x:=.int back) rfl rfl (cR (by decide))) (rs _)) rfl ?_
 refine aP (p:=iz) ?_ rfl ?_
 ·rw[FF];exact tU (cA rfl (cA (b2 (x:=.lst [.str "",.str (m0.nm 5),.str (m0.nm 5),.str (m0.nm 2)]) (lS (cA rfl (cA (b2 (x:=NN) rfl rfl (n5 _)) (cA (b2 (x:=NN) rfl rfl (n5 _)) (cA (b2 (x:=NN) rfl rfl (n2 _)) rfl)))) (by simp)) (b2 (x:=.int back) rfl rfl (cR (by decide))) (rz _)) rfl)) (by simp)
 refine aP (p:=v4) ?_ rfl ?_
 ·rw[hv4,Wa];exact qr K (LL:=LL) rfl rfl M4 l4
 refine aP (p:=v5) ?_ rfl ?_
 ·rw[hv5,Wa];exact qr K (LL:=LL) rfl rfl M5 l5
 refine aP (p:=v1) ?_ rfl ?_
 ·rw[hv1,Wa];exact qr K (LL:=LL) rfl rfl M1 l1
 refine aP (p:=vB) ?_ rfl ?_
 ·rw[hvB,hv5,Wa];exact b2 (x:=.lst [.lst [.str ""],.lst ((fk m0.ks m0.d5).map ei),.lst ((fk m0.ks m0.d5).map ei),.lst ((fk m0.ks (.ow m0.s2)).map ei)]) (lS (cA rfl (cA rfl (cA rfl (cA (qr K (LL:=LL) rfl rfl M2 l2) rfl)))) (by simp)) (b2 (x:=.int back) rfl rfl (cR (by decide))) (hBK _)
 refine aP (p:=vS) ?_ rfl ?_
 ·rw[hvS,Wa];exact cU (as:=[KL m0.ks]) (cA rfl rfl) rfl (by simp[ai,noRef,tK]) ad6
 refine aP (p:=vN) ?_ rfl ?_
 ·rw[hvN,hvS];exact cU (as:=[SL m0.ks,.str (m0.nm 0),.int (back/16%64)]) (cA rfl (cA (b2 (x:=NN) rfl rfl (n0 _)) (cA (b2 (b2 (x:=.int back) rfl rfl (vH (by decide))) rfl (cR (by decide))) rfl))) rfl (by simp[ai,noRef,Fo _ (m6 K)]) ad7
 refine aP (p:=md) ?_ rfl ?_
 ·rw[W0];unfold mdT caT;rw[<-hWW,<-Wa,<-hvS,<-hvN,<-hv4,<-hv5,<-hv1,<-hvB];exact tU (cA rfl (cA rfl (cA rfl (cA rfl (cA (tU (cA (x:=.lst [m0.fn 0,m0.fn 1,m0.fn 2]) (cE (p:=NN) rfl rfl rfl (ad4 _)) (cA rfl (cA rfl (cA rfl (cA rfl (cA rfl rfl)))))) (by simp)) (cA rfl rfl)))))) (by simp)
 refine aP (p:=vC) ?_ rfl ?_
 ·rw[hvC,hx1];exact cE (p:=S) (h:=some (8+(most:Int))) rfl rfl (eB (b2 (x:=.int 8) (y:=.int (most:Int)) rfl rfl rfl) rfl) (ad5 _)
 refine aP (p:=(.lst RR)) ?_ rfl ?_
 ·rw[hRR,hvC];exact b2 (x:=.lst (L.map (bt m0.fn))) (y:=.lst [iz]) (cN' (sV rfl rfl) (by rw[ak];lia) hL1) (lS (cA rfl rfl) (by simp)) (aL (by simp only[ak,aK,wj];lia))
 refine aP (p:=w20) (b2 (x:=.lst [.ao [],.ao [.str (m0.nm 0)],.ao [.str (m0.nm 1)],.ao [.str (m0.nm 0),.str (m0.nm 1)]]) (lS (cA rfl (cA (tU (cA (b2 (x:=NN) rfl rfl (n0 _)) rfl) (by simp)) (cA (tU (cA (b2 (x:=NN) rfl rfl (n1 _)) rfl) (by simp)) (cA (tU (cA (b2 (x:=NN) rfl rfl (n0 _)) (cA (b2 (x:=NN) rfl rfl (n1 _)) rfl)) (by simp)) rfl)))) (by simp)) (b2 (b2 (x:=.int back) rfl rfl (vH (by decide))) rfl (cR (by decide))) (v20 _)) rfl ?_
 refine aQ (q:=.ref 1) (h':=[⟨.lst,PP⟩,⟨.lst,[bD (m0.nm 0,m0.d4),bD (m0.nm 1,m0.d5)]⟩]) (lC (ps:=[bD (m0.nm 0,m0.d4),bD (m0.nm 1,m0.d5)]) (cA (tU (cA (b2 (x:=NN) rfl rfl (n0 _)) (cA (b2 (b2 (x:=LL) rfl rfl (l4 _)) rfl rfl) rfl)) (by simp)) (cA (tU (cA (b2 (x:=NN) rfl rfl (n1 _)) (cA (b2 (b2 (x:=LL) rfl rfl (l5 _)) rfl rfl) rfl)) (by simp)) rfl)) (by simp)) rfl rfl rfl ?_
 refine xH (h':=[⟨.lst,PP⟩,⟨.lst,m0.hd.map bD⟩]) ?_ ?_
 ·obtain⟨j,hj,hj2⟩:∃j:Nat,m0.pl/2=(j:Int)/\j<=2:=⟨(m0.pl/2).toNat,by lia,by lia⟩
  unfold Md.hd;rw[hj];refine dS (p:=.bB) (yF (n:=1) (as:=[.int (j:Int),bD (m0.nm 2,.ow m0.s1)]) rfl rfl (cA (b2 (x:=.int m0.pl) rfl rfl (by rw[<-hj];exact vH (by decide))) (cA (tU (cA (b2 (x:=NN) rfl rfl (n2 _)) (cA (b2 (b2 (x:=LL) rfl rfl (l1 _)) rfl rfl) rfl)) (by simp)) rfl)) ?_)
  have:j=0\/j=1\/j=2:=by lia
  rcases this with rfl | rfl | rfl<;>rfl
 refine aP (p:=m0.F2) (tU (cA (b2 (x:=NN) rfl rfl (n12 _)) (cA (x:=.ao (m0.hd.map bD)) (bV (as:=[.ref 1]) (cA rfl rfl) rfl) (cA (x:=.ao [.str (hw m0.b4),enc m0.t4,m0.sT m0.so2]) (b2 (x:=.ao [.str (hw m0.b4),enc m0.t4]) (y:=.ao [w20]) (b2 (x:=bD (m0.nm 4,m0.d4)) (b2 (x:=LL) rfl rfl (l4 _)) rfl rfl) (tU (cA rfl rfl) (by simp)) (by rw[h20];exact aT (by simp))) (cA rfl (cA (tU (cA (tU (cA rfl (cA (b2 (x:=NN) rfl rfl (n0 _)) rfl)) (by simp)) rfl) (by simp)) rfl))))) (by simp)) rfl ?_
 refine aP (p:=(Bp (m0.fn 1) m0.res (.ao RR) m0.P m0.LT)) ?_ rfl ?_
 ·unfold Bp;rw[<-W2,<-h9];exact tU (cA (b2 (x:=NN) rfl rfl (n11 _)) (cA (x:=.ao PP) (bV (as:=[.ref 0]) (cA rfl rfl) rfl) (cA rfl (cA (x:=.ao (m0.LT.map bD)) (bV (as:=[LL]) (cA rfl rfl) (by rw[V8];rfl)) (cA (x:=.ao RR) (bV (as:=[.lst RR]) (cA rfl rfl) rfl) rfl))))) (by simp)
 exact xR (tU (ps:=[m0.F0,Bp (m0.fn 1) m0.res (.ao RR) m0.P m0.LT,m0.F2]) (cA (tU (cA (b2 (x:=NN) rfl rfl (n10 _)) (cA rfl (cA rfl (cA rfl (cA rfl rfl))))) (by simp)) (cA rfl (cA rfl rfl))) (by simp)) nrP rfl
def Md.A(m:Md):List (List cD):=m.L.map yH
def Md.as(m:Md):List (Nat×cD):=dZ 0 m.A
noncomputable def uN(j:Nat):Ro->List Nat
 | .eR _=>[]
 | .go n=>[n]
 | .t7 _ _ n=>uJ (j+1) n
 | _=>[j+1]
def Md.nx(m:Md)(j:Nat):List Nat:=match m.L[j]? with
 | some r=>uN j r
 | none=>[]
def Md.LO(m:Md):List (List Nat):=qo m.A m.nx
section
variable {m:Md} {most:Nat} (h:cZ m most)
theorem LP(H:List aq):bN H m.prog (.int 1)=some m.F1:=rfl
theorem qu(h:cZ m most):ai m.rows=true:=yu _ λp hp=>by
 obtain⟨r,hr,rfl⟩:=aM.mp hp;exact Fw m8 r (h.ok r hr)
theorem Wb:noRef m.res=true:=by
 unfold Md.res;split
 ·rfl
 ·split
  ·exact dv _
  ·simp[noRef,ai,dv,Md.sT,gd]
theorem LQ(h:cZ m most):noRef m.F1=true:=by simp[Md.F1,Bp,noRef,ai,m8,Wb,tK,qu h]
theorem aak:noRef m.F0=true:=rfl
theorem aal:noRef m.F2=true:=by simp[Md.F2,noRef,ai,m8,dv,tK,Md.sT,gd]
theorem FG(h:cZ m most):noRef m.prog=true:=by simp[Md.prog,noRef,ai,aak,LQ h,aal]
theorem aam(h:cZ m most):sS m.F1 m.ks:=Jg _ _ _ m.P m.LT (by have:=@tM m;unfold Md.ks at this;rw[aR]at this;lia) (vO)
theorem Wc(h:cZ m most){r:Ro}(hr:r∈m.L):m4 m.ks m.L.length (bt m.fn r) (yH r):=VZ h.ks _ m8 r (h.ok r hr)
theorem A5(h:cZ m most):m.L.length<=most+1/\0<m.L.length:=by
 obtain⟨L,e,hl⟩:=h.rows;rw[e];simp
 lia
theorem yv(h:cZ m most)(hm:most<=31)(k:Nat)(hk:12<=k):Gives (run txt (k+1) "acts" [m.prog,.int 1] []) (.lst (m.as.map eN)):=by
 have e:m.rows=(m.L.map λr=>(bt m.fn r,yH r)).map (·.1):=by rw[cX];rfl
 have e2:(m.L.map λr=>(bt m.fn r,yH r)).map (·.2)=m.A:=by rw[cX];rfl
 have hl:=(A5 h).1;have:=VH k LP (by rw[<-e];rfl) (LQ h) (λq hq=>by
  obtain⟨r,hr,rfl⟩:=aM.mp hq;exact(Wc h hr).made m.F1 k (aam h) (LQ h) hk) (by rw[ak];lia)
 rw[e2,mP]at this;exact this
theorem aan(h:cZ m most):∀as∈m.A,as.length<=6:=λas ha=>by
 obtain⟨r,hr,rfl⟩:=aM.mp ha;exact(Wc h hr).six
theorem A6:∀(L:List (List cD)) (i:Nat),(∀as∈L,as.length<=6)->(dZ i L).length<=6*L.length
 | [],_,_=>by simp[dZ]
 | as::L,i,h=>by
  have h1:=h as aE;have h2:=A6 L (i+1) λa ha=>h a (aF _ ha)
  have:(dz as).length<=6:=by
   cases as with
   | nil=>simp[dz]
   | cons a r=>exact h1
  rw[dZ,aR,ak,aK]
  lia
theorem kr(h:cZ m most):m.as.length<=6*(most+1):=by
 have h1:=A6 m.A 0 (aan h);have h2:=(A5 h).1;have h3:m.A.length=m.L.length:=by unfold Md.A;rw[ak]
 unfold Md.as
 lia
def Pw:Ro->Str
 | .put fl _ _=>if fl then "fill" else "put"
 | .set _ _ _ _=>"set"
 | .oK _ _=>"copy"
 | .oM _ _=>"move"
 | .drop _=>"drop"
 | .iS _ b _=>lw b
 | .call _ _ _=>"call"
 | .t7 _ _ _=>"if"
 | .go _=>"go"
 | .Bq _=>"say"
 | .eR _=>"give"
theorem RS(fn:Nat->PV)(H:List aq)(r:Ro):bN H (bt fn r) (.int 0)=some (.str (Pw r)):=by cases r<;>rfl
def MA:Ro->Nat
 | .eR _=>0
 | .go _=>1
 | .t7 _ _ _=>2
 | _=>3
theorem Px(r:Ro):(Pw r==Str.ofString "give")=(MA r==0):=by
 cases r with
 | put fl _ _=>cases fl<;>kernel_rfl
 | iS _ b _=>cases b<;>kernel_rfl
 | _=>kernel_rfl
theorem aao(r:Ro):(Pw r==Str.ofString "go")=(MA r==1):=by
 cases r with
 | put fl _ _=>cases fl<;>kernel_rfl
 | iS _ b _=>cases b<;>kernel_rfl
 | _=>kernel_rfl
theorem aap(r:Ro):(Pw r==Str.ofString "if")=(MA r==2):=by
 cases r with
 | put fl _ _=>cases fl<;>kernel_rfl
 | iS _ b _=>cases b<;>kernel_rfl
 | _=>kernel_rfl
theorem D2{j:Nat}{r:Ro}(hr:m.L[j]?=some r)(H:List aq):bN H (.ao m.rows) (.int (j:Int))=some (bt m.fn r):=atI_nat (by unfold Md.rows;rw[bH,hr];rfl)
theorem A7(h:cZ m most){j:Nat}{r:Ro}(hr:m.L[j]?=some r)(hj:MA r≠0):j+1<m.L.length:=by
 obtain⟨L,e,hl⟩:=h.rows;have fx:=(bM.mp hr).1;by_cases hj2:j=L.length
 ·subst hj2;rw[e]at hr;simp at hr;subst hr;exact absurd rfl hj
 ·rw[e,aR]at fx ⊢;simp at fx ⊢
  lia
theorem LR(h:cZ m most){j:Nat}{r:Ro}(hr:m.L[j]?=some r):(uN j r).length<=2/\∀n∈uN j r,n<m.L.length:=by
 have ok:=h.ok r (dm hr);have one:MA r≠0->([j+1]:List Nat).length<=2/\∀n∈[j+1],n<m.L.length:=λhj=>⟨by simp,λn hn=>by rw[aB]at hn;have:=A7 h hr hj;lia⟩
 cases r with
 | eR z=>exact⟨by simp[uN],λ_ z=>nomatch z⟩
 | go n=>exact⟨by simp[uN],λq hq=>by simp only[uN,aB]at hq;rw[hq];exact ok⟩
 | t7 a i n =>
  have:=A7 h hr (by simp[MA])
  have h2:n<m.L.length:=ok.2;refine⟨?_,λq hq=>?_⟩
  ·show(uJ (j+1) n).length<=2;unfold uJ;split
   ·simp
   ·split<;>simp
  ·have hq:q∈uJ (j+1) n:=hq;unfold uJ at hq;split at hq
   ·simp at hq;lia
   ·split at hq<;>simp at hq<;>lia
 | _=>exact one (by simp[MA])
theorem Wd(h:cZ m most)(hm:most<=31)(k:Nat){j:Nat}{r:Ro}(hr:m.L[j]?=some r):Gives (run txt (k+1) "row_nexts" [.ao m.rows,.int (j:Int)] []) (nT (uN j r)):=by
 have fx:=(bM.mp hr).1;have hl:=(A5 h).1;obtain⟨p,hp⟩:∃p,p=bt m.fn r:=⟨_,rfl⟩
 obtain⟨R,hR⟩:∃R,R=PV.ao m.rows:=⟨_,rfl⟩
 rw[uz,<-hR];have ha:∀H,bN H R (.int (j:Int))=some p:=λH=>by rw[hR,hp];exact D2 hr H
 have a1:Ev (c8 Qv (aU 2)) (S0 [some R,some (.int (j:Int)),none]) .nx (S0 [some R,some (.int (j:Int)),some p]):=aS (b2 rfl rfl (ha _)) rfl;have w:∀v:Str,Ek (toB (op2 gT (op2 bN (rd 2) (kI 0)) (aX (.str v)))) (S0 [some R,some (.int (j:Int)),some p]) (Pw r==v):=λv=>bT (b2 (b2 rfl rfl (by rw[hp];exact RS _ _ r)) rfl (fE _ _ _))
 have wg:=w "give";have wo:=w "go";have wi:=w "if"
 rw[Px]at wg;rw[aao]at wo;rw[aap]at wi;have k1:Ek (op2 eE (rd 1) (kI 1)) (S0 [some R,some (.int (j:Int)),some p]) (iN (j+1)):=b2 rfl rfl rfl;have nr:∀l,noRef (nT l)=true:=λl=>by simp[nT,noRef,kC]
 have one:(MA r==0)=false->(MA r==1)=false->(MA r==2)=false->Gives (dQ (pj (run txt k)) 3 [R,.int (j:Int)] []) (nT [j+1]):=λz0 z1 z2=>by
  rw[z0]at wg;rw[z1]at wo;rw[z2]at wi;exact gV (sq a1 (sq (iF wg rfl) (sq (iF wo rfl) (sq (iF wi rfl) (rS (tU (cA k1 rfl) (by simp))))))) (nr _)
 have ok:=h.ok r (dm hr);cases r with
 | eR z=>exact gV (sq a1 (pV (iT wg (rS rfl)))) rfl
 | go n=>exact gV (sq a1 (sq (iF wg rfl) (pV (iT wo (rS (tU (ps:=[iN n]) (cA (b2 rfl rfl (by rw[hp];rfl)) rfl) (by simp))))))) (nr _)
 | t7 a i n =>
  have h2:n<m.L.length:=ok.2;have ss:Zn [] (.lst [iN (j+1),iN n])=some (.lst ((uJ (j+1) n).map iN)):=by
   have e:Zn [] (.lst [iN (j+1),iN n])=(if(([((j+1:Nat):Int),(n:Int)]:List Int).length<=2/\([((j+1:Nat):Int),(n:Int)]:List Int).all (λn=>decide (0<=n/\n<64))=true)then some (PV.lst ((mI (om (λi=>([((j+1:Nat):Int),(n:Int)]:List Int).getD i 0) 2)).map .int))else none):=rfl
   rw[e,if_pos ⟨by simp,by simp;lia⟩,Lj,Z1,cX]
   rfl
  exact gV (sq a1 (sq (iF wg rfl) (sq (iF wo rfl) (pV (iT wi (rS (bV (cA (eB (lS (cA k1 (cA (b2 rfl rfl (by rw[hp];rfl)) rfl)) (by simp)) (show Option.map _ (Zn [] (.lst [iN (j+1),iN n]))=_ by rw[ss];rfl)) rfl) rfl))))))) (nr _)
 | _=>exact one rfl rfl rfl
theorem Py(h:cZ m most)(hm:most<=31)(k:Nat):yl (run txt (k+1)) (.ao m.rows) m.A.length m.nx:=λj hj=>by
 have hl:m.A.length=m.L.length:=by unfold Md.A;rw[ak]
 rw[hl]at hj ⊢;obtain⟨r,hr⟩:∃r,m.L[j]?=some r:=⟨_,bW hj⟩
 have e:m.nx j=uN j r:=by unfold Md.nx;rw[hr]
 rw[e];exact⟨Wd h hm k hr,(LR h hr).1,(LR h hr).2⟩
theorem tN(h:cZ m most)(hm:most<=20)(k:Nat)(hk:12<=k):Gives (run txt (k+2) "nexts" [m.prog,.int 1] []) (.lst (m.LO.map nT))/\adQ m.LO m.as.length:=by
 have ha:=yv h (by lia) k hk
 unfold Md.as at ha;rw[<-mP]at ha;have hl:=kr h;obtain⟨g1,g2,g3⟩:=O9 (k+1) rfl (by simp[noRef,qu h]) ha (Py h (by lia) k) (by unfold Md.as at hl;lia)
 refine⟨g1,g2,g3,?_,by lia⟩
 obtain⟨a,haa⟩:=sZ m.A 0 0 (ay _) (by unfold Md.A;rw[ak];have:=(A5 h).2;lia)
 exact List.length_pos_of_mem haa
end
section
variable {fa fb:Gx PV} {s s1 s2:cx} {x y:PV} {r:Option (Rs PV×cx)}
theorem tB{b:Bool}(h:Ev fa s (.bl b) s1):Ev (gf fa) s b s1:=tR h rfl
end
section
variable {m:Md} {most:Nat}
theorem A8:∀(L:List (List cD)) (i:Nat) (q:Nat×cD),q∈dZ i L->∃j as,q.1=i+j/\L[j]?=some as/\q.2∈dz as
 | [],_,_,h=>nomatch h
 | as::L,i,q,h=>by
  rw[dZ,bh]at h;rcases h with h | h
  ·obtain⟨a,ha,rfl⟩:=aM.mp h;exact⟨0,as,rfl,rfl,ha⟩
  ·obtain⟨j,bs,h1,h2,h3⟩:=A8 L (i+1) q h;exact⟨j+1,bs,by lia,by simpa using h2,h3⟩
theorem FH(h:cZ m most){q:Nat×cD}(hq:q∈m.as):uK (A4 m.ks) 3 q.2:=by
 obtain⟨j,as,h1,h2,h3⟩:=A8 m.A 0 q hq;unfold Md.A at h2;rw[bH]at h2;obtain⟨r,hr,rfl⟩:=bj h2;exact HG (Wc h (dm hr)).ok q.2 h3
theorem aaq{n:Nat}{q:Nat×cD}(hq:m.as[n]?=some q)(H:List aq):bN H (.lst (m.as.map eN)) (.int (n:Int))=some (eN q):=atI_nat (by rw[bH,hq];rfl)
theorem Pz(h:cZ m most)(hm:most<=20):m.LO.length=m.as.length:=(tN h hm 12 (ay _)).2.len
theorem We(h:cZ m most)(hm:most<=20){n:Nat}{l:List Nat}(hl:m.LO[n]?=some l):l.length<=2/\∀q∈l,q<m.as.length:=(tN h hm 12 (ay _)).2.ok l (dm hl)
noncomputable def PC(a:cD):List Int:=(List.range a.m.toNat).map λi=>a.f+(i:Nat)*1
theorem HQ(k:Nat){X:List Str}{Bd:Nat}(hB:Bd<=500){q:Nat×cD}(ok:uK X Bd q.2):Gives (run txt (k+1) "touched" [eN q] []) (.lst ((PC q.2).map .int)):=by
 rw[Ax];have h1:=ok.f0;have h2:=ok.m0;have h3:=ok.few;refine gV (rS (eB (cA (b2 rfl rfl rfl) (cA (b2 (b2 rfl rfl rfl) (b2 rfl rfl rfl) rfl) rfl)) (eB (s1:=S0 [some (eN q)]) ?_ rfl))) (yn _);show Option.map _ (if 0<=q.2.f/\q.2.f<=q.2.f+q.2.m/\q.2.f+q.2.m<=1000 then some (PyProof.Rows.rangeInts q.2.f 1 (q.2.f+q.2.m-q.2.f).toNat)else none)=_
 rw[if_pos ⟨h1,by lia,by lia⟩,show q.2.f+q.2.m-q.2.f=q.2.m by lia]
 rfl
theorem PD{a:cD}{i:Int}(h:0<=a.m):i∈PC a↔a.f<=i/\i<a.f+a.m:=by
 unfold PC;rw[aM];constructor
 ·rintro⟨n,hn,rfl⟩
  have:=gq.mp hn
  lia
 ·rintro⟨h1,h2⟩
  exact⟨(i-a.f).toNat,gq.mpr (by lia),by lia⟩
structure Fe where
 n:Nat
 x:Str
 l:Int
def kE(f:Fe):List bz:=[.inl (f.n:Int),.inr f.x,.inl f.l]
def t8(f:Fe):PV:=.ao [.int (f.n:Int),.str f.x,.int f.l]
theorem RT:∀l:List Fe,ai (l.map t8)=true
 | []=>rfl
 | f::l=>by simp[ai,noRef,t8,RT l]
theorem FI{a:cD}{X:List Str}(ok:uK X 3 a):(PC a).length<=3:=by
 have h1:=ok.f0;have h2:=ok.m0;have h3:=ok.few;rw[PC,ak,iZ]
 lia
end
def MB(n:Nat):List PV:=(List.range n).map λi=>.ref i
def kR(A:List (List Nat)):List aq:=A.map (λl=>⟨.lst,l.map iN⟩)++[⟨.lst,MB A.length⟩]
def Wf(A:List (List Nat))(q n:Nat):List (List Nat):=A.set q ((A.getD q [])++[n])
structure yw (A:List (List Nat)) (N B:Nat):Prop where
 len:A.length=N
 few:∀l∈A,l.length<=B/\∀n∈l,n<N
theorem Wg{A:List (List Nat)}{N B q n:Nat}(h:yw A N B)(hq:q<N)(hn:n<N):yw (Wf A q n) N (B+1)/\(∃l,(Wf A q n)[q]?=some l/\n∈l)/\∀(p:Nat) (l:List Nat),A[p]?=some l->∃l',(Wf A q n)[p]?=some l'/\∀a∈l,a∈l':=by
 have hl:q<A.length:=by rw[h.len];exact hq
 have hg:A.getD q []=A[q]:=by rw[Bw,bW hl];rfl
 have hf:=h.few A[q] (wb hl);unfold Wf;rw[hg];refine⟨⟨by rw[ly];exact h.len,λl hl'=>?_⟩,⟨_,lb hl,by simp⟩,λp l hp=>?_⟩
 ·rcases List.mem_or_eq_of_mem_set hl' with z | rfl
  ·have:=h.few l z;exact⟨by lia,this.2⟩
  ·refine⟨by rw[aR];simp;lia,λa ha=>?_⟩
   rcases bh.mp ha with ha | ha
   ·exact hf.2 a ha
   ·rw[aB.mp ha];exact hn
 ·by_cases e:q=p
  ·subst e;rw[bW hl]at hp;cases hp;exact⟨_,lb hl,λa ha=>dR _ ha⟩
  ·exact⟨l,by rw[iW e];exact hp,λa ha=>ha⟩
theorem PF(c:CT)(F:PV){A:List (List Nat)}{N B q n:Nat}(h:yw A N B)(hB:B<=100000)(hq:q<N)(x1:PV):Ev (kj c) ⟨[some F,some x1,some (.ref N),some (iN n),some (iN q)],kR A⟩ .nx ⟨[some F,some x1,some (.ref N),some (iN n),some (iN q)],kR (Wf A q n)⟩:=by
 have hl:q<A.length:=by rw[h.len];exact hq
 have hg:A.getD q []=A[q]:=by rw[Bw,bW hl];rfl
 have hf:=(h.few A[q] (wb hl)).1;have i1:bN (kR A) (.ref N) (iN q)=some (.ref q):=by
  have dr:cm (kR A) (.ref N)=some (.lst,MB A.length):=by
   show((kR A)[N]?).bind _=_;unfold kR;rw[iU (by rw[ak,h.len];exact ay _),ak,h.len,wA]
   rfl
  show(match cm (kR A) (.ref N)with
   | some (.ao,ps)=>(kM (iN q)).bind (L2.jJ ps)
   | some (.lst,ps)=>(kM (iN q)).bind (L2.jJ ps)
   | some (.dU t ks,ps)=>(gA t (iN q)).bind λk=>fH k ks ps
   | _=>none)=_
  rw[dr];exact atI_nat (by unfold MB;rw[bH,nz hl];rfl)
 have c1:(kR A)[q]?=some ⟨.lst,A[q].map iN⟩:=by
  unfold kR;rw[fJ (by rw[ak];exact hl),bH,bW hl]
  rfl
 have e:(kR A).set q ⟨.lst,A[q].map iN++[iN n]⟩=kR (Wf A q n):=by
  unfold kR Wf;rw[List.set_append_left _ _ (by rw[ak];exact hl),hg,List.map_set,ly,bQ]
  rfl
 refine dS (p:=.bB) (yF (b2 rfl rfl i1) c1 (cA rfl rfl) ?_);rw[<-e];exact aC c1 (by rw[ak];lia)
def Mn(A A':List (List Nat)):Prop:=∀(p:Nat) (l:List Nat),A[p]?=some l->∃l',A'[p]?=some l'/\∀a∈l,a∈l'
theorem Mn.trans{A B C:List (List Nat)}(h:Mn A B)(h':Mn B C):Mn A C:=λp l e=>by
 obtain⟨l1,e1,i1⟩:=h p l e;obtain⟨l2,e2,i2⟩:=h' p l1 e1;exact⟨l2,e2,λa ha=>i2 a (i1 a ha)⟩
theorem RU(c:CT)(F x1:PV){N n:Nat}(hn:n<N):∀(ls:List Nat) (A:List (List Nat)) (B:Nat) (x4:Option PV),yw A N B->(∀q∈ls,q<N)->B+ls.length<=100000 ->
  ∃A' y4,yw A' N (B+ls.length)/\(∀q∈ls,∃l,A'[q]?=some l/\n∈l)/\Mn A A'/\cY (aU 4) (kj c) (ls.map iN) ⟨[some F,some x1,some (.ref N),some (iN n),x4],kR A⟩=some (.ok .nx,⟨[some F,some x1,some (.ref N),some (iN n),y4],kR A'⟩)
 | [],A,B,x4,h,_,_=>⟨A,x4,h,λ_ z=>(nomatch z),λp l e=>⟨l,e,λ_ z=>z⟩,rfl⟩
 | q::ls,A,B,x4,h,hq,hB=>by
  rw[aK]at hB ⊢;obtain⟨k1,⟨l,k2,k2'⟩,k3⟩:=Wg h (hq q aE) hn;obtain⟨A',y4,k4,k5,k6,k7⟩:=RU c F x1 hn ls _ (B+1) (some (iN q)) k1 (λp hp=>hq p (aF _ hp)) (by lia)
  refine⟨A',y4,by rw[show B+(ls.length+1)=B+1+ls.length by lia];exact k4,λp hp=>?_,Mn.trans k3 k6,fC rfl (PF c F h (by lia) (hq q aE) x1) k7⟩
  rcases aD.mp hp with rfl | hp
  ·obtain⟨l',e,i⟩:=k6 p l k2;exact⟨l',e,i n k2'⟩
  ·exact k5 p hp
theorem FJ(c:CT)(F:PV){N:Nat}:∀(Ls:List (List Nat)) (i:Nat) (A:List (List Nat)) (B:Nat) (x1 x3 x4:Option PV),yw A N B->i+Ls.length<=N->(∀ls∈Ls,ls.length<=2/\∀q∈ls,q<N)->B+2*Ls.length<=100000 ->
  ∃A' y1 y3 y4,yw A' N (B+2*Ls.length)/\(∀(k:Nat) (ls:List Nat),Ls[k]?=some ls->∀q∈ls,∃l,A'[q]?=some l/\i+k∈l)/\Mn A A'/\cY (gC 2 (c6 (aU 3) (c6 (aU 1) mn))) (sF c) (d8 i (Ls.map nT)) ⟨[some F,x1,some (.ref N),x3,x4],kR A⟩=some (.ok .nx,⟨[some F,y1,some (.ref N),y3,y4],kR A'⟩)
 | [],i,A,B,x1,x3,x4,h,_,_,_=>⟨A,x1,x3,x4,h,λ_ _ z=>(nomatch z),λp l e=>⟨l,e,λ_ z=>z⟩,rfl⟩
 | ls::Ls,i,A,B,x1,x3,x4,h,hi,hL,hB=>by
  rw[aK]at hi hB ⊢;obtain⟨l1,l2⟩:=hL ls aE;obtain⟨A1,w4,k1,k2,k3,k4⟩:=RU c F (nT ls) (show i<N by lia) ls A B x4 h l2 (by lia)
  obtain⟨A',y1,y3,y4,k5,k6,k7,k8⟩:=FJ c F Ls (i+1) A1 (B+2) (some (nT ls)) (some (iN i)) w4 ⟨k1.len,λl hl=>⟨by have:=(k1.few l hl).1;lia,(k1.few l hl).2⟩⟩ (by lia) (λl hl=>hL l (aF _ hl)) (by lia)
  refine⟨A',y1,y3,y4,by rw[show B+2*(Ls.length+1)=B+2+2*Ls.length by lia];exact k5,λk l hk q hq=>?_,Mn.trans k3 k7,?_⟩
  ·cases k with
   | zero =>
    cases hk;obtain⟨l,e,hn⟩:=k2 q hq;obtain⟨l',e',i'⟩:=k7 q l e;exact⟨l',e',i' _ hn⟩
   | succ k =>
    obtain⟨l',e',h'⟩:=k6 k l hk q hq;exact⟨l',e',by rw[show i+(k+1)=i+1+k by lia];exact h'⟩
  ·exact fC (s1:=⟨[some F,some (nT ls),some (.ref N),some (iN i),x4],kR A⟩) rfl (fS (sV rfl rfl) k4) k8
theorem FK(ρ:List (Option PV)):∀(ps:List PV) (h:List aq),dO (lM (aU 1) Ql (bK [none,none] ρ)) ps h=some ((List.range ps.length).map (λi=>PV.ref (h.length+i)),h++List.replicate ps.length ⟨.lst,[]⟩)
 | [],h=>by simp[dO]
 | p::ps,h=>by
  have e:=FK ρ ps (h++[⟨.lst,[]⟩]);show(dO _ ps (h++[⟨.lst,[]⟩])).map _=_;rw[e];show some (PV.ref h.length::_,_)=_;rw[aK,BE,aI,cX,List.replicate_succ,cW]
  congr 2
  congr 1
  apply BO;intro i _;simp
  lia
def ahP(A:List (List Nat)):PV:=.lst (A.map λl=>.lst (l.map iN))
theorem Wh(A:List (List Nat)):kO (kR A) (.ref A.length)=some (ahP A):=by
 have hne:(kR A).isEmpty=false:=by unfold kR;cases A<;>rfl
 have one:∀(i:Nat) (l:List Nat),A[i]?=some l->o8 (kR A) 3 (.ref i)=some (.lst (l.map iN)):=λi l e=>by
  have hi:=(bM.mp e).1;unfold o8;rw[if_neg (by simp[noRef])]
  show((kR A)[i]?).bind _=_;rw[show(kR A)[i]?=some ⟨.lst,l.map iN⟩from by unfold kR;rw[fJ (by rw[ak];exact hi),bH,e];rfl,dn]
  show(if live ⟨.lst,l.map iN⟩=true then(cJ (o8 (kR A) 2) (l.map iN)).map (PV.nd .lst)else none)=_
  rw[if_pos (show live ⟨.lst,l.map iN⟩=true from rfl),AQ _ (kC l)]
  rfl
 have all:∀(Bs:List (List Nat)) (k:Nat),(∀i l,Bs[i]?=some l->A[k+i]?=some l)->cJ (o8 (kR A) 3) ((List.range' k Bs.length).map λi=>PV.ref i)=some (Bs.map λl=>.lst (l.map iN)):=λBs=>by
  induction Bs with
  | nil=>intro k _;rfl
  | cons l Bs ih =>
   intro k hk;rw[aK,List.range'_succ,aI,cJ,one k l (hk 0 l rfl),ih (k+1) λi l' e=>by rw[show k+1+i=k+(i+1) by lia];exact hk (i+1) l' e]
   rfl
 have a0:=all A 0 λi l e=>by rw[gr];exact e
 unfold kO;rw[hne,if_neg c9];unfold o8;rw[if_neg (by simp[noRef])]
 show((kR A)[A.length]?).bind _=_;rw[show(kR A)[A.length]?=some ⟨.lst,MB A.length⟩from by unfold kR;rw[iU (by rw[ak];exact ay _),ak,wA];rfl,dn]
 show(if live ⟨.lst,MB A.length⟩=true then(cJ (o8 (kR A) 3) (MB A.length)).map (PV.nd .lst)else none)=_
 rw[if_pos (show live ⟨.lst,MB A.length⟩=true from rfl),show MB A.length=(List.range' 0 A.length).map λi=>PV.ref i by unfold MB;rw[List.range_eq_range'],a0]
 rfl
section
variable {m:Md} {most:Nat}
abbrev RW(m:Md):PV:=.lst (m.as.map eN)
abbrev AF(m:Md):PV:=.lst (m.LO.map nT)
structure Ahd (m:Md) (A:List (List Nat)):Prop where
 ok:yw A m.as.length 400
 all:∀(n:Nat) (ls:List Nat),m.LO[n]?=some ls->∀q∈ls,∃l,A[q]?=some l/\n∈l
theorem PH(k:Nat)(h:cZ m most)(hm:most<=20):∃A,Ahd m A/\Gives (run txt (k+1) "acts_ahead" [AF m] []) (ahP A):=by
 have hl:=kr h;have hx:=Pz h hm;have aed:∀N,yw (List.replicate N []) N 0:=λN=>⟨by simp,λl hl=>by rw[(List.mem_replicate.mp hl).2];exact⟨ay _,λ_ z=>nomatch z⟩⟩
 obtain⟨A,y1,y3,y4,k1,k2,_,k4⟩:=FJ (run txt k) (AF m) m.LO 0 (List.replicate m.as.length []) 0 none none none (aed _) (by rw[hx];lia) (λls hls=>by
   obtain⟨n,hn,rfl⟩:=BP hls;exact We h hm (bW hn)) (by lia)
 refine⟨A,⟨⟨k1.len,λl hl=>⟨by have:=(k1.few l hl).1;lia,(k1.few l hl).2⟩⟩,λn ls e q hq=>by obtain⟨l,e1,e2⟩:=k2 n ls e q hq;exact⟨l,e1,by rw[gr]at e2;exact e2⟩⟩,?_⟩
 rw[sH];have c1:Ev (da true [none,none] (jC (rd 0)) (lM (aU 1) Ql)) ⟨[some (AF m),none,none,none,none],[]⟩ (.ref m.as.length) ⟨[some (AF m),none,none,none,none],kR (List.replicate m.as.length [])⟩:=by
  refine eB (sV rfl rfl) ?_;show((if(m.LO.map nT).length<=fq then dO _ (m.LO.map nT) []else none).bind _)=_
  rw[if_pos (show(m.LO.map nT).length<=fq by rw[ak];have:fq=4000000:=rfl;lia),FK,ak,hx]
  show kJ ⟨.lst,_⟩ ⟨_,[]++List.replicate m.as.length ⟨.lst,[]⟩⟩=_;have e1:kR (List.replicate m.as.length [])=List.replicate m.as.length ⟨.lst,[]⟩++[⟨.lst,(List.range m.as.length).map λi=>PV.ref (([]:List aq).length+i)⟩]:=by
   unfold kR MB;rw[List.map_replicate,BM]
   congr 3
   simp
  rw[e1];show some (Rs.ok (PV.ref ([]++List.replicate m.as.length (⟨.lst,[]⟩:aq)).length),_)=_;rw[eW,BM]
 have e:=Wh A;rw[k1.len]at e;exact⟨.ref m.as.length,_,jj (sq (aS c1 rfl) (sq (fS (sG (eV rfl rfl)) k4) (rS rfl))),e⟩
end
abbrev pL(q:Str×Int):PV:=.ao [.str q.1,.int q.2]
def lnd(a:cD):Bool:=(Str.ofString "lend"==a.w) || ((Str.ofString "sole"==a.w) || false)
def Ib(r:Nat)(q:Nat×cD):List (Str×Int):=if((q.1==r)&&lnd q.2)=true then(List.range q.2.m.toNat).map fun(i:Nat)=>(q.2.k,(i:Int))else []
def LU(as:List (Nat×cD))(r:Nat):List (Str×Int):=as.flatMap (Ib r)
theorem aas(l:Nat):nk l=iN l:=by unfold nk iN;rw[lB]
theorem yx(k:Nat)(q:Nat×cD):Gives (run txt (k+1) "is_lending" [eN q] []) (.bl (lnd q.2)):=by
 rw[sE];exact gV (rS (b2 (b2 rfl rfl rfl) rfl rfl)) rfl
section
variable {m:Md} {most:Nat}
theorem LV{X:List Str}(r:Nat){q:Nat×cD}(ok:uK X 3 q.2):(Ib r q).length<=3:=by
 unfold Ib;split
 ·rw[ak,iZ];have:=ok.f0;have:=ok.few;have:=ok.m0;lia
 ·simp
theorem FL(k:Nat){X:List Str}(R:Option PV)(r:Nat):∀(as:List (Nat×cD)) (acc:List (Str×Int)) (x3:Option PV),(∀q∈as,uK X 3 q.2)->acc.length+3*as.length<=100000 ->
  ∃y3,cY (aU 3) (DB (run txt (k+1))) (as.map eN) ⟨[R,some (iN r),some (.ref 0),x3],[⟨.lst,acc.map pL⟩]⟩=some (.ok .nx,⟨[R,some (iN r),some (.ref 0),y3],[⟨.lst,(acc++LU as r).map pL⟩]⟩)
 | [],acc,x3,_,_=>⟨x3,by simp[LU];rfl⟩
 | q::as,acc,x3,ok,hz=>by
  rw[aK]at hz;have o:=ok q aE;have hl:=LV r o;obtain⟨y3,e⟩:=FL k R r as (acc++Ib r q) (some (eN q)) (λp hp=>ok p (aF _ hp)) (by rw[aR];lia)
  refine⟨y3,?_⟩;rw[show LU (q::as) r=Ib r q++LU as r from eU ..,<-cW]
  refine fC (s1:=⟨[R,some (iN r),some (.ref 0),some (eN q)],[⟨.lst,acc.map pL⟩]⟩) rfl ?_ e;have t:Ek (dP Qs (gf (bnd Qe (b8 0 1 (run txt (k+1) "is_lending")))) (aX false)) ⟨[R,some (iN r),some (.ref 0),some (eN q)],[⟨.lst,acc.map pL⟩]⟩ ((q.1==r)&&lnd q.2):=by
   have e1:gT [⟨.lst,acc.map pL⟩] (.int (q.1:Int)) (iN r)=some (.bl (q.1==r)):=by
    show some (PV.bl ((q.1:Int)==(r:Int)))=_
    congr 2
    rw[Bool.eq_iff_iff,qM,qM]
    lia
   have t1:=(bT (b2 (b2 rfl rfl rfl) rfl e1):Ev Qs ⟨[R,some (iN r),some (.ref 0),some (eN q)],[⟨.lst,acc.map pL⟩]⟩ (q.1==r) _);cases z:(q.1==r)with
   | false=>rw[z]at t1;exact iF t1 rfl
   | true=>rw[z]at t1;exact iT t1 (tB (cU (as:=[eN q]) (cA rfl rfl) rfl (by simp[ai,noRef,eN,jk]) (yx k q)))
  cases z:((q.1==r)&&lnd q.2)with
  | false =>
   rw[z]at t;have:Ib r q=[]:=by unfold Ib;rw[z];rfl
   rw[this,dq];exact iF t rfl
  | true =>
   rw[z]at t;have e2:Ib r q=(List.range q.2.m.toNat).map fun(i:Nat)=>(q.2.k,(i:Int)):=by unfold Ib;rw[z];rfl
   refine iT t (dS (p:=.bB) (yF (s2:=⟨[R,some (iN r),some (.ref 0),some (eN q)],[⟨.lst,acc.map pL⟩]⟩) rfl rfl (cA (x:=.lst ((Ib r q).map pL)) ?_ rfl) ?_))
   ·rw[e2,cX];have hm:PV.int q.2.m=iN q.2.m.toNat:=by show PV.int q.2.m=PV.int ((q.2.m.toNat:Nat):Int);rw[lg o.m0]
    have:=o.few;have:=o.f0;refine cM (l:=List.range q.2.m.toNat) (e:=nk) (mU (j:=q.2.m.toNat) (cA (b2 rfl rfl (by rw[<-hm];rfl)) rfl) (by lia)) (by rw[iZ];lia) λi _=>?_
    rw[aas];exact e1 (rM:=[none,some (iN i),some (eN q)]) (h1:=[⟨.lst,acc.map pL⟩]) rfl (tU (ps:=[.str q.2.k,iN i]) (cA (b2 rfl rfl rfl) (cA rfl rfl)) (by simp))
   ·rw[bQ];exact xC (n:=0) rfl rfl (by rw[ak,ak];lia)
theorem FN:∀l:List (Str×Int),ai (l.map pL)=true
 | []=>rfl
 | _::l=>by rw[aI,ai,FN l];rfl
theorem LW(k:Nat)(h:cZ m most)(hm:most<=20)(r:Nat):Gives (run txt (k+2) "handed" [RW m,iN r] []) (.lst ((LU m.as r).map pL)):=by
 rw[DC];have hl:=kr h;obtain⟨y3,e⟩:=FL k (some (RW m)) r m.as [] none (λq hq=>FH h hq) (by simp;lia)
 rw[eW]at e;exact⟨.ref 0,_,jj (sq rfl (sq (fS (sV rfl rfl) e) (rS rfl))),sY rfl (FN _)⟩
def RV(m:Md)(q:Nat×cD):List (Str×Int):=if(q.2.w==Str.ofString "hand")=true then LU m.as q.1 else if q.2.t=true then(PC q.2).map λi=>(q.2.n,i)else []
theorem A9:∀l:List (Nat×cD),ai (l.map eN)=true
 | []=>rfl
 | q::l=>by rw[aI,ai,A9 l];rfl
theorem Ba(k:Nat)(h:cZ m most)(hm:most<=20){q:Nat×cD}(hq:q∈m.as):Gives (run txt (k+3) "needed_by" [RW m,eN q] []) (.lst ((RV m q).map pL)):=by
 rw[uG];have o:=FH h hq;have hh:=LW k h hm q.1;have ht:=HQ (k+1) (by decide) o
 have t1:Ek (toB (op2 gT Q2 (kS "hand"))) (S0 [some (RW m),some (eN q)]) (q.2.w==Str.ofString "hand"):=bT (b2 (b2 rfl rfl rfl) rfl (fE _ _ _));unfold RV;cases z:(q.2.w==Str.ofString "hand")with
 | true =>
  rw[z]at t1;exact gV (pV (iT t1 (rS (cU (as:=[RW m,iN q.1]) (cA rfl (cA (b2 rfl rfl rfl) rfl)) rfl (by simp[ai,noRef,A9,iN]) hh)))) (FN _)
 | false =>
  rw[z]at t1;have t2:Ek (zj (gf (op2 bN (rd 1) (kI 3)))) (S0 [some (RW m),some (eN q)]) (!q.2.t):=nB (tB (b2 rfl rfl rfl));cases y:q.2.t with
  | false=>rw[y]at t2;exact gV (sq (iF t1 rfl) (pV (iT t2 (rS (p:=.lst []) rfl)))) rfl
  | true =>
   rw[y]at t2;refine gV (Bn:=[some (RW m),some (eN q)]) (h':=[]) (sq (iF t1 rfl) (sq (iF t2 rfl) (rS (p:=.lst (((PC q.2).map λi=>(q.2.n,i)).map pL)) ?_))) (FN _)
   rw[cX];exact cM (l:=PC q.2) (e:=PV.int) (sV (cU (as:=[eN q]) (cA rfl rfl) rfl (by simp[ai,noRef,eN,jk]) ht) rfl) (by have:=FI o;lia) λi _=>e1 (rM:=[none,some (.int i),some (eN q)]) (h1:=[]) rfl (tU (ps:=[.str q.2.n,.int i]) (cA (b2 rfl rfl rfl) (cA rfl rfl)) (by simp))
end
noncomputable def deE:List bz->Option Fe
 | [.inl n,.inr x,.inl l]=>if 0<=n then some ⟨n.toNat,x,l⟩else none
 | _=>none
theorem RX(f:Fe):deE (kE f)=some f:=by
 show(if 0<=(f.n:Int)then some (Fe.mk (f.n:Int).toNat f.x f.l)else none)=_
 rw[if_pos (by lia),er]
theorem LX{k:List bz}{f:Fe}(h:deE k=some f):k=kE f:=by
 rcases k with _ | ⟨n | _,_ | ⟨_ | x,_ | ⟨l | _,_ | _⟩⟩⟩<;>first | (cases h;done) | skip
 obtain⟨h0,h⟩:=b6 h;cases h;unfold kE;rw[show((Int.toNat _:Nat):Int)=_ from lg h0]
section
variable {m:Md} {most:Nat} {A:List (List Nat)}
def Bb(m:Md)(x:Str)(n:Nat):Bool:=match m.as[n]? with | some q=>!(q.2.k==x) | none=>false
def MC(m:Md)(l:List Nat)(f:Fe):List Fe:=(l.filter (Bb m f.x)).map λn=>⟨n,f.x,f.l⟩
def yy(m:Md)(A:List (List Nat))(k:List bz):Option (List (List bz)):=(deE k).bind λf=>(A[f.n]?).map λl=>(MC m l f).map kE
def naP(m:Md)(f:Fe):PV->Option PV
 | .int i=>if Bb m f.x i.toNat=true then some (t8 ⟨i.toNat,f.x,f.l⟩)else none
 | _=>none
theorem RY(m:Md)(f:Fe)(n:Nat):naP m f (iN n)=if Bb m f.x n=true then some (t8 ⟨n,f.x,f.l⟩)else none:=by
 show(if Bb m f.x ((n:Int).toNat)=true then some (t8 ⟨(n:Int).toNat,f.x,f.l⟩)else none)=_
 rw[er]
theorem LY(m:Md)(f:Fe):∀l:List Nat,(l.map iN).filterMap (naP m f)=(MC m l f).map t8
 | []=>rfl
 | n::l=>by
  rw[aI,ny,LY m f l,RY];unfold MC;rw[v9];cases Bb m f.x n<;>rfl
theorem tO(k:Nat){l:List Nat}(hl:l.length<=1000)(hn:∀n∈l,n<m.as.length)(f:Fe):Gives (run txt (k+1) "needed_ahead" [RW m,.lst (l.map iN),t8 f] []) (.lst ((MC m l f).map t8)):=by
 rw[oF,<-LY];have nr:=RT (MC m l f);rw[<-LY]at nr;refine gV (Bn:=[some (RW m),some (.lst (l.map iN)),some (t8 f)]) (h':=[]) (rS (cQ (s1:=S0 [some (RW m),some (.lst (l.map iN)),some (t8 f)]) (sV rfl rfl) (by rw[ak];lia) λp hp=>?_)) nr
 obtain⟨n,hm,rfl⟩:=aM.mp hp;obtain⟨q,hq⟩:∃q,m.as[n]?=some q:=⟨_,bW (hn n hm)⟩
 have i1:∀H,bN H (RW m) (iN n)=some (eN q):=λH=>aaq hq H
 have e0:Bb m f.x n = !(q.2.k==f.x):=by unfold Bb;rw[hq]
 have t:Ek (toB (op2 Mu (op2 bN (op2 bN (rd 3) (rd 1)) (kI 6)) Qw)) ⟨[none,some (iN n),some (t8 f),some (RW m)],[]⟩ (!(q.2.k==f.x)):=bT (b2 (b2 (b2 rfl rfl (i1 _)) rfl rfl) (b2 rfl rfl rfl) rfl);rw[RY,e0];cases z:(q.2.k==f.x)with
 | true=>rw[z]at t;exact Hd (rM:=[none,some (iN n),some (t8 f),some (RW m)]) rfl t
 | false=>rw[z]at t;exact Mx (rM:=[none,some (iN n),some (t8 f),some (RW m)]) rfl t (tU (ps:=[iN n,.str f.x,.int f.l]) (cA rfl (cA (b2 rfl rfl rfl) (cA (b2 rfl rfl rfl) rfl))) (by simp))
def Wi(m:Md)(n:Nat)(q:Nat×cD):List Fe:=(RV m q).map λy=>⟨n,y.1,y.2⟩
def Br(m:Md):Nat->List (Nat×cD)->List Fe
 | _,[]=>[]
 | i,q::as=>Wi m i q++Br m (i+1) as
theorem LZ(h:cZ m most)(r:Nat):∀l:List (Nat×cD),(∀q∈l,q∈m.as)->(LU l r).length<=3*l.length/\∀y∈LU l r,(∃q∈m.as,y.1=q.2.k)/\0<=y.2/\y.2<3
 | [],_=>⟨by simp[LU],λ_ z=>nomatch z⟩
 | q::l,hl=>by
  obtain⟨h1,h2⟩:=LZ h r l λp hp=>hl p (aF _ hp)
  have hq:=hl q aE;have o:=FH h hq;have h3:=LV r o;rw[show LU (q::l) r=Ib r q++LU l r from eU ..]
  refine⟨by rw[aR,aK];lia,λy hy=>?_⟩
  rcases bh.mp hy with hy | hy
  ·unfold Ib at hy;split at hy
   ·obtain⟨i,hi,rfl⟩:=aM.mp hy;rw[gq]at hi;have:=o.few;have:=o.f0;exact⟨⟨q,hq,rfl⟩,by show(0:Int)<=(i:Int);lia,by show(i:Int)<3;lia⟩
   ·cases hy
  ·exact h2 y hy
theorem RZ(h:cZ m most){q:Nat×cD}(hq:q∈m.as):(RV m q).length<=3*m.as.length+3/\∀y∈RV m q,(∃p∈m.as,y.1=p.2.n\/y.1=p.2.k)/\0<=y.2/\y.2<3:=by
 have o:=FH h hq;obtain⟨h1,h2⟩:=LZ h q.1 m.as λ_ z=>z
 unfold RV;split
 ·exact⟨by lia,λy hy=>by obtain⟨⟨p,hp,e⟩,b⟩:=h2 y hy;exact⟨⟨p,hp,.inr e⟩,b⟩⟩
 ·split
  ·refine⟨by rw[ak];have:=FI o;lia,λy hy=>?_⟩
   obtain⟨i,hi,rfl⟩:=aM.mp hy;have:=(PD o.m0).mp hi;have:=o.few;have:=o.f0;exact⟨⟨q,hq,.inl rfl⟩,by show(0:Int)<=i;lia,by show i<3;lia⟩
  ·exact⟨by simp,λ_ z=>nomatch z⟩
end
section
variable {m:Md} {most:Nat} {A:List (List Nat)}
theorem D3{α β:Type}{c:Nat}{f:α->List β}:∀l:List α,(∀a∈l,(f a).length=c)->(l.flatMap f).length=l.length*c
 | [],_=>by simp
 | a::l,h=>by
  rw[eU,aR,h a aE,D3 l λb hb=>h b (aF _ hb),aK,Nat.add_mul]
  lia
def XN(m:Md):List Str:=m.as.map (·.2.n)++m.as.map (·.2.k)
def UN(m:Md):List (List bz):=(List.range m.as.length).flatMap λn=>(XN m).flatMap λx=>(List.range 3).map fun(l:Nat)=>kE ⟨n,x,(l:Int)⟩
structure W3 (m:Md) (f:Fe):Prop where
 n:f.n<m.as.length
 x:f.x∈XN m
 l:0<=f.l/\f.l<3
theorem L0(h:cZ m most)(hm:most<=20):(UN m).length<=126*(252*3):=by
 have hl:=kr h;have e:(UN m).length=m.as.length*((XN m).length*3):=by
  refine(D3 _ λn _=>?_).trans (by rw[iZ])
  exact D3 _ λx _=>by simp
 have e2:(XN m).length=2*m.as.length:=by unfold XN;rw[aR,ak,ak];lia
 rw[e,e2];exact Nat.mul_le_mul (by lia) (by lia)
theorem D4{f:Fe}(h:W3 m f):kE f∈UN m:=by
 obtain⟨h1,h2,h3⟩:=h;refine gn.mpr ⟨f.n,gq.mpr h1,gn.mpr ⟨f.x,h2,aM.mpr ⟨f.l.toNat,gq.mpr (by lia),?_⟩⟩⟩
 rw[lg h3.1]
theorem R0{k:List bz}(h:k∈UN m):∃f,k=kE f/\W3 m f:=by
 obtain⟨n,hn,h⟩:=gn.mp h;obtain⟨x,hx,h⟩:=gn.mp h;obtain⟨l,hl,rfl⟩:=aM.mp h;rw[gq]at hl hn;exact⟨_,rfl,hn,hx,by show(0:Int)<=(l:Int);lia,by show(l:Int)<3;lia⟩
theorem L3(m:Md):∀(as:List (Nat×cD)) (i:Nat) (f:Fe),f∈Br m i as↔∃k q,as[k]?=some q/\f∈Wi m (i+k) q
 | [],i,f=>⟨λz=>(nomatch z),λ⟨_,_,e,_⟩=>by simp at e⟩
 | q::as,i,f=>by
  rw[Br,bh,L3 m as (i+1) f];constructor
  ·rintro(h | ⟨k,p,e,h⟩)
   ·exact⟨0,q,rfl,h⟩
   ·exact⟨k+1,p,e,by rw[show i+(k+1)=i+1+k by lia];exact h⟩
  ·rintro⟨k,p,e,h⟩
   cases k with
   | zero=>cases e;exact .inl h
   | succ k=>exact .inr ⟨k,p,e,by rw[show i+(k+1)=i+1+k by lia]at h;exact h⟩
theorem aat(h:cZ m most){f:Fe}(hf:f∈Br m 0 m.as):W3 m f:=by
 obtain⟨k,q,e,hf⟩:=(L3 m m.as 0 f).mp hf;obtain⟨y,hy,rfl⟩:=aM.mp hf;obtain⟨⟨p,hp,z⟩,b⟩:=(RZ h (dm e)).2 y hy;refine⟨by show 0+k<_;rw[gr];exact(bM.mp e).1,?_,b⟩
 rcases z with z | z
 ·exact dR _ (aM.mpr ⟨p,hp,z.symm⟩)
 ·exact cV _ (aM.mpr ⟨p,hp,z.symm⟩)
theorem FO(k:Nat)(h:cZ m most)(hm:most<=20)(P I AH:Option PV):∀(as:List (Nat×cD)) (i:Nat) (acc:List Fe) (x3 x4:Option PV),(∀q∈as,q∈m.as)->acc.length+400*as.length<=1000000 ->
  ∃y3 y4,cY Qp (vx (run txt (k+3))) (d8 i (as.map eN)) ⟨[P,I,some (.ref 0),x3,x4,AH,some (RW m)],[⟨.lst,acc.map t8⟩]⟩=some (.ok .nx,⟨[P,I,some (.ref 0),y3,y4,AH,some (RW m)],[⟨.lst,(acc++Br m i as).map t8⟩]⟩)/\(Br m i as).length<=400*as.length
 | [],i,acc,x3,x4,_,_=>⟨x3,x4,by rw[Br,dq];rfl,by simp[Br]⟩
 | q::as,i,acc,x3,x4,hq,hz=>by
  rw[aK]at hz ⊢;have hm1:=hq q aE;have hl:=kr h;have hnb:=(RZ h hm1).1;have hf1:(Wi m i q).length<=400:=by unfold Wi;rw[ak];lia
  obtain⟨y3,y4,e,e'⟩:=FO k h hm P I AH as (i+1) (acc++Wi m i q) (some (iN i)) (some (eN q)) (λp hp=>hq p (aF _ hp)) (by rw[aR];lia)
  refine⟨y3,y4,?_,by rw[Br,aR];lia⟩
  rw[Br,<-cW];have r:=Ba k h hm hm1;refine fC (s1:=⟨[P,I,some (.ref 0),some (iN i),some (eN q),AH,some (RW m)],[⟨.lst,acc.map t8⟩]⟩) rfl (dS (p:=.bB) (yF (s2:=⟨[P,I,some (.ref 0),some (iN i),some (eN q),AH,some (RW m)],[⟨.lst,acc.map t8⟩]⟩) rfl rfl (cA (x:=.lst ((Wi m i q).map t8)) ?_ rfl) ?_)) e
  ·unfold Wi;rw[cX];exact cM (l:=RV m q) (e:=pL) (sV (cU (as:=[RW m,eN q]) (cA rfl (cA rfl rfl)) rfl (by simp[ai,noRef,A9,eN,jk]) r) rfl) (by lia) λy _=>e1 (rM:=[none,some (.str y.1),some (.int y.2),some (iN i)]) (h1:=[⟨.lst,acc.map t8⟩]) rfl (tU (ps:=[iN i,.str y.1,.int y.2]) (cA rfl (cA rfl (cA rfl rfl))) (by simp))
  ·rw[bQ];exact xC (n:=0) rfl rfl (by rw[ak,ak];lia)
end
section
variable {m:Md} {most:Nat}
structure PJ (m:Md) (A:List (List Nat)) (ag:eF):Prop where
 ah:Ahd m A
 ok:∀t∈ag,∃f,t.1=kE f/\W3 m f
 nd:(ag.map (·.1)).Nodup
 done:He (yy m A) ag ag.length
 fst:∀f∈Br m 0 m.as,kE f∈ag.map (·.1)
theorem aau{A:List (List Nat)}(T:Ahd m A){f:Fe}(hf:W3 m f):∃l,A[f.n]?=some l/\yy m A (kE f)=some ((MC m l f).map kE)/\(MC m l f).length<=400/\l.length<=400/\(∀n∈l,n<m.as.length)/\∀g∈MC m l f,W3 m g:=by
 have hl:f.n<A.length:=by rw[T.ok.len];exact hf.n
 have he:=bW hl;obtain⟨f1,f2⟩:=T.ok.few A[f.n] (wb hl);refine⟨A[f.n],he,?_,?_,f1,f2,λg hg=>?_⟩
 ·unfold yy;rw[RX,dn,he];rfl
 ·unfold MC;rw[ak];exact bA (BI ..) f1
 ·obtain⟨n,hn,rfl⟩:=aM.mp hg;exact⟨f2 n (b9.mp hn).1,hf.x,hf.l⟩
theorem PK(k:Nat)(hk:14<=k)(h:cZ m most)(hm:most<=20):∃A ag,Gives (run txt (k+4) "needs" [m.prog,.int 1] []) (.lst (ag.map toldP))/\PJ m A ag:=by
 obtain⟨A,Ah,hA⟩:=PH (k+2) h hm;have hU:=L0 h hm;have hl:=kr h;obtain⟨y3,y4,e,hfl⟩:=FO k h hm (some m.prog) (some (.int 1)) (some (ahP A)) m.as 0 [] none none (λ_ z=>z) (by simp;lia)
 rw[eW]at e;obtain⟨ag,t1,t2,t3,_,t5,t6⟩:=Dz (yy m A) ((Br m 0 m.as).map kE) (UN m) 400 (by show _<4000000;lia) (by show _<3000000;lia) (λg hg=>by
  obtain⟨f,rfl,hf⟩:=R0 hg;obtain⟨l,h1,h2,h3,_,_,h4⟩:=aau Ah hf;refine⟨_,h2,λk' QZ=>?_,by rw[ak];exact h3⟩
  obtain⟨f',hf',rfl⟩:=aM.mp QZ;exact D4 (h4 f' hf')) (λk' QZ=>by
  obtain⟨f,hf,rfl⟩:=aM.mp QZ;exact D4 (aat h hf))
 refine⟨A,ag,?_,⟨Ah,λt ht=>R0 (t3 t ht),t2,t5,λf hf=>t6 _ (aM.mpr ⟨f,hf,rfl⟩)⟩⟩
 rw[Hm];have ha:Gives (run txt (k+3) "acts" [m.prog,.int 1] []) (RW m):=yv h (by lia) (k+2) (by lia)
 have hn:Gives (run txt (k+3) "nexts" [m.prog,.int 1] []) (AF m):=(tN h hm (k+1) (by lia)).1
 have lm:∀g (fs:List (List bz)),yy m A g=some fs->∃(q:Nat) (l:List Nat),(∀H,bN H (dw g) (.int 0)=some (.int (q:Int)))/\A[q]?=some l/\l.length<=400/\Gives (run txt (k+3) "needed_ahead" [RW m,.lst (l.map iN),dw g] []) (.lst (fs.map dw)):=λg fs hg=>by
  unfold yy at hg;obtain⟨f,d1,d2⟩:=aY hg;obtain⟨l,d3,rfl⟩:=bj d2;cases LX d1;obtain⟨f1,f2⟩:=Ah.ok.few l (dm d3);refine⟨f.n,l,λ_=>rfl,d3,f1,?_⟩
  have:=tO (k+2) (by lia) f2 f
  rw[cX];exact this
 have i2:∀{n:Nat} {l:List Nat},A[n]?=some l->∀H,bN H (ahP A) (.int (n:Int))=some (.lst (l.map iN)):=λe H=>atI_nat (by rw[bH,e];rfl)
 have nP:=FG h;have nR:noRef (RW m)=true:=by simp[noRef,A9]
 have fR:ui (RW m)=some (m.as.map eN):=rfl;obtain⟨P,hP⟩:=nw m.prog;rw[<-hP]at ha hn nP e ⊢
 generalize RW m=R at ha e lm nR fR
 generalize AF m=F at hn hA
 generalize hAP:ahP A=AP at hA e i2
 have r:=VI (fe:=rd 2) (fb:=bnd Qd (b8 0 3 (run txt (k+3) "needed_ahead"))) (link:=[some 5,some 6]) (s:=⟨[some P,some (.int 1),some (.ref 0),y3,y4,some AP,some R],[⟨.lst,(Br m 0 m.as).map t8⟩]⟩) (s1:=⟨[some P,some (.int 1),some (.ref 0),y3,y4,some AP,some R],[⟨.lst,(Br m 0 m.as).map t8⟩]⟩) (p:=.ref 0) (fk:=(Br m 0 m.as).map kE) (res:=ag) rfl (.inr ⟨0,rfl,by rw[cX];rfl⟩) (O8 (k+2)) (VJ (k+3)) (λf hf=>by
  obtain⟨f',_,rfl⟩:=aM.mp hf;show 3<1000;decide) (by
  rw[ak]
  lia) t1 (λg fs hg=>by
  obtain⟨n,l,g0,g1,gl,g3⟩:=lm g fs hg;refine⟨λf' hf'=>?_,λtold'=>⟨some (dw g)::[some AP,some R],?_⟩⟩
  ·unfold yy at hg;obtain⟨f,d1,d2⟩:=aY hg;obtain⟨l',d3,rfl⟩:=bj d2;obtain⟨f'',_,rfl⟩:=aM.mp hf';show 3<1000;decide
  ·exact cU (as:=[R,.lst (l.map iN),dw g]) (cA rfl (cA (b2 rfl (b2 rfl rfl (g0 _)) (i2 g1 _)) (cA rfl rfl))) rfl (by simp[ai,noRef,nR,kC,OY]) g3)
 refine⟨.ref 2,_,jj (sq (aS (cU (as:=[P,.int 1]) (cA rfl (cA rfl rfl)) rfl rfl ha) rfl) (sq (aS (cU (as:=[F]) (cA (cU (as:=[P,.int 1]) (cA rfl (cA rfl rfl)) rfl rfl hn) rfl) rfl rfl hA) rfl) (sq rfl (sq (fS (sG (eV rfl fR)) e) (rS r))))),?_⟩;exact sY (n:=2) (ZS (hd:=[⟨.lst,(Br m 0 m.as).map t8⟩,mF])) (Fg ag)
end
theorem Bc:∀(A B:List (List cD)) (i:Nat),dZ i (A++B)=dZ i A++dZ (i+A.length) B
 | [],_,_=>rfl
 | a::A,B,i=>by rw[qH,dZ,dZ,Bc A B (i+1),cW,aK,Nat.add_right_comm,wu]
theorem L4(as:List cD):∃a l,dz as=a::l:=by cases as with | nil=>exact⟨_,_,rfl⟩ | cons a l=>exact⟨_,_,rfl⟩
theorem oN:∀(as:List (Nat×cD)) (i:Nat) (kvs:List (bz×PV)) (k:bz) (p:PV),cu kvs k=some p->cu (iA as i kvs) k=some p
 | [],_,_,_,_,h=>h
 | (j,_)::as,i,kvs,k,p,h=>by
  rw[iA];split
  ·exact oN as _ _ _ _ h
  ·refine oN as _ _ _ _ ?_;unfold cu at h ⊢;rw[BX];cases z:kvs.find? λkv=>decide (kv.1=k)with
   | none=>rw[z]at h;cases h
   | some q=>rw[z]at h;exact h
theorem tP(j:Nat)(a:cD)(c:List (Nat×cD)):∀(b:List (Nat×cD)) (i:Nat) (kvs:List (bz×PV)),(∀q∈b,q.1≠j)->cu kvs (.inl (j:Int))=none->cu (iA (b++(j,a)::c) i kvs) (.inl (j:Int))=some (.int ((i+b.length:Nat):Int))
 | [],i,kvs,_,h=>by
  show cu (iA ((j,a)::c) i kvs) _=_;rw[iA,h];refine oN _ _ _ _ _ ?_;unfold cu at h ⊢;rw[BX,BD.mp h];simp
 | (n,x)::b,i,kvs,hb,h=>by
  have hn:n≠j:=hb _ aE;have e:i+((n,x)::b).length=i+1+b.length:=by rw[aK];lia
  rw[e,qH,iA];split
  ·exact tP j a c b (i+1) kvs (λq hq=>hb q (aF _ hq)) h
  ·refine tP j a c b (i+1) _ (λq hq=>hb q (aF _ hq)) ?_
   unfold cu at h ⊢;rw[BX,BD.mp h];simp
   lia
section
variable {m:Md} {most:Nat} {cs:List Nat} {ag:eF}
def L5(m:Md)(j:Nat):Nat:=mT (iA m.as 0 []) j
structure aav (m:Md) (j:Nat) (r:Ro) (b:List (Nat×cD)) (c:List (Nat×cD)):Prop where
 eq:m.as=b++(dz (yH r)).map (λa=>(j,a))++c
 c:∀q∈c,q.1≠j
 st:cu (iA m.as 0 []) (.inl (j:Int))=some (.int (b.length:Int))
theorem PL{j:Nat}{r:Ro}(hr:m.L[j]?=some r):∃b c,aav m j r b c/\L5 m j=b.length:=by
 obtain⟨hj,Mv⟩:=bM.mp hr;have e:m.A=m.A.take j++yH r::m.A.drop (j+1):=by
  have h1:m.A[j]?=some (yH r):=by unfold Md.A;rw[bH,hr];rfl
  obtain⟨h2,h3⟩:=bM.mp h1;rw[<-h3,<-qx,BJ]
 have hl:(m.A.take j).length=j:=by unfold Md.A;simp;lia
 have e2:m.as=dZ 0 (m.A.take j)++(dz (yH r)).map (λa=>(j,a))++dZ (j+1) (m.A.drop (j+1)):=by
  unfold Md.as;rw[dB (dZ 0) e,Bc,dZ,hl,gr,cW]
 have hb:∀q∈dZ 0 (m.A.take j),q.1≠j:=λq hq=>by have:=(mQ _ _ q hq).2;lia
 have st:cu (iA m.as 0 []) (.inl (j:Int))=some (.int ((dZ 0 (m.A.take j)).length:Int)):=by
  obtain⟨a,l,ho⟩:=L4 (yH r);rw[e2,ho,aI,cW,qH,tP j a _ _ 0 [] hb rfl,gr]
 refine⟨_,_,⟨e2,λq hq=>by have:=(mQ _ _ q hq).1;lia,st⟩,?_⟩
 unfold L5 mT;rw[st];rfl
theorem L6(as:List (Nat×cD))(kvs:List (bz×PV))(nx:Nat->List Nat):∀(bs:List (Nat×cD)) (i n:Nat),(H9 as kvs nx i bs)[n]?=(bs[n]?).map λq=>kn as kvs nx (i+n) q
 | [],_,_=>rfl
 | q::bs,i,0=>rfl
 | q::bs,i,n+1=>by
  rw[H9,vU,vU,L6 as kvs nx bs (i+1) n,Nat.add_right_comm,wu]
theorem Wj{n:Nat}{q:Nat×cD}(h:m.as[n]?=some q):m.LO[n]?=some (kn m.as (iA m.as 0 []) m.nx n q):=by
 have:=L6 m.as (iA m.as 0 []) m.nx m.as 0 n;rw[h,gr]at this;exact this
structure oO (m:Md) (j n:Nat) (bs:List cD):Prop where
 here:∀i a,bs[i]?=some a->m.as[n+i]?=some (j,a)
 over:(m.as[n+bs.length]?).map (·.1)≠some j
theorem yz{j n:Nat}{a:cD}{bs:List cD}(R:oO m j n (a::bs)):m.as[n]?=some (j,a)/\(bs=[]->kn m.as (iA m.as 0 []) m.nx n (j,a)=(m.nx j).map (L5 m))/\(bs≠[]->kn m.as (iA m.as 0 []) m.nx n (j,a)=[n+1]/\oO m j (n+1) bs):=by
 refine⟨R.here 0 a rfl,λe=>?_,λe=>⟨?_,λi b hb=>?_,?_⟩⟩
 ·subst e;exact if_neg R.over
 ·cases bs with
  | nil=>exact absurd rfl e
  | cons b bs=>exact if_pos (by rw[R.here 1 b rfl];rfl)
 ·rw[wu,Nat.add_comm 1 i];exact R.here (i+1) b (by rw[vU];exact hb)
 ·rw[wu,Nat.add_comm 1];exact R.over
theorem tQ{j:Nat}{r:Ro}(hr:m.L[j]?=some r):oO m j (L5 m j) (dz (yH r))/\cu (iA m.as 0 []) (.inl (j:Int))=some (.int (L5 m j:Int)):=by
 obtain⟨b,c,h,e⟩:=PL hr;refine⟨⟨λi a ha=>?_,?_⟩,by rw[e];exact h.st⟩
 ·rw[e,h.eq,cW,iU (qG _ _),Nat.add_sub_cancel_left,fJ (by rw[ak];exact(bM.mp ha).1),bH,ha]
  rfl
 ·rw[e,h.eq,iU (by simp)]
  intro z;obtain⟨q,hq,z⟩:=jN.mp z;exact h.c q (dm hq) z
def Wk(ag:eF)(n:Nat)(x:Str)(l:Int):Prop:=kE ⟨n,x,l⟩∈ag.map (·.1)
variable {A:List (List Nat)}
theorem D5(T:PJ m A ag){n b:Nat}{q:Nat×cD}{x:Str}{l:Int}(hq:m.as[n]?=some q)(hb:b∈kn m.as (iA m.as 0 []) m.nx n q)(hk:Wk ag b x l)(he:q.2.k≠x):Wk ag n x l:=by
 obtain⟨ll,e1,e2⟩:=T.ah.all n _ (Wj hq) b hb;obtain⟨t,ht,e⟩:=aM.mp hk;obtain⟨i,hi,hi'⟩:=BP ht;obtain⟨fs,h1,h2⟩:=T.done i t.1 t.2 hi (by rw[bW hi,hi'])
 have h3:yy m A t.1=some ((MC m ll ⟨b,x,l⟩).map kE):=by
  rw[e];unfold yy;rw[RX,dn,e1];rfl
 rw[h3]at h1;cases h1;refine h2 _ (aM.mpr ⟨⟨n,x,l⟩,aM.mpr ⟨n,b9.mpr ⟨e2,?_⟩,rfl⟩,rfl⟩);unfold Bb;rw[hq];show(!(q.2.k==x))=true;rw[fK.mpr he];rfl
def Be(a:cD)(x:Str)(l:Int):Prop:=a.w≠Str.ofString "hand"/\a.t=true/\a.n=x/\l∈PC a
theorem Wl(T:PJ m A ag){n:Nat}{q:Nat×cD}{x:Str}{l:Int}(hq:m.as[n]?=some q)(he:Be q.2 x l):Wk ag n x l:=by
 obtain⟨h0,h1,rfl,h3⟩:=he;refine T.fst _ ((L3 m m.as 0 _).mpr ⟨n,q,hq,?_⟩);rw[gr];refine aM.mpr ⟨(q.2.n,l),?_,rfl⟩;unfold RV;rw[if_neg (by rw[fK.mpr h0];exact c9),if_pos h1]
 exact aM.mpr ⟨l,h3,rfl⟩
theorem back(T:PJ m A ag){j b:Nat}{x:Str}{l:Int}(hb:b∈(m.nx j).map (L5 m))(hk:Wk ag b x l):∀(bs:List cD) (n:Nat),bs≠[]->oO m j n bs->(∀a∈bs,a.k≠x)->Wk ag n x l
 | [],_,h,_,_=>absurd rfl h
 | a::bs,n,_,R,he=>by
  obtain⟨h1,h2,h3⟩:=yz R;by_cases e:bs=[]
  ·exact D5 T h1 (by rw[h2 e];exact hb) hk (he a aE)
  ·obtain⟨h5,h6⟩:=h3 e;exact D5 T h1 (by rw[h5];exact aE) (back T hb hk bs (n+1) e h6 λa ha=>he a (aF _ ha)) (he a aE)
theorem aaw(T:PJ m A ag){j:Nat}{x:Str}{l:Int}{a:cD}{b2:List cD}(ht:Be a x l):∀(b1:List cD) (n:Nat),oO m j n (b1++a::b2)->(∀c∈b1,c.k≠x)->Wk ag n x l
 | [],n,R,_=>Wl T (yz R).1 ht
 | c::b1,n,R,he=>by
  obtain⟨h1,h2,h3⟩:=yz (show oO m j n (c::(b1++a::b2))from R)
  obtain⟨h5,h6⟩:=h3 (by simp)
  exact D5 T h1 (by rw[h5];exact aE) (aaw T ht b1 (n+1) h6 λa ha=>he a (aF _ ha)) (he c aE)
end
theorem Wm(C:Int)(q i:Nat)(hi:i<4):gY C q≠sI i:=by
 intro h;have h1:(gY C q).cps.toList=(List.range (Ia C).length).map (My (Ia C) (Lk C) q):=by simp[gY,DZ,eQ]
 rw[h,mV]at h1;obtain⟨n,hn⟩:∃n,ym C=n+1:=⟨ym C-1,by have:=tj C;lia⟩
 rw[hn,BE,aI]at h1;have h2:=dB (λl=>l.head?) h1
 have h3:∀a:Nat,a<97->some a=some (My (Ia C) (Lk C) q 0)->False:=λa ha z=>by
  have:=cz z;unfold My cp at this
  lia
 have go:∀a:Nat,a<97->(sI i).cps.toList.head?=some a->False:=λa ha z=>h3 a ha (z.symm.trans h2)
 match i,hi,go with
 | 0,_,go=>exact go 48 (by decide) (by kernel_rfl)
 | 1,_,go=>exact go 49 (by decide) (by kernel_rfl)
 | 2,_,go=>exact go 50 (by decide) (by kernel_rfl)
 | 3,_,go=>exact go 51 (by decide) (by kernel_rfl)
noncomputable def W4(x:Str)(f:Int)(n:Int):List (Str×Int):=(List.range n.toNat).map λi=>(x,f+(i:Nat)*1)
def W5(s:Sp):List (Str×Int):=W4 s.x s.r.2.1 s.r.2.2.1
def lW(s:Sp):List (Str×Int):=if dA s.d=true then W5 s else []
def pZ:Op->List Sp
 | .n _=>[]
 | .s s=>[s]
def MD:Ro->List Sp
 | .put _ s o=>s::pZ o
 | .set s _ a b=>s::(pZ a++pZ b)
 | .oK t s=>[t,s]
 | .oM t s=>[t,s]
 | .drop s=>[s]
 | .iS _ _ s=>[s]
 | .t7 a _ _=>pZ a
 | .Bq a=>pZ a
 | _=>[]
def Ic(q:Rk):List (Str×Int):=if dA q.2=true then W4 q.1 0 (sz (bE q.2))else []
def R6:Ro->List (Str×Int)
 | .call _ _ ar=>ar.flatMap Ic
 | .eR (some q)=>Ic q
 | r=>(MD r).flatMap lW
def R7:Ro->Str
 | .iS x _ _=>x
 | .call tk _ _=>AO tk
 | _=>Str.ofString ""
section
variable {m:Md} {most:Nat} {x:Str} {l:Int} {A:List (List Nat)} {ag:eF}
def Nm(m:Md)(x:Str):Prop:=∃d,(x,d)∈m.ks
def Qt(a:cD):Prop:=a.k=Str.ofString ""\/∃i,i<4/\a.k=sI i
theorem qt{a:cD}(g:Nm m x)(h:Qt a):a.k≠x:=by
 obtain⟨d,g⟩:=g;obtain⟨i,_,e⟩:=RN g;have e:x=gY m.C i:=e;subst e;rcases h with h1 | ⟨j,hj,h1⟩
 ·rw[h1];exact λz=>absurd z.symm (fK.mp (Lm m.C i))
 ·rw[h1];exact λz=>Wm m.C i j hj z.symm
theorem aax(a:PV):∀b∈H0 a,Qt b:=by
 unfold H0;split
 ·intro b hb;cases aB.mp hb;exact .inl rfl
 ·intro b hb;cases hb
theorem uO(o:Op):∀b∈nj o,Qt b:=by
 cases o with
 | n i=>intro b hb;cases hb
 | s s =>
  intro b hb;rcases bh.mp hb with hb | hb
  ·exact aax _ b hb
  ·cases aB.mp hb;exact .inl rfl
theorem PM(s:Sp):∀b∈yi s,Qt b:=by
 unfold yi;split
 ·intro b hb;cases aB.mp hb;exact .inl rfl
 ·intro b hb;rcases bh.mp hb with hb | hb
  ·exact aax _ b hb
  ·cases aB.mp hb;exact .inl rfl
theorem L7:∀(ar:List Rk) (i:Nat),i+ar.length<=4->∀a∈jF i ar,Qt a
 | [],_,_,_,h=>nomatch h
 | r::l,i,hi,a,h=>by
  rw[aK]at hi;rcases aD.mp h with rfl | h
  ·unfold WX;split
   ·exact .inl rfl
   ·exact .inr ⟨i,by lia,rfl⟩
  ·exact L7 l (i+1) (by lia) a h
theorem Wn{r:Ro}{C:Cs}{M:Nat}(ok:tH C m.ks M r):∀a∈yH r,Qt a\/a.k=R7 r:=by
 intro a ha;cases r with
 | put fl s o=>exact .inl ((bh.mp ha).elim (uO o a) (PM s a))
 | set s w a1 b1=>exact .inl ((bh.mp ha).elim (λh=>(bh.mp h).elim (uO _ a) (uO _ a)) (PM s a))
 | oK t s =>
  rcases aD.mp ha with rfl | ha
  ·exact .inl (.inl rfl)
  ·cases aB.mp ha;exact .inl (.inl rfl)
 | oM t s =>
  rcases aD.mp ha with rfl | ha
  ·exact .inl (.inl rfl)
  ·cases aB.mp ha;exact .inl (.inl rfl)
 | drop s=>cases aB.mp ha;exact .inl (.inl rfl)
 | iS y b s=>cases aB.mp ha;exact .inr rfl
 | call tk j ar =>
  rcases bh.mp ha with ha | ha
  ·exact .inl (L7 ar 0 (by have:=ok.2.2.2.2.1;lia) a ha)
  ·rcases aD.mp ha with rfl | ha
   ·exact .inl (.inl rfl)
   ·cases tk with
    | none=>cases ha
    | some q =>
     obtain⟨y,d⟩:=q;cases d with
     | ow s=>cases aB.mp ha;exact .inl (.inl rfl)
     | ho b s=>cases aB.mp ha;exact .inr rfl
 | t7 o i m=>exact .inl (uO o a ((bh.mp ha).elim id λz=>nomatch z))
 | go=>cases ha
 | Bq o=>exact .inl (uO o a ha)
 | eR z =>
  cases z with
  | none=>cases ha
  | some q =>
   cases aB.mp ha;unfold ZZ;split<;>exact .inl (.inl rfl)
theorem FP{q:Rk}:∀(ar:List Rk) (i:Nat),q∈ar->∃j,WX q.1 q.2 (sI j)∈jF i ar
 | [],_,h=>nomatch h
 | r::l,i,h=>by
  rcases aD.mp h with rfl | h
  ·exact⟨i,aE⟩
  ·obtain⟨j,hj⟩:=FP l (i+1) h;exact⟨j,aF _ hj⟩
theorem L8{y:Str}{f n:Int}(h:(x,l)∈W4 y f n):y=x/\l∈(List.range n.toNat).map λi=>f+(i:Nat)*1:=by
 obtain⟨i,hi,e⟩:=aM.mp h;cases e;exact⟨rfl,aM.mpr ⟨i,hi,rfl⟩⟩
theorem m9{s:Sp}(w t:Str)(hw:w≠Str.ofString "hand")(h:(x,l)∈lW s):Be (pC w s t) x l:=by
 unfold lW at h;split at h
 ·rename_i hh;obtain⟨h1,h2⟩:=L8 h;exact⟨hw,hh,h1,h2⟩
 ·cases h
theorem Bf{o:Op}(h:(x,l)∈(pZ o).flatMap lW):∃a∈nj o,Be a x l:=by
 cases o with
 | n i=>cases h
 | s s =>
  obtain⟨s',hs,h⟩:=gn.mp h;cases aB.mp hs;exact⟨_,cV _ (aB.mpr rfl),m9 (Str.ofString "read") (Str.ofString "") (by decide +kernel) h⟩
theorem R8{s:Sp}(h:(x,l)∈lW s):∃a∈yi s,Be a x l:=by
 unfold yi;split
 ·exact⟨_,aB.mpr rfl,m9 (Str.ofString "fill") (Str.ofString "") (by decide +kernel) h⟩
 ·exact⟨_,cV _ (aB.mpr rfl),m9 (Str.ofString "turn") (Str.ofString "") (by decide +kernel) h⟩
theorem L9{s t:Sp}(h:(x,l)∈[s,t].flatMap lW):(x,l)∈lW s\/(x,l)∈lW t:=by
 rw[eU,eU,List.flatMap_nil,dq]at h;exact bh.mp h
theorem Ma{s:Sp}(h:(x,l)∈[s].flatMap lW):(x,l)∈lW s:=by
 rw[eU,List.flatMap_nil,dq]at h;exact h
end
section
variable {m:Md} {most:Nat} {x:Str} {l:Int} {A:List (List Nat)} {ag:eF}
theorem aay{q:Rk}(h:(x,l)∈Ic q):dA q.2=true/\q.1=x/\l∈(List.range (sz (bE q.2)).toNat).map fun(i:Nat)=>(0:Int)+(i:Nat)*1:=by
 unfold Ic at h;split at h
 ·rename_i hh;obtain⟨h1,h2⟩:=L8 h;exact⟨hh,h1,h2⟩
 ·cases h
theorem Wo{r:Ro}{C:Cs}{M:Nat}(ok:tH C m.ks M r)(g:Nm m x)(h:(x,l)∈R6 r):∃b1 a b2,yH r=b1++a::b2/\Be a x l/\∀c∈b1,c.k≠x:=by
 have all:∀L:List cD,(∀c∈L,Qt c)->(∃a∈L,Be a x l)->∃b1 a b2,L=b1++a::b2/\Be a x l/\∀c∈b1,c.k≠x:=by
  rintro L hq ⟨a,ha,e⟩
  obtain⟨b1,b2,rfl⟩:=List.append_of_mem ha;exact⟨b1,a,b2,rfl,e,λc hc=>qt g (hq c (dR _ hc))⟩
 cases r with
 | put fl s o =>
  refine all _ (λc hc=>(bh.mp hc).elim (uO o c) (PM s c)) ?_
  have h:(x,l)∈lW s++(pZ o).flatMap lW:=h;rcases bh.mp h with h | h
  ·obtain⟨a,ha,e⟩:=R8 h;exact⟨a,cV _ ha,e⟩
  ·obtain⟨a,ha,e⟩:=Bf h;exact⟨a,dR _ ha,e⟩
 | set s w a1 b1 =>
  refine all _ (λc hc=>(bh.mp hc).elim (λh=>(bh.mp h).elim (uO _ c) (uO _ c)) (PM s c)) ?_
  have h:(x,l)∈lW s++(pZ a1++pZ b1).flatMap lW:=h;rw[List.flatMap_append]at h;rcases bh.mp h with h | h
  ·obtain⟨a,ha,e⟩:=R8 h;exact⟨a,cV _ ha,e⟩
  ·rcases bh.mp h with h | h
   ·obtain⟨a,ha,e⟩:=Bf h;exact⟨a,dR _ (dR _ ha),e⟩
   ·obtain⟨a,ha,e⟩:=Bf h;exact⟨a,dR _ (cV _ ha),e⟩
 | oK t s =>
  refine all _ (λc hc=>?_) ?_
  ·rcases aD.mp hc with rfl | hc
   ·exact .inl rfl
   ·cases aB.mp hc;exact .inl rfl
  ·rcases L9 h with h | h
   ·exact⟨_,aF _ aE,m9 (Str.ofString "fill") (Str.ofString "") (by decide +kernel) h⟩
   ·exact⟨_,aE,m9 (Str.ofString "read") (Str.ofString "") (by decide +kernel) h⟩
 | oM t s =>
  refine all _ (λc hc=>?_) ?_
  ·rcases aD.mp hc with rfl | hc
   ·exact .inl rfl
   ·cases aB.mp hc;exact .inl rfl
  ·rcases L9 h with h | h
   ·exact⟨_,aF _ aE,m9 (Str.ofString "fill") (Str.ofString "") (by decide +kernel) h⟩
   ·exact⟨_,aE,m9 (Str.ofString "empty") (Str.ofString "") (by decide +kernel) h⟩
 | drop s=>exact all _ (λc hc=>by cases aB.mp hc;exact .inl rfl) ⟨_,aE,m9 (Str.ofString "empty") (Str.ofString "") (by decide +kernel) (Ma h)⟩
 | iS y b s=>exact⟨[],_,[],rfl,m9 (lw b) y (by cases b<;>decide +kernel) (Ma h),λ_ z=>nomatch z⟩
 | call tk j ar =>
  obtain⟨q,hq,h⟩:=gn.mp h;obtain⟨hh,h1,h2⟩:=aay h;obtain⟨i,hi⟩:=FP ar 0 hq;obtain⟨b1,a,b2,e,t,hc⟩:=all (jF 0 ar) (L7 ar 0 (by have:=ok.2.2.2.2.1;lia)) ⟨_,hi,by
   obtain⟨y,d⟩:=q;cases d with
   | ow s=>cases hh
   | ho b s=>exact⟨by show(if b=true then Str.ofString "sole" else Str.ofString "lend")≠_;cases b<;>decide +kernel,rfl,h1,h2⟩⟩
  exact⟨b1,a,b2++pB::pY tk,by show jF 0 ar++pB::pY tk=_;rw[e];simp,t,hc⟩
 | t7 o i n =>
  refine all _ (λc hc=>uO o c ((bh.mp hc).elim id λz=>nomatch z)) ?_
  obtain⟨a,ha,e⟩:=Bf h;exact⟨a,dR _ ha,e⟩
 | go=>cases h
 | Bq o=>exact all _ (uO o) (Bf h)
 | eR z =>
  cases z with
  | none=>cases h
  | some q =>
   obtain⟨hh,h1,h2⟩:=aay h;obtain⟨y,d⟩:=q;cases d with
   | ow s=>cases hh
   | ho b s=>exact⟨[],_,[],rfl,⟨by show Str.ofString "give"≠_;decide +kernel,rfl,h1,h2⟩,λ_ z=>nomatch z⟩
def Pj(m:Md)(ag:eF)(j:Nat)(x:Str)(l:Int):Prop:=Nm m x/\Wk ag (L5 m j) x l
theorem Mb(h:cZ m most)(T:PJ m A ag){j:Nat}{r:Ro}(hr:m.L[j]?=some r)(g:Nm m x)(hx:(x,l)∈R6 r):Pj m ag j x l:=by
 obtain⟨b1,a,b2,e,t,hc⟩:=Wo (h.ok r (dm hr)) g hx;obtain⟨R,_⟩:=tQ hr;have:dz (yH r)=b1++a::b2:=by rw[e];cases b1<;>rfl
 rw[this]at R;exact⟨g,aaw T t b1 _ R hc⟩
theorem Mc(h:cZ m most)(T:PJ m A ag){j j':Nat}{r:Ro}(hr:m.L[j]?=some r)(hj:j'∈m.nx j)(hp:Pj m ag j' x l)(hx:x≠R7 r):Pj m ag j x l:=by
 obtain⟨R,_⟩:=tQ hr;obtain⟨a0,l0,ne⟩:=L4 (yH r);have ne:dz (yH r)≠[]:=by rw[ne];exact List.cons_ne_nil _ _
 refine⟨hp.1,back T (aM.mpr ⟨j',hj,rfl⟩) hp.2 _ _ ne R λa ha=>?_⟩
 have:a=Fd\/a∈yH r:=by
  revert ha
  unfold dz;cases yH r with
  | nil=>exact λha=>.inl (aB.mp ha)
  | cons b c=>exact .inr
 rcases this with rfl | ha
 ·exact qt hp.1 (.inl rfl)
 ·rcases Wn (h.ok r (dm hr)) a ha with q | q
  ·exact qt hp.1 q
  ·rw[q];exact λz=>hx z.symm
end
theorem R9{c:CT}(A P K:Option PV):∀(ps:List Sh) (a:Int) (x4:Option PV),(∀s∈ps,Gives (c "_law_leaves" [enc s] []) (.lst (bR (lv s))))->∃lX,cY (aU 4) (DJ c) (ps.map enc) (S0 [A,P,some (.int a),K,x4])=some (.ok .nx,S0 [A,P,some (.int (a+((gg ps).length:Int))),K,lX])
 | [],a,x4,_=>⟨x4,by simp[gg];rfl⟩
 | s::ps,a,x4,h=>by
  obtain⟨lX,e⟩:=R9 A P K ps (a+((lv s).length:Int)) (some (enc s)) λt ht=>h t (aF _ ht)
  refine⟨lX,?_⟩;rw[show a+((gg (s::ps)).length:Int)=a+((lv s).length:Int)+((gg ps).length:Int) by simp only[gg,aR];lia]
  refine fC rfl (aS (b2 rfl (bV (cA (cU (cA rfl rfl) rfl rfl (h s aE)) rfl) (z:=.int ((lv s).length:Int)) ?_) rfl) rfl) e;show some (PV.int ((bR (lv s)).length:Int))=_;rw[fB]
theorem FQ(k:Nat)(P:Option PV):∀(p:List Int) (s:Sh) (a:Int) (x3 x4:Option PV) (s':Sh) (a':Int),(tab s).length<=500->dp s<=k->walk s a p=some (s',a')->∃x3' lX,cY (aU 3) (DK (run txt (k+1))) (p.map .int) (S0 [some (enc s),P,some (.int a),x3,x4])=some (.ok .nx,S0 [some (enc s'),P,some (.int a'),x3',lX])
 | [],s,a,x3,x4,s',a',_,_,h=>by
  simp[walk]at h;obtain⟨rfl,rfl⟩:=h;exact⟨x3,x4,rfl⟩
 | i::p,s,a,x3,x4,s',a',ht,hd,h=>by
  obtain⟨x,hx,hw⟩:=la.mp (show(HZ s i).bind (λx=>walk x.1 (a+x.2) p)=some (s',a')from h)
  obtain⟨ps,rfl,h0,hg,Zs⟩:=km hx;have G1:x.1∈ps:=dm hg;have CS:=vo G1;have htl:(tab (.br ps)).length=gX ps+1:=by simp only[tab,aK,gh]
  have hll:=xM ps;have hnl:=se ps;have hdm:=La G1;have hdd:pd ps+1<=k:=by simpa only[dp]using hd
  obtain⟨lX,q⟩:=R9 (c:=run txt (k+1)) (some (enc (.br ps))) P (some (.int i)) (ps.take i.toNat) a x4 λs hs=>gS ps k (by lia) (by lia) s (List.mem_of_mem_take hs)
  obtain⟨y3,y4,r⟩:=FQ k P p x.1 (a+x.2) (some (.int i)) lX s' a' (by lia) (by lia) hw
  rw[<-Zs]at q;have xp:=qm h0 hg;have DP:Ez [] none (some i) (.ao (bR ps))=some (.ao ((ps.take i.toNat).map enc)):=by
   show some (PV.ao (jy (bR ps) none (some i)))=_;rw[<-lg h0,DO,iQ,wt,er]
  exact⟨y3,y4,fC rfl (sq (fS (sV (cE (b2 rfl rfl rfl) rfl rfl DP) rfl) q) (aS (b2 (b2 rfl rfl rfl) rfl xp) rfl)) r⟩
theorem Me(k:Nat)(s:Sh)(p:List Int)(x:Sh×Int)(ht:(tab s).length<=500)(hd:dp s<=k)(h:walk s 0 p=some x):Gives (run txt (k+2) "_law_first" [enc s,.ao (p.map .int)] []) (.int x.2):=by
 rw[DL];obtain⟨x3,x4,q⟩:=FQ k (some (.ao (p.map .int))) p s 0 none none x.1 x.2 ht hd h;exact gV (sq (aS rfl rfl) (sq (fS rfl q) (rS rfl))) rfl
theorem Bg:∀(kvs acc:List (bz×PV)),((acc++kvs).map (·.1)).Nodup->vg kvs ⟨.dU false (acc.map λq=>[q.1]),acc.map (·.2)⟩=⟨.dU false ((acc++kvs).map λq=>[q.1]),(acc++kvs).map (·.2)⟩
 | [],acc,_=>by rw[dq];rfl
 | (k,p)::kvs,acc,h=>by
  have XT:j6 [k] (acc.map λq=>[q.1])=false:=by
   unfold j6;rw[List.any_eq_false];intro x hx;obtain⟨q,hq,rfl⟩:=aM.mp hx;rw[bQ,nE]at h;simp only[nF];intro e;injection e with e _
   exact h.2.2 q.1 (aM.mpr ⟨q,hq,rfl⟩) k (by simp) e
  have ih:=Bg kvs (acc++[(k,p)]) (by grind)
  show vg kvs (lL false [k] p (acc.map λq=>[q.1]) (acc.map (·.2)))=_
  unfold lL;rw[XT,if_neg c9];rw[cW,bQ,bQ]at ih;exact ih
def PN{ks:List Rk}(hn:(ks.map (·.1)).Nodup)(hl:ks.length<=1000):G6 (ks.map bD)=some ⟨.dU false (ks.map λq=>[.inr q.1]),ks.map λq=>encK q.2⟩:=by
 have e:∀ks:List Rk,cJ EX (ks.map bD)=some (ks.map λq=>((.inr q.1:bz),encK q.2)):=λks=>by
  induction ks with
  | nil=>rfl
  | cons q ks ih=>rw[aI,cJ,ih];rfl
 unfold G6;rw[ak,if_pos hl,e,gI];have:=Bg (ks.map λq=>((.inr q.1:bz),encK q.2)) [] (by
  grind)
 rw[eW,cX,cX]at this;exact dB some this
theorem Bh(x:Str):∀ks:List Rk,fH [.inr x] (ks.map λq=>[.inr q.1]) (ks.map λq=>encK q.2)=(ju ks x).map encK
 | []=>rfl
 | q::ks=>by
  rw[aI,aI,fH,ju];by_cases e:q.1=x
  ·grind
  ·rw[if_neg (by grind),if_neg e]
   exact Bh x ks
def tV(m:Md):aq:=⟨.dU false (m.ks.map λq=>[.inr q.1]),m.ks.map λq=>encK q.2⟩
section
variable {m:Md} {most:Nat} {H:List aq}
theorem Mf(hH:H[0]?=some (tV m)){x:Str}{d:Kn}(hx:(x,d)∈m.ks):bN H (.ref 0) (.str x)=some (encK d):=by
 have dr:cm H (.ref 0)=some (.dU false (m.ks.map λq=>[.inr q.1]),m.ks.map λq=>encK q.2):=by
  show(H[0]?).bind _=_;rw[hH];rfl
 show(match cm H (.ref 0)with
  | some (.ao,ps)=>(kM (.str x)).bind (L2.jJ ps)
  | some (.lst,ps)=>(kM (.str x)).bind (L2.jJ ps)
  | some (.dU t ks,ps)=>(gA t (.str x)).bind λk=>fH k ks ps
  | _=>none)=_
 rw[dr];show fH [.inr x] _ _=_;rw[Bh,iR m.ks (x,d) vO hx];rfl
theorem PQ:∀l:List Int,ai (l.map PV.int)=true
 | []=>rfl
 | _::l=>PQ l
theorem FT(c:CT)(A P L:Option PV):∀(p:List Int) (s:Sh) (a:Int) (x4:Option PV) (s':Sh) (a':Int),walk s a p=some (s',a')->∃lX,cY (aU 4) (ya c) (p.map .int) ⟨[A,P,some (enc s),L,x4],H⟩=some (.ok .nx,⟨[A,P,some (enc s'),L,lX],H⟩)
 | [],s,a,x4,s',a',h=>by
  simp[walk]at h;obtain⟨rfl,rfl⟩:=h;exact⟨x4,rfl⟩
 | i::p,s,a,x4,s',a',h=>by
  obtain⟨x,hx,hw⟩:=la.mp (show(HZ s i).bind (λx=>walk x.1 (a+x.2) p)=some (s',a')from h)
  obtain⟨ps,rfl,h0,hg,_⟩:=km hx;obtain⟨lX,q⟩:=FT c A P L p x.1 (a+x.2) (some (.int i)) s' a' hw;exact⟨lX,fC rfl (aS (b2 (b2 rfl rfl rfl) rfl (qm h0 hg)) rfl) q⟩
theorem D6(k:Nat)(hk:4<=k)(hH:H[0]?=some (tV m)){s:Sp}(hs:cy m.ks s)(hn:noRef s.a=true):run txt (k+3) "_law_touched" [.ref 0,aO s] H=some (.ok (.lst ((W5 s).map pL)),H):=by
 obtain⟨x,d,r,a⟩:=s;have hw:=sg (bE d) r hs.row 0;have hz:=yf (bE d) r hs.row;have hd:=oG (bE d) r hs.row;have h1:(tab (bE d)).length<=100:=hs.ok.1;have h2:dp (bE d)<=3:=hs.ok.2;have hl:=Ao (bE d);rw[lB]at hw;have hf:=Me k (bE d) r.1 _ (by lia) (by lia) hw
 have hv:=oJ r.2.2.2 (k+1) (by lia) (by lia)
 obtain⟨x4,q⟩:=FT (run txt (k+2)) (some (.ref 0)) (some (Ld x (dA d) r.1 a)) (some (.int r.2.1)) r.1 (bE d) 0 none _ _ hw (H:=H);rw[yb];have h0:Ek (op2 bN (rd 0) (op2 bN (rd 1) (kI 0))) ⟨[some (.ref 0),some (Ld x (dA d) r.1 a),none,none,none],H⟩ (encK d):=b2 rfl (b2 rfl rfl rfl) (Mf hH hs.mem);have hi:Ev (dP (gf Q2) (c8 Qw (aU 2)) (aX .nx)) ⟨[some (.ref 0),some (Ld x (dA d) r.1 a),some (encK d),none,none],H⟩ .nx ⟨[some (.ref 0),some (Ld x (dA d) r.1 a),some (enc (bE d)),none,none],H⟩:=by
  cases d with
  | ow s=>exact iF (tB (b:=false) (b2 rfl rfl rfl)) rfl
  | ho b s=>exact iT (tB (b:=true) (b2 rfl rfl rfl)) (aS (b2 rfl rfl rfl) rfl)
 refine jj (Bn:=[some (.ref 0),some (Ld x (dA d) r.1 a),some (enc r.2.2.2),some (.int r.2.1),x4]) ?_;refine sq (aS h0 rfl) (sq hi (sq (aS (cU (as:=[enc (bE d),.ao (r.1.map .int)]) (cA rfl (cA (b2 rfl rfl rfl) rfl)) rfl (by simp[ai,noRef,dv,PQ]) hf) rfl) (sq (fS (sV (b2 rfl rfl rfl) rfl) q) (rS ?_))))
 show Ev _ _ (PV.lst ((W4 x r.2.1 r.2.2.1).map pL)) _;unfold W4;rw[cX,hz,show(sz r.2.2.2).toNat=(lv r.2.2.2).length from rfl]
 refine cM (l:=List.range (lv r.2.2.2).length) (e:=nk) (mU (j:=(lv r.2.2.2).length) (cA (bV (cA (cU (as:=[enc r.2.2.2]) (cA rfl rfl) rfl (by simp[ai,dv]) hv) rfl) ?_) rfl) (by lia)) (by rw[iZ];lia) λi _=>?_
 ·show some (PV.int ((bR (lv r.2.2.2)).length:Int))=_;rw[fB];rfl
 ·rw[aas];show _=some (some (pL (x,r.2.1+(i:Int)*1)),H);rw[Int.mul_one];exact e1 (rM:=[none,some (iN i),some (.int r.2.1),some (Ld x (dA d) r.1 a)]) (h1:=H) rfl (tU (ps:=[.str x,.int (r.2.1+(i:Int))]) (cA (b2 rfl rfl rfl) (cA (b2 rfl rfl rfl) rfl)) (by simp))
end
section
variable {m:Md} {most:Nat} {H:List aq}
theorem Wr(hH:H[0]?=some C)(p:PV):(((0:Nat)==0)&&(H.isEmpty || ai [.ref 0,p]))=false:=by
 cases H with
 | nil=>cases hH
 | cons a b=>rfl
theorem aaz{ks:List Rk}{a:PV}(h:uI ks a):noRef a=true:=by
 cases h<;>rfl
theorem Bi(k:Nat)(hk:4<=k)(hH:H[0]?=some (tV m))(R P:Option PV):∀(ss:List Sp) (acc:List (Str×Int)) (x4:Option PV),(∀s∈ss,cy m.ks s)->(∀s∈ss,(W5 s).length<=3)->acc.length+3*ss.length<=1000 ->
  ∃y4,cY (aU 4) (yc (run txt (k+3))) (ss.map aO) ⟨[some (.ref 0),R,P,some (.lst (acc.map pL)),x4],H⟩=some (.ok .nx,⟨[some (.ref 0),R,P,some (.lst ((acc++ss.flatMap lW).map pL)),y4],H⟩)
 | [],acc,x4,_,_,_=>⟨x4,by simp;rfl⟩
 | s::ss,acc,x4,hs,h3,hz=>by
  rw[aK]at hz;have ok:=hs s aE;have l3:=h3 s aE;have lt:(lW s).length<=3:=by unfold lW;split;exact l3;simp
  obtain⟨y4,e⟩:=Bi k hk hH R P ss (acc++lW s) (some (aO s)) (λt ht=>hs t (aF _ ht)) (λt ht=>h3 t (aF _ ht)) (by rw[aR];lia)
  refine⟨y4,?_⟩;rw[eU,<-cW];refine fC (s1:=⟨[some (.ref 0),R,P,some (.lst (acc.map pL)),some (aO s)],H⟩) rfl ?_ e;have t:Ek (gf (op2 bN (rd 4) (kI 1))) ⟨[some (.ref 0),R,P,some (.lst (acc.map pL)),some (aO s)],H⟩ (dA s.d):=tB (b2 rfl rfl rfl);cases hh:dA s.d with
  | false =>
   rw[hh]at t;rw[show lW s=[] by unfold lW;rw[hh];rfl,dq]
   exact iF t rfl
  | true =>
   rw[hh]at t;have e1:lW s=W5 s:=by unfold lW;rw[hh];rfl
   refine iT t (aS (b2 rfl (clG (as:=[.ref 0,aO s]) (cA rfl (cA rfl rfl)) rfl (Wr hH _) (D6 k hk hH ok (aaz ok.at_))) ?_) rfl);rw[e1,bQ];exact aL (by rw[ak,ak];lia)
def Mg:Ro->List Sp
 | .call _ _ ar=>(ar.filter λq=>dA q.2).map λq=>⟨q.1,q.2,jE (bE q.2),.bB⟩
 | .eR (some q)=>if dA q.2=true then [⟨q.1,q.2,jE (bE q.2),.bB⟩]else []
 | r=>MD r
theorem Sb(q:Rk)(hh:dA q.2=true):lW ⟨q.1,q.2,jE (bE q.2),.bB⟩=Ic q:=by
 unfold lW Ic;rw[if_pos (by exact hh),if_pos hh]
 rfl
theorem Sd:∀r:Ro,(Mg r).flatMap lW=R6 r
 | .call tk j ar=>by
  show((ar.filter λq=>dA q.2).map _).flatMap lW=ar.flatMap Ic
  induction ar with
  | nil=>rfl
  | cons q ar ih =>
   rw[v9,eU];cases hh:dA q.2 with
   | false=>rw[if_neg (by decide),show Ic q=[] by unfold Ic;rw[hh];rfl];exact ih
   | true=>rw[if_pos rfl,aI,eU,Sb q hh,ih]
 | .eR (some q)=>by
  show(if dA q.2=true then _ else _:List Sp).flatMap lW=Ic q
  cases hh:dA q.2 with
  | false=>rw[if_neg (by decide),show Ic q=[] by unfold Ic;rw[hh];rfl];rfl
  | true=>rw[if_pos rfl,eU,Sb q hh];simp
 | .eR none=>rfl
 | .put _ _ _=>rfl
 | .set _ _ _ _=>rfl
 | .oK _ _=>rfl
 | .oM _ _=>rfl
 | .drop _=>rfl
 | .iS _ _ _=>rfl
 | .t7 _ _ _=>rfl
 | .go _=>rfl
 | .Bq _=>rfl
end
section
variable {m:Md} {most:Nat} {H:List aq}
theorem Se(h:cZ m most){r:Ro}{C:Cs}{M:Nat}(ok:tH C m.ks M r):∀s∈Mg r,cy m.ks s:=by
 have op:∀o:Op,dH m.ks o->∀s∈pZ o,cy m.ks s:=λo ho s hs=>by
  cases o with
  | n i=>cases hs
  | s t=>cases aB.mp hs;exact ho
 have wh:∀q:Rk,q∈m.ks->cy m.ks ⟨q.1,q.2,jE (bE q.2),.bB⟩:=λq hq=>⟨hq,(h.ks.good _ hq).1.1,gj _,.bB⟩
 intro s hs;cases r with
 | put fl t o=>rcases aD.mp hs with rfl | hs;exact ok.1;exact op o ok.2.1 s hs
 | set t w a b =>
  rcases aD.mp hs with rfl | hs
  ·exact ok.1
  ·exact(bh.mp hs).elim (op a ok.2.1 s) (op b ok.2.2.1 s)
 | oK t u =>
  rcases aD.mp hs with rfl | hs
  ·exact ok.1
  ·cases aB.mp hs;exact ok.2.1
 | oM t u =>
  rcases aD.mp hs with rfl | hs
  ·exact ok.1
  ·cases aB.mp hs;exact ok.2.1
 | drop t=>cases aB.mp hs;exact ok.1
 | iS y b t=>cases aB.mp hs;exact ok.1
 | call tk j ar =>
  obtain⟨q,hq,rfl⟩:=aM.mp hs;exact wh q (ok.2.2.2.1 q (b9.mp hq).1)
 | t7 a i n=>exact op a ok.1 s hs
 | go=>cases hs
 | Bq a=>exact op a ok s hs
 | eR z =>
  cases z with
  | none=>cases hs
  | some q =>
   have hs:s∈(if dA q.2=true then [(⟨q.1,q.2,jE (bE q.2),.bB⟩:Sp)]else []):=hs
   split at hs
   ·cases aB.mp hs;exact wh q (ok q rfl)
   ·cases hs
theorem tl3(h:cZ m most){s:Sp}(hs:cy m.ks s):(W5 s).length<=3:=by
 unfold W5 W4;rw[ak,iZ,yf _ _ hs.row];have h1:=(oG _ _ hs.row).2;have h2:(lv (bE s.d)).length<=3:=(h.ks.good _ hs.mem).2;show((lv s.r.2.2.2).length:Int).toNat<=3
 lia
def spP:PV->Option PV
 | .nd .ao [a,.bl b,c,d]=>some (.nd .ao [a,.bl b,c,d])
 | _=>none
inductive ME:PV->Prop
 | sp (s:Sp):ME (aO s)
 | int (i:Int):ME (.int i)
 | str (x:Str):ME (.str x)
 | A4 (ar:List Rk):ME (.ao (ar.map ei))
theorem aaA(ρ:List (Option PV)):∀{p:PV},ME p->jB (aU 1) (dP (gf (Uh .tuple (rd 1))) (dP Qy (gf (Uh .bool Q2)) (aX false)) (aX false)) (rd 1) (bK [none,none] ρ) p H=some (spP p,H)
 | _,.sp s=>Mx (rM:=[none,some (aO s)]) (OX:=[none,some (aO s)]) (h2:=H) rfl (iT (tB (b:=true) rfl) (iT (bT (b:=true) (b2 (bV (cA rfl rfl) rfl) rfl rfl)) (tB (b:=true) rfl))) rfl
 | _,.int i=>Hd (rM:=[none,some (.int i)]) (OX:=[none,some (.int i)]) rfl (iF (tB (b:=false) rfl) rfl)
 | _,.str x=>Hd (rM:=[none,some (.str x)]) (OX:=[none,some (.str x)]) rfl (iF (tB (b:=false) rfl) rfl)
 | _,.A4 ar=>by
  have no:∀p:PV,p=.ao (ar.map ei)->ar.length≠4->spP p=none:=λp e hl=>by
   subst e;rcases ar with _ | ⟨a,_ | ⟨b,_ | ⟨c,_ | ⟨d,_ | ⟨e,ar⟩⟩⟩⟩⟩<;>first | rfl | exact absurd rfl hl
  by_cases hl:ar.length=4
  ·rcases ar with _ | ⟨a,_ | ⟨b,_ | ⟨c,_ | ⟨d,_ | ⟨e,ar⟩⟩⟩⟩⟩<;>first | cases hl | skip
   exact Hd (rM:=[none,some (.ao [ei a,ei b,ei c,ei d])]) (OX:=[none,some (.ao [ei a,ei b,ei c,ei d])]) rfl (iT (tB (b:=true) rfl) (iT (bT (b:=true) (b2 (bV (cA rfl rfl) rfl) rfl rfl)) (tB (b:=false) rfl)))
  ·rw[no _ rfl hl];have e4:gT H (.int ((ar.map ei).length:Int)) (.int 4)=some (.bl false):=by
    show some (PV.bl (((ar.map ei).length:Int)==4))=_;rw[show(((ar.map ei).length:Int)==4)=false from by rw[fK,ak];lia]
   exact Hd (rM:=[none,some (.ao (ar.map ei))]) (OX:=[none,some (.ao (ar.map ei))]) rfl (iT (tB (b:=true) rfl) (iF (bT (b:=false) (b2 (bV (cA rfl rfl) rfl) rfl e4)) rfl))
end
section
variable {m:Md} {most:Nat} {H:List aq}
theorem tW(o:Op):ME (dM o):=by
 cases o with
 | n i=>exact .int i
 | s s=>exact .sp s
theorem Ws(fn:Nat->PV)(hf:∀j,∃x,fn j=.str x)(r:Ro):∃ps,(∀H,Ez H (some 1) none (bt fn r)=some (.ao ps))/\ps.length<=10/\(∀p∈ps,ME p)/\ps.filterMap spP=(MD r).map aO:=by
 have two:∀{p q:PV},ME p->ME q->∀x∈[p,q],ME x:=λhp hq x hx=>by
  rcases aD.mp hx with rfl | hx
  ·exact hp
  ·cases aB.mp hx;exact hq
 have fm2:∀(s:Sp) (o:Op),[aO s,dM o].filterMap spP=(s::pZ o).map aO:=λs o=>by
  cases o<;>rfl
 cases r with
 | put fl s o=>exact⟨[aO s,dM o],λ_=>by cases fl<;>rfl,by simp,two (.sp s) (tW o),fm2 s o⟩
 | set s g a b =>
  refine⟨[aO s,.str g,dM a,dM b],λ_=>rfl,by simp,λx hx=>?_,by cases a<;>cases b<;>rfl⟩
  rcases aD.mp hx with rfl | hx
  ·exact .sp s
  ·rcases aD.mp hx with rfl | hx
   ·exact .str g
   ·exact two (tW a) (tW b) x hx
 | oK t s=>exact⟨[aO t,aO s],λ_=>rfl,by simp,two (.sp t) (.sp s),rfl⟩
 | oM t s=>exact⟨[aO t,aO s],λ_=>rfl,by simp,two (.sp t) (.sp s),rfl⟩
 | drop s=>exact⟨[aO s],λ_=>rfl,by simp,λx hx=>by cases aB.mp hx;exact .sp s,rfl⟩
 | iS y b s=>exact⟨[.str y,aO s],λ_=>by cases b<;>rfl,by simp,two (.str y) (.sp s),rfl⟩
 | call tk j ar =>
  obtain⟨z,hz⟩:=hf j;refine⟨[Fv tk,.str z,.ao (ar.map ei)],λ_=>by rw[<-hz];rfl,by simp,λx hx=>?_,?_⟩
  ·rcases aD.mp hx with rfl | hx
   ·exact .str _
   ·exact two (.str z) (.A4 ar) x hx
  ·rcases ar with _ | ⟨a,_ | ⟨b,_ | ⟨c,_ | ⟨d,_ | ⟨e,ar⟩⟩⟩⟩⟩<;>rfl
 | t7 a i n =>
  refine⟨[dM a,.int i,iN n],λ_=>rfl,by simp,λx hx=>?_,by cases a<;>rfl⟩
  rcases aD.mp hx with rfl | hx
  ·exact tW a
  ·exact two (.int i) (.int _) x hx
 | go n=>exact⟨[iN n],λ_=>rfl,by simp,λx hx=>by cases aB.mp hx;exact .int _,rfl⟩
 | Bq a=>exact⟨[dM a],λ_=>rfl,by simp,λx hx=>by cases aB.mp hx;exact tW a,by cases a<;>rfl⟩
 | eR z=>exact⟨[Fv z],λ_=>rfl,by simp,λx hx=>by cases aB.mp hx;exact .str _,rfl⟩
def hoP(m:Md):PV->Option PV
 | .str x=>match ju m.ks x with | some d=>if dA d=true then some (.ao [.str x,.bl true,.ao [],.bB])else none | none=>none
 | _=>none
theorem Sf:∀ar:List Rk,(∀q∈ar,q∈m.ks)->(ar.map ei).filterMap (hoP m)=(ar.filter λq=>dA q.2).map λq=>aO ⟨q.1,q.2,jE (bE q.2),.bB⟩
 | [],_=>rfl
 | q::ar,h=>by
  have e:=iR m.ks q vO (h q aE);have e1:hoP m (ei q)=if dA q.2=true then some (.ao [.str q.1,.bl true,.ao [],.bB])else none:=by
   show(match ju m.ks q.1 with | some d=>_ | none=>_)=_
   rw[e]
  rw[aI,ny,e1,v9,Sf ar λp hp=>h p (aF _ hp)]
  cases hh:dA q.2 with
  | false=>rfl
  | true =>
   rw[if_pos rfl,if_pos rfl,aI];show _=aO ⟨q.1,q.2,jE (bE q.2),.bB⟩::_;rw[show aO ⟨q.1,q.2,jE (bE q.2),.bB⟩=.ao [.str q.1,.bl (dA q.2),.ao [],.bB]from rfl,hh]
theorem aaB(hH:H[0]?=some (tV m)){q:Rk}(hq:q∈m.ks):jB (aU 1) Qh (lJ .ao (au (rd 1) (au (aX (.bl true)) (au (lJ .ao (aX [])) (au (aX (.bB)) (aX [])))))) [none,none,some (.ref 0)] (ei q) H=some (hoP m (ei q),H):=by
 have e:=iR m.ks q vO hq;have e1:hoP m (ei q)=if dA q.2=true then some (.ao [.str q.1,.bl true,.ao [],.bB])else none:=by
  show(match ju m.ks q.1 with | some d=>_ | none=>_)=_
  rw[e]
 have t:Ek Qh ⟨[none,some (ei q),some (.ref 0)],H⟩ (dA q.2):=bT (b2 (b2 (b2 rfl rfl (Mf hH hq)) rfl (lV _ _)) rfl (mX _ _));rw[e1];cases hh:dA q.2 with
 | false=>rw[hh]at t;exact Hd (rM:=[none,some (ei q),some (.ref 0)]) rfl t
 | true=>rw[hh]at t;exact Mx (rM:=[none,some (ei q),some (.ref 0)]) rfl t (tU (ps:=[.str q.1,.bl true,.ao [],.bB]) (cA rfl (cA rfl (cA rfl (cA rfl rfl)))) (by simp))
end
section
variable {m:Md} {most:Nat} {H:List aq}
abbrev tq(R P:PV)(x3 x4:Option PV)(H:List aq):cx:=⟨[some (.ref 0),some R,some P,x3,x4],H⟩
theorem D7(k:Nat)(hk:4<=k)(h:cZ m most)(hH:H[0]?=some (tV m)){r:Ro}{C:Cs}{M:Nat}(ok:tH C m.ks M r):run txt (k+4) "_law_through" [.ref 0,bt m.fn r] H=some (.ok (.lst ((R6 r).map pL)),H):=by
 obtain⟨ps,DP,l8,aeg,hfm⟩:=Ws m.fn (λj=>⟨_,rfl⟩) r
 have hpc:=Se h ok;have eG:(Mg r).length<=10:=by
  have op:∀o:Op,(pZ o).length<=1:=λo=>by cases o<;>simp[pZ]
  cases r with
  | put fl s o=>have:=op o;show(pZ o).length+1<=10;lia
  | set s g a b=>have:=op a;have:=op b;show(pZ a++pZ b).length+1<=10;rw[aR];lia
  | call tk j ar=>have:=ok.2.2.2.2.1;show((ar.filter _).map _).length<=10;rw[ak];exact bA (BI ..) (by lia)
  | t7 a i n=>have:=op a;show(pZ a).length<=10;lia
  | Bq a=>have:=op a;show(pZ a).length<=10;lia
  | eR z=>cases z with
   | none=>exact dI _
   | some q=>show(if dA q.2=true then _ else _:List Sp).length<=10;split<;>simp
  | go=>exact dI _
  | _=>show List.length _<=10;simp[Mg,MD]
 obtain⟨y4,lp⟩:=Bi k hk hH (some (bt m.fn r)) (some (.lst ((Mg r).map aO))) (Mg r) [] none hpc (λs hs=>tl3 h (hpc s hs)) (by simp;lia)
 rw[eW,Sd]at lp;have c1:Ek (da false [none,none] (jC (cutE (rd 1) (rF (kI 1)) (aX none))) (jB (aU 1) (dP (gf (Uh .tuple (rd 1))) (dP Qy (gf (Uh .bool Q2)) (aX false)) (aX false)) (rd 1))) ⟨[some (.ref 0),some (bt m.fn r),none,none,none],H⟩ (.lst ((MD r).map aO)):=by
  rw[<-hfm];exact cQ (sV (cE rfl rfl rfl (DP _)) rfl) (by lia) λp hp=>aaA _ (aeg p hp)
 have go:∀(P0 P1:PV),Ev Q1 (tq (bt m.fn r) (.lst ((MD r).map aO)) none none H) .nx (tq (bt m.fn r) P0 none none H)->Ev Q6 (tq (bt m.fn r) P0 none none H) .nx (tq (bt m.fn r) (.lst ((Mg r).map aO)) none none H)->run txt (k+4) "_law_through" [.ref 0,bt m.fn r] H=some (.ok (.lst ((R6 r).map pL)),H):=λP0 P1 e2 e3=>by
  rw[yd];exact jj (sq (aS c1 rfl) (sq e2 (sq e3 (sq (aS (p:=.lst []) rfl rfl) (sq (fS (sV rfl rfl) lp) (rS rfl))))))
 have s2:∀(w:Str),(∀H,bN H (bt m.fn r) (.int 0)=some (.str w))->gT H (.str w) (.str "call")=some (.bl false)->Ek Q1 (tq (bt m.fn r) (.lst ((MD r).map aO)) none none H) .nx:=λw h1 h2=>iF (bT (b2 (b2 rfl rfl (h1 _)) rfl h2)) rfl
 have s3:∀(w:Str) (P:PV),(∀H,bN H (bt m.fn r) (.int 0)=some (.str w))->gT H (.str w) (.str "give")=some (.bl false)->Ek Q6 (tq (bt m.fn r) P none none H) .nx:=λw P h1 h2=>iF (iF (bT (b2 (b2 rfl rfl (h1 _)) rfl h2)) rfl) rfl
 cases r with
 | put fl s o=>cases fl<;>exact go _ .bB (s2 _ (λ_=>rfl) (by kernel_rfl)) (s3 _ _ (λ_=>rfl) (by kernel_rfl))
 | iS y b s=>cases b<;>exact go _ .bB (s2 _ (λ_=>rfl) (by kernel_rfl)) (s3 _ _ (λ_=>rfl) (by kernel_rfl))
 | call tk j ar =>
  refine go (.lst ((Mg (.call tk j ar)).map aO)) .bB (iT (bT (b2 (b2 rfl rfl rfl) rfl (by kernel_rfl))) (aS (p:=.lst ((Mg (.call tk j ar)).map aO)) (s1:=tq (bt m.fn (.call tk j ar)) (.lst ((MD (.call tk j ar)).map aO)) none none H) ?_ rfl)) (s3 _ _ (λ_=>rfl) (by kernel_rfl))
  show Ev _ _ (PV.lst (((ar.filter λq=>dA q.2).map λq=>(⟨q.1,q.2,jE (bE q.2),.bB⟩:Sp)).map aO)) _
  rw[cX,show(aO ∘ λq:Rk=>(⟨q.1,q.2,jE (bE q.2),.bB⟩:Sp))=λq:Rk=>aO ⟨q.1,q.2,jE (bE q.2),.bB⟩from rfl,<-Sf ar ok.2.2.2.1]
  exact cQ (sV (b2 rfl rfl rfl) rfl) (by rw[ak];have:=ok.2.2.2.2.1;lia) λp hp=>by
   obtain⟨q,hq,rfl⟩:=aM.mp hp;exact aaB hH (ok.2.2.2.1 q hq)
 | eR z =>
  cases z with
  | none=>exact go _ .bB (s2 _ (λ_=>rfl) (by kernel_rfl)) (iF (iT (bT (b2 (b2 rfl rfl rfl) rfl (by kernel_rfl))) (iF (bT (b2 (b2 rfl rfl rfl) rfl (by kernel_rfl))) rfl)) rfl)
  | some q =>
   have hm:=ok q rfl;have hne:=h.ks.ne q hm;obtain⟨x,d⟩:=q;have hne:Mu H (.str x) (.str "")=some (.bl true):=by
    show some (PV.bl (!(x==Str.ofString "")))=_;rw[hne];rfl
   have hx:=Mf hH hm;have t:Ek Q0 (tq (bt m.fn (.eR (some (x,d)))) (.lst ((MD (.eR (some (x,d)))).map aO)) none none H) (dA d):=iT (bT (b2 (b2 rfl rfl rfl) rfl (by kernel_rfl))) (iT (bT (b2 (b2 rfl rfl rfl) rfl hne)) (bT (b2 (b2 (b2 rfl (b2 rfl rfl rfl) hx) rfl (lV _ _)) rfl (mX _ _))))
   refine go _ .bB (s2 _ (λ_=>rfl) (by kernel_rfl)) ?_
   cases d with
   | ow s=>exact iF t rfl
   | ho b s=>exact iT t (aS (lS (ps:=[.ao [.str x,.bl true,.ao [],.bB]]) (cA (tU (ps:=[.str x,.bl true,.ao [],.bB]) (cA (b2 rfl rfl rfl) (cA rfl (cA rfl (cA rfl rfl)))) (by simp)) rfl) (by simp)) rfl)
 | _=>exact go _ .bB (s2 _ (λ_=>rfl) (by kernel_rfl)) (s3 _ _ (λ_=>rfl) (by kernel_rfl))
theorem Mh(k:Nat){r:Ro}:Gives (run txt (k+1) "_law_given" [bt m.fn r] []) (.str (R7 r)):=by
 have no:∀(R:PV) (w:Str),(∀h,bN h R (.int 0)=some (.str w))->oY false [] (.str w) (.ao [.str "lend",.str "sole",.str "call"])=some (.bl false)->Gives (run txt (k+1) "_law_given" [R] []) (.str (Str.ofString "")):=λR w h1 h2=>by
  rw[sQ];exact gV (sq (iF (bT (b2 (b2 rfl rfl (h1 _)) rfl h2)) rfl) (rS (p:=.str (Str.ofString "")) rfl)) rfl
 have yes:∀(R:PV) (w x:Str),(∀h,bN h R (.int 0)=some (.str w))->(∀h,bN h R (.int 1)=some (.str x))->oY false [] (.str w) (.ao [.str "lend",.str "sole",.str "call"])=some (.bl true)->Gives (run txt (k+1) "_law_given" [R] []) (.str x):=λR w x h1 h2 h3=>by
  rw[sQ];exact gV (pV (iT (bT (b2 (b2 rfl rfl (h1 _)) rfl h3)) (rS (b2 rfl rfl (h2 _))))) rfl
 cases r with
 | iS y b s=>cases b<;>exact yes _ _ y (λ_=>rfl) (λ_=>rfl) (by kernel_rfl)
 | call tk j ar=>exact yes _ _ _ (λ_=>rfl) (λ_=>rfl) (by kernel_rfl)
 | put fl s o=>cases fl<;>exact no _ _ (λ_=>rfl) (by kernel_rfl)
 | _=>exact no _ _ (λ_=>rfl) (by kernel_rfl)
end
def lnx(j:Nat):Ro->List Nat
 | .eR _=>[]
 | .go n=>[n]
 | .t7 _ _ n=>[j+1,n]
 | _=>[j+1]
theorem Wt{j n:Nat}{r:Ro}(h:n∈lnx j r):n∈uN j r:=by
 cases r with
 | t7 a i k =>
  show n∈uJ (j+1) k;unfold uJ;have h:n=j+1\/n=k:=by have h:n∈[j+1,k]:=h;simpa using h
  split
  ·rcases h with rfl | rfl<;>simp
  ·split
   ·rcases h with rfl | rfl<;>simp
   ·have:j+1=k:=by lia
    rcases h with rfl | rfl<;>simp[this]
 | _=>exact h
section
variable {m:Md} {most:Nat} {H:List aq}
theorem Mi(k:Nat){j:Nat}{r:Ro}(hr:m.L[j]?=some r):Gives (run txt (k+1) "_law_nexts" [.ao m.rows,iN j] []) (.lst ((lnx j r).map iN)):=by
 rw[fX];have hx:=D2 hr ([]:List aq);have ad:eE [] (iN j) (.int 1)=some (iN (j+1)):=by show some (PV.int ((j:Int)+1))=_;rfl
 have e0:=fun(w:Str) (b:Bool) (z:gT [] (.str (Pw r)) (.str w)=some (.bl b))=>(bT (b2 (b2 (b2 rfl rfl hx) rfl (RS m.fn [] r)) rfl z):Ek (toB (op2 gT (op2 bN Qv (kI 0)) (aX (.str w)))) (S0 [some (.ao m.rows),some (iN j)]) b)
 have g1:=e0 "give";have g2:=e0 "go";have g3:=e0 "if"
 have no:gT [] (.str (Pw r)) (.str "give")=some (.bl false)->gT [] (.str (Pw r)) (.str "go")=some (.bl false)->gT [] (.str (Pw r)) (.str "if")=some (.bl false)->Gives (run txt (k+1) "_law_nexts" [.ao m.rows,iN j] []) (.lst [iN (j+1)]):=λz1 z2 z3=>by
  rw[fX];exact gV (sq (iF (g1 _ z1) rfl) (sq (iF (g2 _ z2) rfl) (sq (iF (g3 _ z3) rfl) (rS (lS (ps:=[iN (j+1)]) (cA (b2 rfl rfl ad) rfl) (by simp)))))) rfl
 rw[<-fX];cases r with
 | eR z=>rw[fX];exact gV (pV (iT (g1 true (by kernel_rfl)) (rS (p:=.lst []) rfl))) rfl
 | go n=>rw[fX];exact gV (sq (iF (g1 false (by kernel_rfl)) rfl) (pV (iT (g2 true (by kernel_rfl)) (rS (lS (ps:=[iN n]) (cA (b2 (b2 rfl rfl hx) rfl rfl) rfl) (by simp)))))) rfl
 | t7 a i n=>rw[fX];exact gV (sq (iF (g1 false (by kernel_rfl)) rfl) (sq (iF (g2 false (by kernel_rfl)) rfl) (pV (iT (g3 true (by kernel_rfl)) (rS (lS (ps:=[iN (j+1),iN n]) (cA (b2 rfl rfl ad) (cA (b2 (b2 rfl rfl hx) rfl rfl) rfl)) (by simp))))))) rfl
 | put fl s o=>cases fl<;>exact no (by kernel_rfl) (by kernel_rfl) (by kernel_rfl)
 | iS x b s=>cases b<;>exact no (by kernel_rfl) (by kernel_rfl) (by kernel_rfl)
 | _=>exact no (by kernel_rfl) (by kernel_rfl) (by kernel_rfl)
def Wy(m:Md):Nat->List Nat->Prop
 | _,[]=>True
 | a,b::l=>b∈m.nx a/\Wy m b l
theorem aaE{j:Nat}{r:Ro}(hr:m.L[j]?=some r):m.nx j=uN j r:=by unfold Md.nx;rw[hr]
theorem PR(l:List Nat)(c:Nat)(H:List aq):bN (⟨.lst,(l++[c]).map iN⟩::H) (.ref 0) (.int (-1))=some (iN c):=by
 show L2.jJ ((l++[c]).map iN) (-1)=_;unfold L2.jJ L2.Ms;rw[ak,aR,if_neg (by decide),if_pos (by simp;lia),show(-1+((l.length+[c].length:Nat):Int)).toNat=l.length by simp;lia,bQ]
 show((l.map iN)++[iN c])[l.length]?=_;rw[iU (by simp)]
 simp
theorem PU(k:Nat)(h:cZ m most){c:Nat}{r:Ro}(hr:m.L[c]?=some r)(acc:List Nat)(ha:acc.length<=1000)(K0 C:PV)(cell:Int)(x4:Option PV):(∃n lX,n∈m.nx c/\Ev (fZ (run txt (k+1))) ⟨[some (.ao m.rows),some K0,some C,some (.ref 0),some (.int cell),x4],[⟨.lst,(acc++[c]).map iN⟩]⟩ .nx ⟨[some (.ao m.rows),some K0,some C,some (.ref 0),some (.int cell),lX],[⟨.lst,(acc++[c]++[n]).map iN⟩]⟩)\/∃lX,Ev (fZ (run txt (k+1))) ⟨[some (.ao m.rows),some K0,some C,some (.ref 0),some (.int cell),x4],[⟨.lst,(acc++[c]).map iN⟩]⟩ (.rt (.ref 0)) ⟨[some (.ao m.rows),some K0,some C,some (.ref 0),some (.int cell),lX],[⟨.lst,(acc++[c]).map iN⟩]⟩:=by
 have hn:=Mi k hr;have nR:=qu h;have hx:=jl k cell (i:=3) (by decide)
 have c1:Ek (bnd (au (rd 0) (au (op2 bN (rd 3) (w9 (kI 1))) (aX []))) (b8 0 2 (run txt (k+1) "_law_nexts"))) ⟨[some (.ao m.rows),some K0,some C,some (.ref 0),some (.int cell),x4],[⟨.lst,(acc++[c]).map iN⟩]⟩ (.lst ((lnx c r).map iN)):=cU (as:=[.ao m.rows,iN c]) (cA rfl (cA (b2 rfl rfl (PR acc c [])) rfl)) rfl (by simp[ai,noRef,nR,iN]) hn
 have lt:∀l:List Nat,lnx c r=l->(l=[]\/∃a,l=[a])\/∃a b,l=[a,b]:=λl e=>by
  subst e;cases r<;>first | exact .inl (.inl rfl) | exact .inl (.inr ⟨_,rfl⟩) | exact .inr ⟨_,_,rfl⟩
 have G3:∀n,n∈lnx c r->n∈m.nx c:=λn hn=>by rw[aaE hr];exact Wt hn
 have ap:∀(n:Nat) (ρ:List (Option PV)),jA (gW xh) (.ref 0) [iN n] ⟨ρ,[⟨.lst,(acc++[c]).map iN⟩]⟩=some (.ok .bB,⟨ρ,[⟨.lst,(acc++[c]++[n]).map iN⟩]⟩):=λn ρ=>by
  rw[bQ (l₁:=acc++[c])];exact aC rfl (by rw[ak,aR];simp;lia)
 generalize hy:AW cell 3=y at hx
 have e5:∀(ρ:List (Option PV)) (H:List aq) (L:PV) (q:Int),0<q->gv H [L]=some (.int q)->Ek (op2 fO (op2 hZ (bnd (au (rd 4) (au (kI 3) (aX []))) (b8 0 2 (run txt (k+1) "_law_mixed"))) (kI 5)) (gw gv Qu)) ⟨[some (.ao m.rows),some K0,some C,some (.ref 0),some (.int cell),some L],H⟩ (.int (y/5%q)):=λρ H L q hq hl=>by
  exact b2 (b2 (cU (as:=[.int cell,.int 3]) (cA rfl (cA rfl rfl)) rfl (by simp[ai,noRef]) hx) rfl (vH (by decide))) (bV (cA rfl rfl) hl) (cR hq)
 rcases lt _ rfl with(e | ⟨a,e⟩) | ⟨a,b,e⟩
 ·rw[e]at c1;exact .inr ⟨some (.lst []),sq (aS c1 rfl) (pV (iT (bT (b2 rfl rfl (by kernel_rfl))) (rS rfl)))⟩
 ·rw[e]at c1;refine .inl ⟨a,some (.lst [iN a]),G3 a (by rw[e];simp),sq (aS c1 rfl) (sq (iF (bT (b2 rfl rfl (by kernel_rfl))) rfl) (dS (yF rfl rfl (cA (b2 rfl (e5 [] _ (.lst [iN a]) 1 (by decide) rfl) ?_) rfl) (ap a _))))⟩
  rw[Int.emod_one];rfl
 ·rw[e]at c1;have go:∀n:Nat,n∈[a,b]->(∀H,bN H (.lst [iN a,iN b]) (.int (y/5%2))=some (iN n))->∃n lX,n∈m.nx c/\Ev (fZ (run txt (k+1))) ⟨[some (.ao m.rows),some K0,some C,some (.ref 0),some (.int cell),x4],[⟨.lst,(acc++[c]).map iN⟩]⟩ .nx ⟨[some (.ao m.rows),some K0,some C,some (.ref 0),some (.int cell),lX],[⟨.lst,(acc++[c]++[n]).map iN⟩]⟩:=λn hn hi=>⟨n,some (.lst [iN a,iN b]),G3 n (by rw[e];exact hn),sq (aS c1 rfl) (sq (iF (bT (b2 rfl rfl (by kernel_rfl))) rfl) (dS (yF rfl rfl (cA (b2 rfl (e5 [] _ (.lst [iN a,iN b]) 2 (by decide) rfl) (hi _)) rfl) (ap n _))))⟩
  rcases Int.emod_two_eq (y/5)with z | z
  ·exact .inl (go a (by simp) λ_=>by rw[z];rfl)
  ·exact .inl (go b (by simp) λ_=>by rw[z];rfl)
end
section
variable {m:Md} {most:Nat} {H:List aq}
theorem Mj(h:cZ m most){c n:Nat}{r:Ro}(hr:m.L[c]?=some r)(hn:n∈m.nx c):∃r',m.L[n]?=some r':=by
 rw[aaE hr]at hn;exact⟨_,bW ((LR h hr).2 n hn)⟩
theorem Bj(k:Nat)(h:cZ m most)(K0 C:PV):∀(cs:List Int) (c:Nat) (r:Ro) (acc:List Nat) (x3 x4:Option PV),m.L[c]?=some r->acc.length+cs.length<=1000 ->
  ∃l f y3 y4,l.length<=cs.length/\Wy m c l/\(f=.nx\/f=.rt (.ref 0))/\cY (aU 4) (fZ (run txt (k+1))) (cs.map .int) ⟨[some (.ao m.rows),some K0,some C,some (.ref 0),x3,x4],[⟨.lst,(acc++[c]).map iN⟩]⟩=some (.ok f,⟨[some (.ao m.rows),some K0,some C,some (.ref 0),y3,y4],[⟨.lst,(acc++c::l).map iN⟩]⟩)
 | [],c,r,acc,x3,x4,_,_=>⟨[],.nx,x3,x4,dI _,trivial,.inl rfl,rfl⟩
 | i::cs,c,r,acc,x3,x4,hr,hz=>by
  rw[aK]at hz;rcases PU k h hr acc (by lia) K0 C i x4 with⟨n,lX,hn,e⟩ | ⟨lX,e⟩
  ·obtain⟨r',Mv⟩:=Mj h hr hn;obtain⟨l,f,y3,y4,hl,w,hf,z⟩:=Bj k h K0 C cs n r' (acc++[c]) (some (.int i)) lX Mv (by rw[aR];simp;lia)
   refine⟨n::l,f,y3,y4,Nat.succ_le_succ hl,⟨hn,w⟩,hf,?_⟩;rw[show acc++c::n::l=acc++[c]++n::l by simp]
   exact fC rfl e z
  ·exact⟨[],.rt (.ref 0),some (.int i),lX,dI _,trivial,.inr rfl,fR rfl e⟩
theorem Wu(k:Nat)(h:cZ m most){c:Nat}{r:Ro}(hr:m.L[c]?=some r)(cs:List Int)(hl:cs.length<=60):∃l,l.length<=60/\Wy m c l/\Gives (run txt (k+2) "_law_way_from" [.ao m.rows,iN c,.lst (cs.map .int)] []) (.lst ((c::l).map iN)):=by
 obtain⟨l,f,y3,y4,hz,w,hf,z⟩:=Bj k h (iN c) (.lst (cs.map .int)) cs c r [] none none hr (by simp;lia)
 refine⟨l,by lia,w,?_⟩
 rw[uH];have nr:ai ((c::l).map iN)=true:=kC _;rcases hf with rfl | rfl
 ·exact⟨.ref 0,_,jj (sq rfl (sq (fS (sV rfl rfl) z) (rS rfl))),sY rfl nr⟩
 ·exact⟨.ref 0,_,jj (sq rfl (pV (fS (sV rfl rfl) z))),sY rfl nr⟩
end
theorem yA(c:CT)(A:PV):∀(as:List (Nat×cD)) (i:Nat) (kvs:List (bz×PV)) (x2 x3:Option PV),kvs.length<=i->i+as.length<=90000 ->
  ∃y2 y3,cY (gC 2 Q3) (pz c) (d8 i (as.map eN)) ⟨[some A,some (.ref 0),x2,x3],[dC kvs]⟩=some (.ok .nx,⟨[some A,some (.ref 0),y2,y3],[dC (iA as i kvs)]⟩)
 | [],i,kvs,x2,x3,_,_=>⟨x2,x3,rfl⟩
 | (j,a)::as,i,kvs,x2,x3,hl,hz=>by
  rw[aK]at hz;obtain⟨p,hp⟩:=Lh (kvs:=kvs) (by lia)
  have hb:Ev (pz c) ⟨[some A,some (.ref 0),some (.int (i:Int)),some (jk j a)],[dC kvs]⟩ .nx ⟨[some A,some (.ref 0),some (.int (i:Int)),some (jk j a)],[match cu kvs (.inl (j:Int))with | some _=>dC kvs | none=>dC (kvs++[(.inl (j:Int),.int (i:Int))])]⟩:=dS (mtD rfl rfl (cA (b2 rfl rfl rfl) (cA rfl rfl)) hp)
  cases e:cu kvs (.inl (j:Int))with
  | some v =>
   rw[e]at hb;obtain⟨y2,y3,z⟩:=yA c A as (i+1) kvs (some (.int (i:Int))) (some (jk j a)) (by lia) (by lia)
   rw[iA,e];exact⟨y2,y3,fC rfl hb z⟩
  | none =>
   rw[e]at hb;obtain⟨y2,y3,z⟩:=yA c A as (i+1) (kvs++[(.inl (j:Int),.int (i:Int))]) (some (.int (i:Int))) (some (jk j a)) (by rw[aR];simp;lia) (by lia)
   rw[iA,e];exact⟨y2,y3,fC rfl hb z⟩
section
variable {m:Md} {most:Nat} {H:List aq}
def SV(m:Md):PV:=.nd (dC (iA m.as 0 [])).k (dC (iA m.as 0 [])).ps
theorem Ml{N:Nat}:∀kvs:List (bz×PV),VL N kvs->ai (kvs.map (·.2))=true
 | [],_=>rfl
 | q::l,h=>by
  obtain⟨n,e,_⟩:=h q aE;rw[aI,ai,e,Ml l λr hr=>h r (aF _ hr)]
  rfl
theorem aaF(h:cZ m most)(hm:most<=20):ai (dC (iA m.as 0 [])).ps=true:=by
 have:=kr h;exact Ml _ (ik (run txt 0) .bB .bB .bB m.as 0 [] none none (λ_ z=>nomatch z) (by simp) (by lia)).2.1
theorem HR(k:Nat)(h:cZ m most)(hm:most<=20):Gives (run txt (k+1) "_law_starts" [.lst (m.as.map eN)] []) (SV m):=by
 have hl:=kr h;obtain⟨y2,y3,z⟩:=yA (run txt k) (.lst (m.as.map eN)) m.as 0 [] none none (by simp) (by lia)
 rw[AD];refine⟨.ref 0,_,jj (sq rfl (sq (fS (sG (eV rfl rfl)) z) (rS rfl))),?_⟩;have nr:=aaF h hm;unfold kO;rw[show([dC (iA m.as 0 [])]:List aq).isEmpty=false from rfl,if_neg c9]
 unfold o8;rw[if_neg (by simp[noRef])]
 show(if live (dC (iA m.as 0 []))=true then(cJ (o8 [dC (iA m.as 0 [])] 3) (dC (iA m.as 0 [])).ps).map (PV.nd _)else none)=_
 rw[if_pos (show live (dC (iA m.as 0 []))=true from rfl),AQ _ nr]
 rfl
theorem aaG{j:Nat}{r:Ro}(hr:m.L[j]?=some r)(H:List aq):bN H (SV m) (iN j)=some (iN (L5 m j)):=by
 obtain⟨_,e⟩:=tQ hr;show fH [.inl (j:Int)] ((iA m.as 0 []).map λq=>[q.1]) ((iA m.as 0 []).map (·.2))=_
 rw[mR,e];rfl
end
abbrev kL(x:Str)(l:Int):List bz:=[.inr x,.inl l]
def Mm(P:Str->Int->Prop)(n:Nat)(c:aq):Prop:=∃ks ps,c=⟨.dU true ks,ps⟩/\ks.length=ps.length/\ks.length<=n/\ks.Nodup/\∀k∈ks,∃x l,k=kL x l/\P x l
section
variable {P Q:Str->Int->Prop} {n:Nat} {c A B:aq} {x:Str} {l:Int}
theorem Mm.imp(h:Mm P n c)(hi:∀x l,P x l->Q x l)(hn:n<=m):Mm Q m c:=by
 obtain⟨ks,ps,h1,h2,h3,h4,h5⟩:=h;exact⟨ks,ps,h1,h2,bA h3 hn,h4,λk hk=>by obtain⟨x,l,e,p⟩:=h5 k hk;exact⟨x,l,e,hi x l p⟩⟩
theorem Bk(k:List bz)(q:PV):∀(ks:List (List bz)) (ps:List PV),(xb k q ks ps).length=ps.length
 | [],ps=>by rw[rJ]
 | _::_,[]=>rfl
 | _::ks,_::ps=>dB (· + 1) (Bk k q ks ps)
theorem FU{k:List bz}{ks:List (List bz)}:j6 k ks=true↔k∈ks:=by
 unfold j6;rw[List.any_eq_true];constructor
 ·rintro⟨j,h1,h2⟩;rw[<-fL h2];exact h1
 ·exact λh=>⟨k,h,gp rfl⟩
theorem Wv(h:Mm P n c)(hq:P x l)(hn:n<4000000):∃c',Mm P (n+1) c'/\∀ρ A B,zP (.ref 2) (pL (x,l)) (.bl true) ⟨ρ,[A,B,c]⟩=some ⟨ρ,[A,B,c']⟩:=by
 obtain⟨ks,ps,rfl,h2,h3,h4,h5⟩:=h;refine⟨lL true (kL x l) (.bl true) ks ps,?_,λρ A B=>?_⟩
 ·unfold lL;by_cases z:j6 (kL x l) ks=true
  ·rw[if_pos z];exact⟨ks,_,rfl,by rw[Bk];exact h2,by lia,h4,h5⟩
  ·rw[if_neg z];refine⟨_,_,rfl,by rw[aR,aR,h2];rfl,by rw[aR];simp;lia,?_,λk hk=>?_⟩
   ·rw[nE];refine⟨h4,by simp,λa ha b hb=>?_⟩
    rw[aB]at hb;subst hb
    rintro rfl
    exact z (FU.mpr ha)
   ·rcases bh.mp hk with hk | hk
    ·exact h5 k hk
    ·exact⟨x,l,aB.mp hk,hq⟩
 ·show(if ks.length<fq then some (cx.mk ρ ([A,B,_].set 2 (lL true (kL x l) (.bl true) ks ps)))else none)=_
  rw[if_pos (show ks.length<fq by have:fq=4000000:=rfl;lia)]
  rfl
theorem Ww{ks:List (List bz)}{ps:List PV}(hl:ks.length=ps.length)(hn:ks.Nodup)(hk:kL x l∈ks):∃jz oX p,jz.length=oX.length/\jz.length<=ks.length/\jz.Nodup/\(∀q,q∈jz↔q∈ks/\q≠kL x l)/\∀ρ A B,jA J6 (.ref 2) [pL (x,l)] ⟨ρ,[A,B,⟨.dU true ks,ps⟩]⟩=some (.ok p,⟨ρ,[A,B,⟨.dU true jz,oX⟩]⟩):=by
 obtain⟨j,hj⟩:∃j,ks.findIdx? (λy=>decide (y=kL x l))=some j:=by
  cases e:ks.findIdx? (λy=>decide (y=kL x l))with
  | some j=>exact⟨j,rfl⟩
  | none=>exact absurd (List.findIdx?_eq_none_iff.mp e _ hk) (by simp)
 obtain⟨j1,j2,_⟩:=vR.mp hj;have j2:=fL j2;obtain⟨p,hp⟩:∃p,ps[j]?=some p:=⟨_,bW (by lia)⟩
 refine⟨ks.eraseIdx j,ps.eraseIdx j,p,by rw[List.length_eraseIdx,List.length_eraseIdx,hl],List.length_eraseIdx_le ..,hn.sublist (List.eraseIdx_sublist ..),λq=>⟨λh=>⟨List.mem_of_mem_eraseIdx h,λe=>?_⟩,λh=>?_⟩,λρ A B=>?_⟩
 ·obtain⟨a,ha,ne,e'⟩:=Ih.mp h;exact ne ((B0 hn).mp ((e'.trans e).trans j2.symm))
 ·obtain⟨i,hi,e⟩:=BP h.1;refine Ih.mpr ⟨i,hi,λz=>?_,e⟩
  subst z;exact h.2 (e.symm.trans j2)
 ·show(((ks.findIdx? λy=>decide (y=kL x l)).bind λj=>(ps[j]?).map λp=>((⟨.dU true (ks.eraseIdx j),ps.eraseIdx j⟩:aq),p)).map λr=>(Rs.ok r.2,cx.mk ρ ([A,B,_].set 2 r.1)))=_
  rw[hj,dn,hp];rfl
end
noncomputable def qw(ag:eF):aq:=⟨.dU true (ag.map (·.1)),ag.map λ_=>.bl true⟩
theorem aaH{H:List aq}{j:Nat}{ag:eF}{f:Fe}(hj:H[j]?=some (qw ag))(hf:kE f∈ag.map (·.1)):oY true H (dw (kE f)) (.ref j)=some (.bl false):=by
 have dr:cm H (.ref j)=some (.dU true (ag.map (·.1)),ag.map λ_=>.bl true):=by
  show(H[j]?).bind _=_;rw[hj];rfl
 unfold oY;rw[dr];show(gA true (dw (kE f))).map _=_;rw[ql (ks:=kE f) (show 3<1000 by decide)]
 show some (PV.bl (!Dy (ag.map (·.1)) (kE f)))=_;rw[sj.mpr hf];rfl
theorem vP(c:CT)(a0 a1 a2 a3:Option PV)(a7:List (Option PV))(C0:aq):∀(ts acc:eF) (x6:Option PV),((acc++ts).map (·.1)).Nodup->(∀t∈ts,∃f,t.1=kE f)->(acc++ts).length<4000000 ->
  ∃y6,cY (aU 6) (E6 c) (ts.map toldP) ⟨a0::a1::a2::a3::some (.ref 0)::some (.ref 1)::x6::a7,[C0,qw acc]⟩=some (.ok .nx,⟨a0::a1::a2::a3::some (.ref 0)::some (.ref 1)::y6::a7,[C0,qw (acc++ts)]⟩)
 | [],acc,x6,_,_,_=>⟨x6,by rw[dq];rfl⟩
 | t::ts,acc,x6,hn,hk,hl=>by
  obtain⟨y6,ih⟩:=vP c a0 a1 a2 a3 a7 C0 ts (acc++[t]) (some (toldP t)) (by rw[cW];exact hn) (λu hu=>hk u (aF _ hu)) (by rw[cW];exact hl)
  refine⟨y6,?_⟩;rw[cW]at ih;obtain⟨f,hf⟩:=hk t aE;obtain⟨g,d⟩:=t;cases hf;refine fC (s1:=⟨a0::a1::a2::a3::some (.ref 0)::some (.ref 1)::some (toldP (kE f,d))::a7,[C0,qw acc]⟩) rfl ?_ ih;unfold E6;refine eB rfl (eB rfl (eB rfl ?_));show(zP (.ref 1) (dw (kE f)) (.bl true) _).map _=_;have e:∀ρ,zP (.ref 1) (dw (kE f)) (.bl true) ⟨ρ,[C0,qw acc]⟩=(gA true (dw (kE f))).bind λk=>if(acc.map (·.1)).length<fq then some ⟨ρ,[C0,qw acc].set 1 (lL true k (.bl true) (acc.map (·.1)) (acc.map λ_=>.bl true))⟩else none:=λ_=>rfl
  rw[e,ql (ks:=kE f) (show 3<1000 by decide)]
  rw[dn];rw[aR,aK]at hl;rw[if_pos (show(acc.map (·.1)).length<fq by rw[ak];have:fq=4000000:=rfl;lia)]
  unfold lL;have hm:j6 (kE f) (acc.map (·.1))=false:=by
   rw[<-Bool.not_eq_true,FU];intro z;rw[bQ,nE]at hn;exact hn.2.2 _ z (kE f) (aM.mpr ⟨(kE f,d),aE,rfl⟩) rfl
  rw[hm,if_neg c9];show some (_,cx.mk _ [C0,⟨_,_⟩])=_;unfold qw;rw[bQ,bQ];rfl
theorem fD{fe:Gx PV}{g:Tg}{body:Gx dE}{s s1:cx}{n:Nat}{ks:List (List bz)}{ps:List PV}{Bn:List (Option PV)}{h':List aq}(h:Ev fe s (.ref n) s1)(hc:mB s1.h (.ref n)=some (n,⟨.dU true ks,ps⟩))(e:cY g body (ia ks) ⟨s1.ρ,s1.h.set n zK⟩=some (.ok .nx,⟨Bn,h'⟩))(hn:n<h'.length):Ev (Oi fe g body) s .nx ⟨Bn,h'.set n ⟨.dU true ks,ps⟩⟩:=eB h (by
 show(mB s1.h (.ref n)).bind _=_;rw[hc];show(cY g body (ia ks) ⟨s1.ρ,s1.h.set n zK⟩).bind _=_;rw[e];exact if_pos hn)
section
variable {m:Md} {most:Nat} {ag:eF} {A:List (List Nat)}
noncomputable abbrev Bt(S W P F SV B:PV)(x6 yt uM nq nu ng:Option PV)(h:List aq):cx:=⟨[some S,some W,some P,some F,some (.ref 0),some (.ref 1),x6,some SV,some B,some (.ref 2),yt,uM,nq,nu,ng],h⟩
theorem vQ(f:CT)(S W P F B:PV)(x6 uM ng:Option PV){j:Nat}{r:Ro}(hr:m.L[j]?=some r)(C0 C2:aq):∀(ks:List (List bz)) (nq nu:Option PV),(∀k∈ks,∃x l,k=kL x l/\kE ⟨L5 m j,x,l⟩∈ag.map (·.1)) ->
  ∃t9 ua,cY Qn (O2 f) (ia ks) (Bt S W P F (SV m) B x6 (some (iN j)) uM nq nu ng [C0,qw ag,C2])=some (.ok .nx,Bt S W P F (SV m) B x6 (some (iN j)) uM t9 ua ng [C0,qw ag,C2])
 | [],nq,nu,_=>⟨nq,nu,rfl⟩
 | k::ks,nq,nu,h=>by
  obtain⟨x,l,rfl,hk⟩:=h k aE;obtain⟨t9,ua,z⟩:=vQ f S W P F B x6 uM ng hr C0 C2 ks (some (.str x)) (some (.int l)) λq hq=>h q (aF _ hq)
  refine⟨t9,ua,fC (s1:=Bt S W P F (SV m) B x6 (some (iN j)) uM (some (.str x)) (some (.int l)) ng [C0,qw ag,C2]) rfl (iF (bT (b2 (tU (ps:=[iN (L5 m j),.str x,.int l]) (cA (b2 rfl rfl (aaG hr _)) (cA rfl (cA rfl rfl))) (by simp)) rfl (aaH (f:=⟨L5 m j,x,l⟩) rfl hk))) rfl) z⟩
theorem tY(k:Nat)(S W P F V B:PV)(x6 yt ng:Option PV){r:Ro}(nr:noRef (bt m.fn r)=true)(C0 C1:aq):∀(ls ks:List (List bz)) (ps:List PV) (nq nu:Option PV),ks.length=ps.length->ks.Nodup->ls.Nodup->(∀q∈ls,q∈ks/\∃x l,q=kL x l) ->
  ∃jz oX t9 ua,jz.length=oX.length/\jz.length<=ks.length/\jz.Nodup/\(∀q∈jz,q∈ks)/\(∀x l,kL x l∈ls->kL x l∈jz->x≠R7 r)/\cY Qn (O1 (run txt (k+1))) (ia ls) (Bt S W P F V B x6 yt (some (bt m.fn r)) nq nu ng [C0,C1,⟨.dU true ks,ps⟩])=some (.ok .nx,Bt S W P F V B x6 yt (some (bt m.fn r)) t9 ua ng [C0,C1,⟨.dU true jz,oX⟩])
 | [],ks,ps,nq,nu,h1,h2,_,_=>⟨ks,ps,nq,nu,h1,ay _,h2,λ_ z=>z,λ_ _ z=>(nomatch z),rfl⟩
 | q::ls,ks,ps,nq,nu,h1,h2,h3,h4=>by
  obtain⟨hq,x,l,rfl⟩:=h4 q aE;rw[gJ]at h3;have g:=Mh (m:=m) k (r:=r);have t:Ek (toB (op2 gT (rd 12) (bnd (au (rd 11) (aX [])) (b8 0 1 (run txt (k+1) "_law_given"))))) (Bt S W P F V B x6 yt (some (bt m.fn r)) (some (.str x)) (some (.int l)) ng [C0,C1,⟨.dU true ks,ps⟩]) (x==R7 r):=bT (b2 rfl (cU (as:=[bt m.fn r]) (cA rfl rfl) rfl (by simp[ai,nr]) g) (fE _ _ _))
  cases z:(x==R7 r)with
  | false =>
   rw[z]at t;obtain⟨jz,oX,t9,ua,a1,a2,a3,a4,a5,a6⟩:=tY k S W P F V B x6 yt ng nr C0 C1 ls ks ps (some (.str x)) (some (.int l)) h1 h2 h3.2 λq hq=>h4 q (aF _ hq)
   refine⟨jz,oX,t9,ua,a1,a2,a3,a4,λy i hy hk=>?_,fC rfl (iF t rfl) a6⟩
   rcases aD.mp hy with e | e
   ·cases e;exact fK.mp z
   ·exact a5 y i e hk
  | true =>
   rw[z]at t;obtain⟨k1,p1,p,b1,b2',b3,b4,b5⟩:=Ww h1 h2 hq;obtain⟨jz,oX,t9,ua,a1,a2,a3,a4,a5,a6⟩:=tY k S W P F V B x6 yt ng nr C0 C1 ls k1 p1 (some (.str x)) (some (.int l)) b1 b3 h3.2 λq hq=>⟨(b4 q).mpr ⟨(h4 q (aF _ hq)).1,λe=>h3.1 (by rw[<-e];exact hq)⟩,(h4 q (aF _ hq)).2⟩
   refine⟨jz,oX,t9,ua,a1,bA a2 b2',a3,λq hq=>((b4 q).mp (a4 q hq)).1,λy i hy hk=>?_,fC rfl (iT t (dS (mtD rfl rfl (cA (tU (ps:=[.str x,.int l]) (cA rfl (cA rfl rfl)) (by simp)) rfl) (b5 _ _ _)))) a6⟩
   rcases aD.mp hy with e | e
   ·exact absurd ((b4 _).mp (a4 _ hk)).2 (λh=>h e)
   ·exact a5 y i e hk
theorem Bl{P9:Str->Int->Prop}(f:CT)(S W P F V B:PV)(x6 yt uM nq nu:Option PV)(C0 C1:aq):∀(ls:List (Str×Int)) (n:Nat) (c:aq) (ng:Option PV),Mm P9 n c->n+ls.length<4000000->(∀q∈ls,P9 q.1 q.2) ->
  ∃c' D8,Mm P9 (n+ls.length) c'/\cY (aU 14) (E7 f) (ls.map pL) (Bt S W P F V B x6 yt uM nq nu ng [C0,C1,c])=some (.ok .nx,Bt S W P F V B x6 yt uM nq nu D8 [C0,C1,c'])
 | [],n,c,ng,h,_,_=>⟨c,ng,h,rfl⟩
 | q::ls,n,c,ng,h,hn,hq=>by
  rw[aK]at hn ⊢;obtain⟨c1,k1,k2⟩:=Wv h (hq q aE) (by lia)
  obtain⟨c',D8,k3,k4⟩:=Bl f S W P F V B x6 yt uM nq nu C0 C1 ls (n+1) c1 (some (pL q)) k1 (by lia) λr hr=>hq r (aF _ hr)
  refine⟨c',D8,k3.imp (λ_ _ z=>z) (by lia),fC (s1:=Bt S W P F V B x6 yt uM nq nu (some (pL q)) [C0,C1,c]) rfl ?_ k4⟩
  unfold E7;refine eB rfl (eB rfl (eB rfl ?_));show(zP (.ref 2) (pL q) (.bl true) _).map _=_;rw[k2];rfl
end
section
variable {m:Md} {most:Nat} {ag:eF} {A:List (List Nat)}
theorem aaI(h:cZ m most){r:Ro}{C:Cs}{M:Nat}(ok:tH C m.ks M r):(R6 r).length<=30/\∀q∈R6 r,Nm m q.1:=by
 have hpc:=Se h ok;rw[<-Sd];have len:∀l:List Sp,(∀s∈l,cy m.ks s)->(l.flatMap lW).length<=3*l.length:=λl=>by
  induction l with
  | nil=>simp
  | cons s l ih =>
   intro hs;have i1:=ih λt ht=>hs t (aF _ ht)
   have i2:(lW s).length<=3:=by unfold lW;split;exact tl3 h (hs s aE);simp
   rw[eU,aR,aK]
   lia
 refine⟨?_,λq hq=>?_⟩
 ·have:=len _ hpc;have:(Mg r).length<=10:=by
   have op:∀o:Op,(pZ o).length<=1:=λo=>by cases o<;>simp[pZ]
   cases r with
   | put fl s o=>have:=op o;show(pZ o).length+1<=10;lia
   | set s g a b=>have:=op a;have:=op b;show(pZ a++pZ b).length+1<=10;rw[aR];lia
   | call tk j ar=>have:=ok.2.2.2.2.1;show((ar.filter _).map _).length<=10;rw[ak];exact bA (BI ..) (by lia)
   | t7 a i n=>have:=op a;show(pZ a).length<=10;lia
   | Bq a=>have:=op a;show(pZ a).length<=10;lia
   | eR z=>cases z with
    | none=>exact dI _
    | some q=>show(if dA q.2=true then _ else _:List Sp).length<=10;split<;>simp
   | go=>exact dI _
   | _=>show List.length _<=10;simp[Mg,MD]
  lia
 ·obtain⟨s,hs,hq⟩:=gn.mp hq;unfold lW at hq;split at hq
  ·obtain⟨y,l⟩:=q;obtain⟨rfl,_⟩:=L8 hq;exact⟨_,(hpc s hs).mem⟩
  ·cases hq
theorem Wx(k:Nat)(hk:4<=k)(h:cZ m most)(T:PJ m A ag)(S W P B:PV)(x6:Option PV){Q:Str->Int->Prop}{j:Nat}{r:Ro}{n:Nat}{c:aq}(uM nq nu ng:Option PV)(hr:m.L[j]?=some r)(hc:Mm Q n c)(hQ:∀x l,Q x l->x≠R7 r->Pj m ag j x l)(hn:n+30<4000000) :
  ∃c' Wz t9 ua D8,Mm (Pj m ag j) (n+30) c'/\Ev (E8 (run txt (k+4))) (Bt S W P m.F1 (SV m) B x6 (some (iN j)) uM nq nu ng [tV m,qw ag,c]) .nx (Bt S W P m.F1 (SV m) B x6 (some (iN j)) Wz t9 ua D8 [tV m,qw ag,c']):=by
 have ok:=h.ok r (dm hr);have nr:noRef (bt m.fn r)=true:=Fw (λj=>m8 j) r ok
 obtain⟨hl,hnm⟩:=aaI h ok;obtain⟨ks,ps,rfl,h2,h3,h4,h5⟩:=hc;obtain⟨k1,p1,t9,ua,a1,a2,a3,a4,a5,a6⟩:=tY (k+3) S W P m.F1 (SV m) B x6 (some (iN j)) ng nr (tV m) (qw ag) ks ks ps nq nu h2 h4 h4 λq hq=>⟨hq,by obtain⟨x,l,e,_⟩:=h5 q hq;exact⟨x,l,e⟩⟩
 have e1:Mm (Pj m ag j) n ⟨.dU true k1,p1⟩:=⟨k1,p1,rfl,a1,bA a2 h3,a3,λq hq=>by
  obtain⟨x,l,rfl,p⟩:=h5 q (a4 q hq);exact⟨x,l,rfl,hQ x l p (a5 x l (a4 _ hq) hq)⟩⟩
 obtain⟨c2,D8,e2,e3⟩:=Bl (run txt (k+4)) S W P m.F1 (SV m) B x6 (some (iN j)) (some (bt m.fn r)) t9 ua (tV m) (qw ag) (R6 r) n _ ng e1 (by lia) λq hq=>Mb h T hr (hnm q hq) hq
 have e9:=e2;obtain⟨k2,p2,rfl,_,_,_,b5⟩:=e9;obtain⟨w12,w13,wl⟩:=vQ (ag:=ag) (run txt (k+4)) S W P m.F1 B x6 (some (bt m.fn r)) D8 hr (tV m) zK k2 t9 ua λq hq=>by
  obtain⟨x,l,e,p⟩:=b5 q hq;exact⟨x,l,e,p.2⟩
 have th:=D7 (H:=[tV m,qw ag,⟨.dU true k1,p1⟩]) k hk h rfl ok;have f4:∀H,bN H m.F1 (.int 4)=some (.ao m.rows):=λ_=>rfl
 refine⟨_,some (bt m.fn r),w12,w13,D8,e2.imp (λ_ _ z=>z) (by lia),?_⟩
 refine sq (aS (b2 (b2 rfl rfl (f4 _)) rfl (D2 hr _)) rfl) ?_;refine sq (fS (sV (p:=.lst (ia ks)) (s1:=Bt S W P m.F1 (SV m) B x6 (some (iN j)) (some (bt m.fn r)) nq nu ng [tV m,qw ag,⟨.dU true ks,ps⟩]) rfl rfl) a6) ?_;refine sq (fS (sV (clG (s1:=Bt S W P m.F1 (SV m) B x6 (some (iN j)) (some (bt m.fn r)) t9 ua ng [tV m,qw ag,⟨.dU true k1,p1⟩]) (as:=[.ref 0,bt m.fn r]) (cA rfl (cA rfl rfl)) rfl rfl th) rfl) e3) ?_;exact fD (n:=2) (s1:=Bt S W P m.F1 (SV m) B x6 (some (iN j)) (some (bt m.fn r)) t9 ua D8 [tV m,qw ag,⟨.dU true k2,p2⟩]) rfl rfl wl (show 2<[tV m,qw ag,zK].length by simp)
def Wq(m:Md):List Nat->Prop
 | []=>True
 | [_]=>True
 | d::e::r=>d∈m.nx e/\Wq m (e::r)
theorem Mo:∀(l:List Nat) (c:Nat) (acc:List Nat),Wy m c l->Wq m (c::acc)->Wq m (l.reverse++c::acc)
 | [],_,_,_,h=>h
 | b::l,c,acc,w,h=>by
  rw[nG,cW];exact Mo l b (c::acc) w.2 ⟨w.1,h⟩
theorem FV(h:cZ m most):∀(l:List Nat) (c:Nat) (r:Ro),m.L[c]?=some r->Wy m c l->∀d∈c::l,∃r,m.L[d]?=some r
 | [],c,r,hr,_,d,hd=>by cases aB.mp hd;exact⟨r,hr⟩
 | b::l,c,r,hr,w,d,hd=>by
  rcases aD.mp hd with rfl | hd
  ·exact⟨r,hr⟩
  ·obtain⟨r',Mv⟩:=Mj h hr w.1;exact FV h l b r' Mv w.2 d hd
theorem FW(k:Nat)(hk:4<=k)(h:cZ m most)(T:PJ m A ag)(S W P B:PV)(x6:Option PV):∀(ds:List Nat) (Q:Str->Int->Prop) (n:Nat) (c:aq) (yt uM nq nu ng:Option PV),(∀d∈ds,∃r,m.L[d]?=some r)->Wq m ds->(∀d r,ds.head?=some d->m.L[d]?=some r->∀x l,Q x l->x≠R7 r->Pj m ag d x l)->Mm Q n c->n+30*ds.length<4000000 ->
  ∃c' y10 Wz t9 ua D8,cY (aU 10) (E8 (run txt (k+4))) (ds.map iN) (Bt S W P m.F1 (SV m) B x6 yt uM nq nu ng [tV m,qw ag,c])=some (.ok .nx,Bt S W P m.F1 (SV m) B x6 y10 Wz t9 ua D8 [tV m,qw ag,c'])
 | [],Q,n,c,yt,uM,nq,nu,ng,_,_,_,_,_=>⟨c,yt,uM,nq,nu,ng,rfl⟩
 | d::ds,Q,n,c,yt,uM,nq,nu,ng,hr,hw,hQ,hc,hn=>by
  rw[aK]at hn;obtain⟨r,hd⟩:=hr d aE;obtain⟨c1,Wz,t9,ua,D8,k1,e⟩:=Wx k hk h T S W P B x6 uM nq nu ng hd hc (hQ d r rfl hd) (by lia)
  obtain⟨c',z10,z11,z12,z13,z14,z⟩:=FW k hk h T S W P B x6 ds (Pj m ag d) (n+30) c1 (some (iN d)) Wz t9 ua D8 (λe he=>hr e (aF _ he)) (by cases ds with | nil=>trivial | cons e es=>exact hw.2) (λe r' he hre x l hp hx=>by
   cases ds with
   | nil=>cases he
   | cons e' es=>cases he;exact Mc h T hre hw.1 hp hx) k1 (by lia)
  exact⟨c',z10,z11,z12,z13,z14,fC rfl e z⟩
end
section
variable {m:Md} {most:Nat}
theorem WA{fa fb:Gx PV}{s:cx}(ha:Ev fa s (.ao (m.P.map bD)) s)(hb:Ev fb s (.ao (m.LT.map bD)) s):Ev (EZ fa fb) s (.ref s.h.length) ⟨s.ρ,s.h++[tV m]⟩:=by
 have e1:G6 (m.P.map bD++m.LT.map bD)=some (tV m):=by
  rw[<-bQ];exact PN vO (by have:=@tM m;unfold Md.ks at this;lia)
 have hp:(m.P.map bD).isEmpty=false:=by
  have:=@tM m;unfold Md.P;split<;>rfl
 refine eB ha (eB hb ?_);show(if((m.P.map bD).isEmpty || (m.LT.map bD).isEmpty)=true then none else(G6 (m.P.map bD++m.LT.map bD)).bind λc=>kJ c s)=_
 rw[hp,if_neg (by show ¬((false || false)=true);decide),e1]
 rfl
end
noncomputable def WB:List Str:=["put","set","fill","copy","move","drop","lend","lend","lend","call","call"]
noncomputable def aaJ:List Str:=["if","if","if","go","say","put","give"]
theorem aaK(ns:List Int):∃cs:List Int,cs.length<=60/\∀H,Ez H none (some 60) (qj ns)=some (.lst (cs.map .int)):=by
 refine⟨ns.take 60,by rw[lr];lia,λH=>?_⟩
 show some (PV.lst (jy (ns.map .int) none (some ((60:Nat):Int))))=_;rw[DO,wt]
theorem rvE{fa:Gx PV}{s s1:cx}{ps:List PV}(h:Ev fa s (.lst ps) s1):Ev (OK fa) s ps.reverse s1:=eB h rfl
theorem Mp(ns:List Int)(_:ns.length<=63):Yes (run txt 21 "law" [qj ns] []):=by
 obtain⟨m,hp,ok⟩:=HP 16 (by decide) ns 20 (by decide) (W:=WB++aaJ) (by decide)
 obtain⟨A,ag,hh,T⟩:=PK 16 (by decide) ok (by decide)
 have ha:=yv ok (by decide) 19 (by decide)
 have hs:=HR 19 ok (by decide)
 obtain⟨zs,hz,DP⟩:=aaK ns;have eG:=(A5 ok).2;obtain⟨c7,hc7⟩:∃c7:Int,Gives (run txt 20 "_law_cell_at" [qj ns,.int 7] []) (.int c7):=⟨_,DW 19 ns 7⟩
 have hmx:=jl 19 c7 (i:=2) (by decide)
 generalize hy:AW c7 2=y at hmx
 obtain⟨b,hb,Bm⟩:∃b:Nat,y%(m.L.length:Int)=(b:Int)/\b<m.L.length:=by
  have h0:=jU y (show(m.L.length:Int)≠0 by lia)
  have h1:=qB y (show(0:Int)<(m.L.length:Int) by lia)
  exact⟨(y%(m.L.length:Int)).toNat,by lia,by lia⟩
 obtain⟨r,hr⟩:∃r,m.L[b]?=some r:=⟨_,bW Bm⟩
 obtain⟨l,hll,hw,hwy⟩:=Wu 18 ok hr zs hz;have CS:ag.length<=95256:=by
  have hU:=L0 ok (by decide)
  have:=oz (ag.map (·.1)) (UN m) T.nd λx hx=>by
   obtain⟨t,ht,rfl⟩:=aM.mp hx;obtain⟨f,e,o⟩:=T.ok t ht;rw[e];exact D4 o
  rw[ak]at this
  lia
 have nP:=FG ok;have nR:=qu ok;obtain⟨y6,kl⟩:=vP (run txt 20) (some (qj ns)) (some (.lst (WB.map .str))) (some m.prog) (some m.F1) [none,none,none,none,none,none,none,none] (tV m) ag [] none (by rw[eW];exact T.nd) (λt ht=>by obtain⟨f,e,_⟩:=T.ok t ht;exact⟨f,e⟩) (by rw[eW];lia)
 rw[eW]at kl;obtain⟨c',y10,Wz,t9,ua,D8,wl⟩:=FW 16 (by decide) ok T (qj ns) (.lst (WB.map .str)) m.prog (iN b) y6 (l.reverse++[b]) (λ_ _=>False) 0 ⟨.dU true [],[]⟩ none none none none none (λd hd=>FV ok l b r hr hw d (by simp at hd ⊢;exact hd.symm)) (Mo l b [] hw trivial) (λ_ _ _ _ _ _ z=>z.elim) ⟨[],[],rfl,rfl,ay _,lz,λ_ z=>nomatch z⟩ (by simp;lia)
 have ix1:∀H,bN H m.prog (.int 1)=some m.F1:=LP
 have f1:∀H,bN H m.F1 (.int 1)=some (.ao (m.P.map bD)):=λ_=>rfl
 have f3:∀H,bN H m.F1 (.int 3)=some (.ao (m.LT.map bD)):=λ_=>rfl
 have f4:∀H,bN H m.F1 (.int 4)=some (.ao m.rows):=λ_=>rfl
 have ln:∀H,gv H [.ao m.rows]=some (.int (m.L.length:Int)):=λH=>by
  show some (PV.int ((m.rows.length:Nat):Int))=_;unfold Md.rows;rw[ak]
 have hp:Gives (run txt 20 "_law_program" [qj ns,.int 20,.lst ((WB++aaJ).map .str)] []) m.prog:=hp;have aej:((b::l).map iN).reverse=(l.reverse++[b]).map iN:=by rw[<-List.map_reverse,nG]
 obtain⟨F1,hF1⟩:=nw m.F1;obtain⟨P,hP⟩:=nw m.prog;rw[<-hF1]at ix1 f1 f3 f4 kl wl;rw[<-hP]at hp ha hh nP kl wl ix1;have e:run txt 21 "law" [qj ns] []=some (.ok (.bl true),[tV m,qw ag,c']):=by
  rw[O3];refine jj (Bn:=[some (qj ns),some (.lst (WB.map .str)),some P,some F1,some (.ref 0),some (.ref 1),y6,some (SV m),some (iN b),some (.ref 2),y10,Wz,t9,ua,D8]) ?_;refine sq rfl ?_;refine sq (aS (cU (cA rfl (cA rfl (cA (b2 rfl rfl (by rw[bQ];exact aL (by simp))) rfl))) rfl rfl hp) rfl) ?_
  refine sq (aS (b2 rfl rfl (ix1 _)) rfl) ?_;refine sq (aS (WA (m:=m) (b2 rfl rfl (f1 _)) (b2 rfl rfl (f3 _))) rfl) ?_;refine sq (s1:=⟨[some (qj ns),some (.lst (WB.map .str)),some P,some F1,some (.ref 0),some (.ref 1),none,none,none,none,none,none,none,none,none],[tV m,qw []]⟩) rfl ?_;refine sq (fS (sV (cU (cA rfl (cA rfl rfl)) rfl (by simp[ai,nP,noRef]) hh) rfl) kl) ?_
  refine sq (aS (cU (as:=[.lst (m.as.map eN)]) (cA (cU (cA rfl (cA rfl rfl)) rfl (by simp[ai,nP,noRef]) ha) rfl) rfl (by simp[ai,noRef,A9]) hs) rfl) ?_
  refine sq (aS (p:=iN b) (b2 (cU (as:=[.int c7,.int 2]) (cA (cU (as:=[qj ns,.int 7]) (cA rfl (cA rfl rfl)) rfl (by simp[ai,noRef,qj,PQ]) hc7) (cA rfl rfl)) rfl rfl hmx) (bV (cA (b2 rfl rfl (f4 _)) rfl) (ln _)) (by rw[cR (by lia),hb];rfl)) rfl) ?_
  refine sq (s1:=⟨[some (qj ns),some (.lst (WB.map .str)),some P,some F1,some (.ref 0),some (.ref 1),y6,some (SV m),some (iN b),some (.ref 2),none,none,none,none,none],[tV m,qw ag,⟨.dU true [],[]⟩]⟩) rfl ?_;refine sq (fS (sG (rvE (cU (as:=[.ao m.rows,iN b,.lst (zs.map .int)]) (cA (b2 rfl rfl (f4 _)) (cA rfl (cA (cE rfl rfl rfl (DP _)) rfl))) rfl (by simp[ai,noRef,nR,PQ,iN]) hwy))) ?_) (rS rfl)
  rw[aej];exact wl
 exact⟨_,e⟩
end bU
open PySem PySem.W PyProof.Rows PySem.Calls
theorem PySem.Challenge.cw_lendrule_k27_whole_needed_along_a_way_holds : PySem.Challenge.rw_lendrule_k27_whole_needed_along_a_way.Holds := by
 exact bU.jI λd h1 h2=>L2.U.KW (P:=bU.txt) (N:=21) (st:=bU.ZX) (x:="_law_script") (l:=PySem.Challenge.rw_lendrule_k27_whole_needed_along_a_way) (by kernel_rfl) (by kernel_rfl) rfl h1 h2 ⟨rfl,by decide,by decide⟩ (by kernel_rfl) (λw h Y=>Y) bU.Mp
end
