import PyProof.Rows.All
import KE.KSortTup
import KE.KDictOf
import KE.KNestM
import KE.KItemsList
import KE.KIsAll
import KE.KLam
import KE.KRevIter
import KE.KSortedM
import PyProof.StrWalks
import PyProof.SetKind
import PyProof.AttrMissHeap
import PyProof.DictUpdate
import KE.KUnpack
import PySem.Challenge.RW_lendrule_k18_rows_judged
set_option maxHeartbeats 0
set_option Elab.async false
set_option linter.all false
set_option maxRecDepth 100000
noncomputable section
section
open PySem PySem.Spec PyProof.Rows
def CG:=@List.findIdx?_eq_some_iff_getElem
def CH:=@List.eraseIdx_eq_take_drop_succ
def lg:=@PyProof.Rows.slot_tuple_getitem
def CI:=@PyProof.Rows.callWith_builtin1
def rM:=@List.eq_nil_of_length_eq_zero
def CJ:=@PySem.F.slot_dict_setdefault
def CK:=@F.args_tuple_iterator_next_1
def d0:=@PyProof.Rows.callWith_type1
def CL:=@F.entry_tuple_iterator_next
def CM:=@PySem.F.args_object_init_3
def CN:=@List.getElem?_append_right
def CO:=@List.getD_eq_getElem?_getD
def rN:=@F.slot_tuple_iterator_next
def CP:=@List.nodup_iff_pairwise_ne
def CQ:=@Calls.Name_function_global
def wK:=@F.slot_tuple_getattribute
def m6:=@Array.getElem?_eq_getElem
def dI:=@List.getElem?_eq_some_iff
def m7:=@List.getElem?_append_left
def gg:=@List.getElem?_eq_none_iff
def b9:=@List.getElem?_eq_getElem
def wL:=@F.slot_list_getattribute
def wM:=@PySem.F.args_tuple_add_2
def wN:=@PySem.F.args_tuple_mul_2
def iw:=@AutoSeq1.wpAny_loadPart'
def rO:=@List.filterMap_cons_none
def rP:=@List.filterMap_cons_some
def m8:=@Option.bind_eq_some_iff
def wO:=@PySem.F.entry_tuple_mul
def wQ:=@PySem.F.entry_tuple_add
def m9:=@PySem.F.plainAttrs_list
def wR:=@PySem.F.plainAttrs_dict
def wU:=@F.plain_set_update_loop
def dJ:=@wpAny_callSpecial?_slot
def wV:=@PySem.F.slot_tuple_add
def ix:=@Heap.get?_update_other
def rQ:=@List.getElem?_set_self
def lj:=@List.take_of_length_le
def wW:=@PySem.F.slot_tuple_mul
def wX:=@List.length_pos_of_mem
def aj:=@Heap.get?_push_of_some
def iy:=@Option.map_eq_some_iff
def gJ:=@Array.getElem?_eq_none
def wY:=@wpAny_notOrdered_dict
def bF:=@Nat.le_of_ble_eq_true
def jw:=@List.getElem?_toArray
def d6:=@List.mem_append_right
def rR:=@builtinLookup_eq_fast
def rS:=@List.mem_iff_getElem?
def wZ:=@Array.getElem?_toList
def lp:=@List.take_append_drop
def rV:=@List.getElem?_eq_none
def nc:=@List.length_filter_le
def iz:=@Heap.get?_update_self
def w5:=@Obj.data_mapDictKeys
def lq:=@wpAny_updateSeq_pair
def jx:=@Around.under_plainId
def nh:=@List.mem_append_left
def nj:=@Bool.and_eq_true_iff
def w6:=@List.mem_of_getElem?
def jy:=@List.getElem?_set_ne
def da:=@List.mem_cons_of_mem
def lr:=@Array.length_toList
def w9:=@Heap.SameBut.update
def rW:=@List.mem_map_of_mem
def xa:=@List.map_congr_left
def rX:=@F.plain_extend_loop
def rY:=@List.getElem?_range
def aY:=@Heap.get?_push_size
def bW:=@beq_eq_false_iff_ne
def xb:=@List.filterMap_cons
def d7:=@PySem.mem_of_lookup
def jz:=@List.replicate_succ
def rZ:=@List.forIn_toArray
def xc:=@Option.isSome_some
def iA:=@wpAny_Call_Name_kw
def nk:=@List.mem_filterMap
def r0:=@decide_eq_true_iff
def nr:=@tupleKind_room_in1
def d8:=@wpAny_setField_rec
def bN:=@Nat.lt_of_lt_of_le
def r6:=@Int.emod_lt_of_pos
def cE:=@Bool.false_ne_true
def eR:=@Bool.false_eq_true
def dc:=@List.mem_cons_self
def iB:=@List.mem_singleton
def dM:=@List.length_append
def xf:=@wpAny_pyIter_tuple
def nv:=@Nat.lt_of_le_of_lt
def bR:=@List.getElem?_map
def r9:=@List.reverse_cons
def xg:=@List.append_assoc
def lu:=@Int.toNat_natCast
def dr:=@decide_eq_true_eq
def iC:=@wpAny_truthy_bool
def iD:=@F.args_zip_next_1
def jA:=@List.map_inj_left
def lx:=@wpAny_pyIter_list
def bO:=@List.size_toArray
def jC:=@wpAny_newObj_type
def sd:=@Function.comp_def
def ly:=@List.flatten_cons
def xh:=@Bool.not_eq_true'
def eS:=@of_decide_eq_true
def xi:=@List.nodup_append
def ny:=@List.length_range
def xj:=@List.any_eq_false
def xk:=@wpAny_dictEntries
def xl:=@Option.getD_none
def xm:=@Heap.IsList.push
def lA:=@List.length_take
def se:=@List.take_length
def lB:=@List.any_eq_true
def nz:=@Around.in1_units
def iE:=@F.entry_zip_next
def xn:=@Nat.le_add_right
def gh:=@beq_self_eq_true
def bH:=@List.not_mem_nil
def aC:=@Bool.and_eq_true
def xo:=@List.getElem_mem
def lC:=@Nat.lt_succ_self
def gi:=@List.lookup_cons
def cF:=@List.length_cons
def sg:=@List.zipIdx_cons
def xp:=@List.length_drop
def d9:=@List.all_eq_true
def sh:=@Heap.size_update
def xq:=@noFill_tuple_add
def xt:=@wpAny_pyIter_zip
def eU:=@Option.bind_some
def dt:=@wpAny_call_entry
def sj:=@List.mem_flatMap
def xu:=@Nat.le_of_not_lt
def nA:=@wpAny_isInstance
def xw:=@List.cons.injEq
def sk:=@List.nil_append
def su:=@List.length_zip
def nB:=@wpAny_updateSeq
def xx:=@List.of_mem_zip
def xy:=@Option.map_some
def sv:=@List.zipIdx_nil
def bt:=@Option.some.inj
def iF:=@codeAny_builtin
def gK:=@List.forIn_cons
def lD:=@List.length_nil
def aP:=@decide_eq_false
def sx:=@List.length_set
def lE:=@Int.emod_nonneg
def fD:=@List.mem_filter
def sy:=@typeLookup_type
def xA:=@List.range_succ
def jD:=@wpAny_passesOwn
def dN:=@List.map_append
def nC:=@wpAny_ite_false
def dO:=@Bool.eq_iff_iff
def nD:=@List.find?_cons
def ak:=@List.length_map
def sE:=@wpAny_execs_nil
def xB:=@Heap.DictOf.new
def cM:=@F.slot_zip_next
def gj:=@List.append_nil
def nE:=@List.foldl_cons
def iG:=@List.nodup_cons
def iH:=@List.mem_append
def xC:=@Nat.min_eq_left
def bI:=@Bool.false_and
def sF:=@Bool.not_false
def nF:=@isSubtype_stop
def sG:=@Nat.mul_le_mul
def gL:=@List.mem_range
def aG:=@decide_eq_true
def du:=@Bool.and_false
def cN:=@wpAny_seqItems
def lF:=@List.nodup_nil
def sH:=@wpAny_newTuple
def cm:=@Heap.size_push
def iI:=@List.forIn_nil
def iJ:=@wpAny_onRaise
def gM:=@Paired.length
def jE:=@plainId_quiet
def nG:=@List.map_drop
def aO:=@List.map_cons
def lG:=@List.any_cons
def dv:=@Nat.lt_irrefl
def sJ:=@wpAny_standAt
def fE:=@List.all_cons
def aX:=@List.mem_cons
def jF:=@Prod.mk.injEq
def bz:=@Bool.true_and
def gN:=@wpAny_attempt
def bX:=@wpAny_holding
def eV:=@Bool.and_true
def lH:=@List.map_take
def jG:=@wpAny_typeOf
def lI:=@Nat.ne_of_gt
def aD:=@Nat.le_trans
def gO:=@Nat.lt_trans
def ee:=@List.mem_map
def eW:=@List.map_nil
def sL:=@Nat.le_of_lt
def ay:=@Heap.lt_size
def aJ:=@Nat.ne_of_lt
def iK:=@Nat.le_of_eq
def nH:=@List.any_map
def fF:=@List.map_map
def lJ:=@codeAny_mono
def gk:=@Nat.zero_le
def ar:=@Nat.le_refl
def gP:=@wpAny_letGo
def bu:=@wpAny_field
def jH:=@sizeLine_eq
def ag:=@wpAny_pure
def af:=@wpAny_bind
def gQ:=@beq_iff_eq
def dw:=@call_meets
def gm:=@wpAny_rule
def nI:=@typeIs_int
def nJ:=@strKind_is
def nK:=@wpAny_mono
def aH:=@eq_of_beq
def de:=@if_false
def eX:=@congrArg
def lK:=@tail_any
def bJ:=@or_false
def ef:=@if_true
def bA:=@Ne.symm
end
namespace X9
end X9
section
namespace L2
open PySem PySem.Spec PyProof.Rows
abbrev cz:=Sum Int Str
inductive V where
 | aN | bl (b:Bool) | int (i:Int) | str (x:Str) | OW (b:Array UInt8) | S8 (b:UInt64) | ref (a:Addr) | ty (n:String)
 deriving DecidableEq
def RelV:V->Value->Prop
 | .aN,u=>u=Value.none
 | .bl b,u=>u=Value.bool b
 | .int i,u=>∃t,u=Value.int i t
 | .str x,u=>∃t,u=Value.str x t
 | .OW b,u=>∃t,u=Value.bytes b t
 | .S8 b,u=>∃t,u=Value.float b t
 | .ref a,u=>u=Value.ref a
 | .ty n,u=>u=Value.type n
abbrev Vals:List V->List Value->Prop:=Paired RelV
def kV:cz->V
 | .inl i=>.int i
 | .inr x=>.str x
inductive HO where
 /-- a list -/
 | lst (xs:List V)
 /-- a tuple (never S9) -/
 | aq (xs:List V)
 /-- a dict JX keys T5 ints and Pn;one JX keys T5 tuples of ints and Pn (JY empty one is Yb) -/
 | dK (kvs:List (cz×V)) | dT (xs:List (List cz×Addr×Value))
 /-- a set of ints: ai Ta,ai size -/
 | set (S:Int->Bool) (n:Nat)
 /-- an instance of JY class at C,ai dict at dx,ai K7 -/
 | ins (C dx:Addr) (fs:List (Str×V))
 /-- JY dict of JY instance at x -/
 | own (x:Addr)
 /-- JY dict of an OX -/
 | xd (fs:List (Str×V))
 /-- a bound method,f of x -/
 | Tb (f x:Addr)
 /-- a range CS lo,lo+1,.. below hi -/
 | Tc (lo hi:Int)
 /-- a Po Yc is WR to JY CS (JY T6;a dict while a loop WS it): Yd,never written while it is so -/
 | uC (o:Obj) (u:HO)
 /-- a code Pp table -/
 | fQ (q:Str)
 /-- any other Po,by what is true of ai one CS (a def of WT own: Ye a S n:=HO.ext λh=>..) -/
 | ext (φ:Heap->Prop)
abbrev Hp:=Addr->Option HO
def Rd(H:Hp)(a:Addr)(u:HO):Prop:=H a=some u\/∃o,H a=some (.uC o u)
def cO:List Str:=["arrivals","empties","needs","held"]
def fA(K:W.Frag)(H:Hp)(a:Addr)(xs:List V):Prop :=
 Rd H a (.aq xs) \/
  ∃(o:Obj) (ai:Array Value) (n:Nat),K.lookup a=some o/\o.cls=.type "tuple"/\(o.data=.seq ai n/\o.dict=none)/\ai.size<=sizeLine/\Vals xs ai.toList
def gq(K:W.Frag)(H:Hp)(a:Addr)(xs:List V):Prop :=
 Rd H a (.lst xs)\/∃(ai:List Value) (n:Nat),K.lookup a=some {cls:=.type "list",data:=.seq ai.toArray n}/\ai.length<=sizeLine/\Vals xs ai
structure AL (K:W.Frag) (C:Addr):Prop where
 pg:W.plainGet K C Str.empty=true
 hd:W.hasDictIn K C=true
 po:W.plainOver K C=true
 sa:W.findIn K (.ref C) "__setattr__"=some (some (.builtin "object.__setattr__"))
def gR(K:W.Frag)(C:Addr)(f:Str):Prop:=W.findIn K (.ref C) f=some none
section
variable {X:Cx} {CX:CU} {k:Nat} {f C:Addr} {fd:FuncData} {ps:List Str} {sp:Sp} {JZ:List V} {ds:List Value} {E:XK} {x m:Str} {p pos kh:Pos} {e o:Expr} {es:List Expr} {ta:TE} {t:TA}
structure Mk (K:W.Frag) (C f:Addr):Prop where
 makes:W.makesIn K C=true
 init:W.findIn K (.ref C) "__init__"=some (some (.ref f))
 fn:W.isFn K (.ref f)=true
 kp:W.keepIn K (.ref C)=true
end
structure cV (N P:List Str) (sc:Scope):Prop where
 kind:sc.kind=.function
 co:sc.isCoroutine=false
 gen:sc.isGenerator=false
 nd:N.Nodup
 pre:N.take P.length=P
 par:∀x∈P,sc.names.lookup x=some .local\/sc.names.lookup x=some .cell
 nofree:∀y∈sc.names,y.2≠.free
def fW(s:Stmt):Arguments:=match s with
 | .FunctionDef _ a _ _ _ _ _ _ _ _=>a
 | _=>{posonlyargs:=[],args:=[],vararg:=none,kwonlyargs:=[],kw_defaults:=[],kwarg:=none,defaults:=[]}
def cW(s:Stmt):List Stmt:=match s with
 | .FunctionDef _ _ b _ _ _ _ _ _ _=>b
 | _=>[]
def aA(s:Stmt):Scope:=match s with
 | .FunctionDef _ _ _ _ _ _ sc _ _ _=>sc
 | _=>{kind:=.function,names:=[],isGenerator:=false,isCoroutine:=false}
structure AM (K:W.Frag) (x qual:Str) (st:Stmt) (f:Addr) (fd:FuncData):Prop where
 ex:∃(oc:Value) (od:Option Addr) (kV doc pm:Value) (an:Option Addr) (eE ct:Value) (wD:Array (Option Value)),
  fd=W.fnOf x qual (fW st) (cW st) (aA st) .none kV doc pm an eE ct/\K.lookup f=some ⟨oc,od,.func fd,wD⟩/\W.codeIn K eE qual=true
 kp:W.keepIn K (.ref f)=true
section
variable {P:Program} {w:World} {K:W.Frag} {mg:Str->Option Value} {base:Heap}
def CV{st:Stmt}{oc:Value}{od an:Option Addr}{wD:Array (Option Value)}{kV doc pm eE ct:Value}(l:K.lookup f=some ⟨oc,od,.func (W.fnOf x qual (fW st) (cW st) (aA st) .none kV doc pm an eE ct),wD⟩)
  (c:W.codeIn K eE qual=true) (k:W.keepIn K (.ref f)=true):AM K x qual st f (W.fnOf x qual (fW st) (cW st) (aA st) .none kV doc pm an eE ct):=⟨⟨oc,od,kV,doc,pm,an,eE,ct,wD,rfl,l,c⟩,k⟩
end
section
variable {X:Cx} {ae:List (Addr×Obj)} {σ:St} {H:Hp} {s:Shared} {a b:Addr} {k:List cz} {v:V} {r:Value} {A:Around} {E:Value->Shared->Prop} {xs:List (List cz×Addr×Value)}
def ej(K:W.Frag)(H:Hp)(xs:List (List cz×Addr×Value)):Prop:=∀x∈xs,fA K H x.2.1 (x.1.map kV)
end
end L2
namespace L2.U
open PySem PySem.Spec PyProof.Rows
inductive Kd where
 | aq | lst | ins (C:Str) (ns:List Str) | eJ (t:Bool) (ks:List (List cz))
inductive PV where
 | aN | bl (b:Bool) | int (i:Int) | str (x:Str) | ref (n:Nat) | fn (x:Str) | nd (k:Kd) (ps:List PV)
abbrev PV.aq (ps:List PV):PV:=.nd .aq ps
structure Fz where
 F:Hp
 μ:List Addr
def ClsAt(K:W.Frag)(C:Str)(cls:Value):Prop:=W.nsIn K mainGlobals C=some (some cls)
def jI(K:W.Frag)(F H:Hp)(a:Addr)(x:Bool):Kd->List V->Prop
 | .aq,vs=>x=false/\fA K H a vs
 | .lst,vs=>if x=true then H a=some (.lst vs)else gq K H a vs
 | .ins C ns,vs=>∃Ca dx fs,ClsAt K C (.ref Ca)/\AL K Ca/\(∀f∈ns,gR K Ca f)/\H a=some (.ins Ca dx fs)/\fs.map (·.1)=ns/\fs.map (·.2)=vs
 | .eJ false ks,vs=>∃kvs:List (cz×V),H a=some (.dK kvs)/\kvs.map (λy=>[y.1])=ks/\kvs.map (·.2)=vs
 | .eJ true ks,vs=>∃xs,H a=some (.dT xs)/\ej K F xs/\xs.map (·.1)=ks/\Vals vs (xs.map (·.2.2))
mutual
def bc(K:W.Frag)(F:Fz):PV->V->Prop
 | .aN,v=>v=.aN
 | .bl b,v=>v=.bl b
 | .int i,v=>v=.int i
 | .str x,v=>v=.str x
 | .ref n,v=>∃a,F.μ[n]?=some a/\v=.ref a
 | .fn x,v=>∃a,v=.ref a/\W.nsIn K mainGlobals x=some (some (.ref a))
 | .nd k ps,v=>∃a vs,v=.ref a/\jI K F.F F.F a false k vs/\ao K F ps vs
def ao(K:W.Frag)(F:Fz):List PV->List V->Prop
 | [],vs=>vs=[]
 | p::ps,vs=>∃v r,vs=v::r/\bc K F p v/\ao K F ps r
end
section
variable {K:W.Frag} {F F':Fz}
def ao.nil:ao K F [] []:=by simp[ao]
def ao.cons(h:bc K F p v)(t:ao K F ps vs):ao K F (p::ps) (v::vs):=by
 simp only[ao];exact⟨v,vs,rfl,h,t⟩
def cj:bc K F .aN v↔v=.aN:=by simp only[bc]
def aR:bc K F (.bl b) v↔v=.bl b:=by simp only[bc]
def aw:bc K F (.int i) v↔v=.int i:=by simp only[bc]
def bf:bc K F (.str i) v↔v=.str i:=by simp only[bc]
def gS:bc K F (.nd k ps) v↔∃a vs,v=.ref a/\jI K F.F F.F a false k vs/\ao K F ps vs:=by simp only[bc]
def bg:bc K F (.aq ps) v↔∃a vs,v=.ref a/\fA K F.F a vs/\ao K F ps vs :=
 gS.trans ⟨(by rintro⟨a,vs,h1,h2,h3⟩;exact⟨a,vs,h1,h2.2,h3⟩),(by rintro⟨a,vs,h1,h2,h3⟩;exact⟨a,vs,h1,⟨rfl,h2⟩,h3⟩)⟩
end
structure Pg where
 defs:List (Str×Stmt)
 cons:List (Str×PV):=[]
 cb:List Str:=[]
 tabs:List (Str×List (Str×Str)):=[]
 cP:List (Str×List (Str×PV)):=[]
 cls:List (Str×Stmt):=[]
 flds:List Str:=[]
 pK:List Str:=[]
 Pq:List (Str×List (Str×Nat)):=[]
def params(st:Stmt):List Str:=(fW st).args.map λa=>a.arg
def Pr:NameKind->Bool
 | .local=>true
 | .cell=>true
 | _=>false
def bS(st:Stmt):List Str:=params st++((aA st).names.filter λy=>Pr y.2&&!(params st).contains y.1).map λy=>y.1
structure CW (K:W.Frag) (x:Str) (st:Stmt):Prop where
 ex:∃f fd,W.nsIn K mainGlobals x=some (some (.ref f))/\AM K x x st f fd/\∀us:List Value,us.length=(params st).length->bindArgs fd ⟨us,[]⟩=pure ((params st).zip us)
 sc:cV (bS st) (params st) (aA st)
def AN(K:W.Frag)(P:Params)(T:Str)(rows:List (Str×Str)):Prop :=
 ∃a es n,W.nsIn K mainGlobals T=some (some (.ref a))/\K.lookup a=some ⟨.type "dict",none,.dict es n,#[]⟩/\W.KeysLit P es.toList/\∀d∈rows,∃f,W.nsIn K a d.1=some (some (.ref f))/\W.nsIn K mainGlobals d.2=some (some (.ref f))
def T7{K:W.Frag}{P:Params}{T:Str}{rows:List (Str×Str)}{a:Addr}{es:Array DictEntry}{n:Nat}(h1:W.nsIn K mainGlobals T=some (some (.ref a)))(h2:K.lookup a=some ⟨.type "dict",none,.dict es n,#[]⟩)(h3:W.KeysLit P es.toList)
  (h4:∀d∈rows,∃f,W.nsIn K a d.1=some (some (.ref f))/\W.nsIn K mainGlobals d.2=some (some (.ref f))):AN K P T rows:=⟨a,es,n,h1,h2,h3,h4⟩
def J0:PV->Value->Bool
 | .int i,.int j _=>i==j
 | .str x,.str y _=>x==y
 | .bl a,.bool b=>a==b
 | .aN,.none=>true
 | _,_=>false
def sM:List PV->List Value->Bool
 | [],[]=>true
 | p::r,u::q=>J0 p u&&sM r q
 | _,_=>false
def K8{K:W.Frag}{p:PV}{u:Value}(h:J0 p u=true):∃v,RelV v u/\∀F,bc K F p v:=by
 cases p<;>cases u<;>first | exact absurd h cE | skip
 ·exact⟨.aN,rfl,λF=>cj.mpr rfl⟩
 ·cases aH h;exact⟨.bl _,rfl,λF=>aR.mpr rfl⟩
 ·cases aH h;exact⟨.int _,⟨_,rfl⟩,λF=>aw.mpr rfl⟩
 ·cases aH h;exact⟨.str _,⟨_,rfl⟩,λF=>bf.mpr rfl⟩
def GN{K:W.Frag}{ps:List PV}{us:List Value}(h:sM ps us=true):∃vs,Vals vs us/\∀F,ao K F ps vs:=by
 induction ps generalizing us with
 | nil=>cases us;exact⟨[],.nil,λ_=>.nil⟩;cases h
 | cons p r ih =>
  cases us with
  | nil=>cases h
  | cons u q =>
   have h:=nj.mp h;obtain⟨v,a,b⟩:=K8 (K:=K) h.1;obtain⟨vs,h1,h2⟩:=ih h.2;exact⟨v::vs,.cons a h1,λF=>.cons (b F) (h2 F)⟩
def GO{K:W.Frag}{g:Addr}{x:Str}{a:Addr}{ps:List PV}{us:List Value}{n:Nat}{sl:Array (Option Value)}(h1:W.nsIn K g x=some (some (.ref a)))(h2:K.lookup a=some ⟨.type "tuple",none,.seq us.toArray n,sl⟩)(h3:sM ps us=true)(h4:us.length<=100) :
  ∃u v,W.nsIn K g x=some (some u)/\RelV v u/\∀F,bc K F (.aq ps) v:=by
 obtain⟨vs,r,b⟩:=GN h3;exact⟨_,.ref a,h1,rfl,λF=>bg.mpr ⟨a,vs,rfl,.inr ⟨_,us.toArray,n,h2,rfl,⟨rfl,rfl⟩,by rw[bO];exact aD h4 (by decide),by grind⟩,b F⟩⟩
def GP{K:W.Frag}{g:Addr}{x:Str}{y:Str}{t:Tok}(a:W.nsIn K g x=some (some (.str y t))):∃u v,W.nsIn K g x=some (some u)/\RelV v u/\∀F,bc K F (.str y) v:=⟨_,.str y,a,⟨t,rfl⟩,λF=>bf.mpr rfl⟩
def GQ{K:W.Frag}{g:Addr}{x:Str}{i:Int}{t:Tok}(a:W.nsIn K g x=some (some (.int i t))):∃u v,W.nsIn K g x=some (some u)/\RelV v u/\∀F,bc K F (.int i) v:=⟨_,.int i,a,⟨t,rfl⟩,λF=>aw.mpr rfl⟩
def uD(K:W.Frag)(P:Params)(T:Str)(rows:List (Str×PV)):Prop :=
 ∃a es n,(a==sysModules)=false/\W.nsIn K mainGlobals T=some (some (.ref a))/\K.lookup a=some ⟨.type "dict",none,.dict es n,#[]⟩/\W.KeysLit P es.toList/\∀d∈rows,∃u v,W.nsIn K a d.1=some (some u)/\RelV v u/\∀F,bc K F d.2 v
def K9(K:W.Frag)(C:Str)(st:Stmt)(flds:List Str):Prop:=∃Ca f fd,W.nsIn K mainGlobals C=some (some (.ref Ca))/\Mk K Ca f/\AL K Ca/\(∀g∈flds,gR K Ca g)/\AM K "__init__" (C++".__init__") st f fd/\(∀us:List Value,us.length=(params st).length->bindArgs fd ⟨us,[]⟩=pure ((params st).zip us))/\cV (bS st) (params st) (aA st)
def La(K:W.Frag)(x:Str):Prop:=x∈cO/\∃c T,W.tabIn K x=some (c,T)/\W.codeHdIn K c T=true
def CY(K:W.Frag):Prop:=∃bm o,W.nsIn K mainGlobals "__builtins__"=some (some (.ref bm))/\bm≠builtinsNs/\bm≠mainGlobals/\K.lookup bm=some o/\o.cls=.type "module"/\o.dict=some builtinsNs/\o.data=.plain
structure ki (K:W.Frag) (h:Heap):Prop where
 at_:∀x∈cO,∀c T,W.tabIn K x=some (c,T)->W.codeHdIn K c T=true/\h.get? T=some {cls:=.none,data:=.fields #[]}/\K.lookup T=none
 nd:(cO.filterMap λx=>(W.tabIn K x).map (·.2)).Nodup
def ki.keeps{K:W.Frag}{h h':Heap}(t:ki K h)(k:∀b o,h.get? b=some o->h'.get? b=some o):ki K h':=⟨λx hx c T e=>let ⟨h1,h2,h3⟩:=t.at_ x hx c T e;⟨h1,k _ _ h2,h3⟩,t.nd⟩
structure CZ (P:Pg) (w:World) (K:W.Frag):Prop where
 hd:∀d∈P.defs,CW K d.1 d.2
 hc:∀d∈P.cons,∃u v,W.nsIn K mainGlobals d.1=some (some u)/\RelV v u/\∀F,bc K F d.2 v
 hb:∀x∈P.cb,W.nsIn K mainGlobals x=some none
 ht:∀d∈P.tabs,AN K w.params d.1 d.2
 hcl:∀d∈P.cls,K9 K d.1 d.2 P.flds
 hct:∀d∈P.cP,uD K w.params d.1 d.2
 WU:∀x∈P.pK,La K x
 hbm:P.pK≠[]->CY K
def uE:Value->List Addr
 | .ref a=>[a]
 | _=>[]
def qm:Option Obj->List Addr
 | some ⟨_,_,.dict es _,_⟩=>es.toList.flatMap λe=>uE e.val
 | some ⟨_,_,.func fd,_⟩=>uE fd.code
 | some ⟨_,_,.cls cd,_⟩=>cd.ns::cd.mro.flatMap uE
 | _=>[]
def AO:Obj->Bool
 | ⟨.none,none,.fields vs,sl⟩=>vs.isEmpty&&sl.isEmpty
 | _=>false
def fragOf(h:Heap):List Addr->W.Frag
 | []=>[]
 | a::r=>match h.get? a with
  | some o=>if AO o=true then fragOf h r else(a,o)::fragOf h r
  | none=>fragOf h r
theorem fx(h:Heap):∀(as:List Addr) (b:Addr) (o:Obj),(fragOf h as).lookup b=some o->h.get? b=some o/\AO o=false
 | [],_,_,e=>nomatch e
 | a::r,b,o,e=>by
  unfold fragOf at e;split at e
  ·rename_i o' ho;split at e
   ·exact fx h r b o e
   ·rename_i ht;rw[gi]at e;cases z:b==a with
    | true =>
     rw[z]at e;cases e;rw[aH z];exact⟨ho,by simpa using ht⟩
    | false =>
     rw[z]at e;exact fx h r b o e
  ·exact fx h r b o e
theorem AQ(h:Heap)(as:List Addr):(fragOf h as).In h:=λb o e=>(fx h as b o e).1
theorem zg(h:Heap){b:Addr}{o:Obj}(h1:h.get? b=some o)(h2:AO o=false):∀as:List Addr,b∈as->(fragOf h as).lookup b=some o
 | a::r,hb=>by
  unfold fragOf;by_cases e:b=a
  ·subst e;rw[h1];show(if AO o=true then _ else _:W.Frag).lookup b=_
   rw[h2,if_neg cE,gi,gh]
  ·have ih:=zg h h1 h2 r ((aX.mp hb).resolve_left e);split
   ·split
    ·exact ih
    ·rw[gi,bW.mpr e];exact ih
   ·exact ih
theorem lL{h:Heap}{as bs:List Addr}{b:Addr}{o:Obj}(e:(fragOf h as).lookup b=some o)(hb:b∈bs):(fragOf h bs).lookup b=some o:=zg h (fx h as b o e).1 (fx h as b o e).2 bs hb
def Yg:Option Obj->List Addr
 | some ⟨_,_,.cls cd,_⟩=>[cd.ns]
 | _=>[]
def Lb(h:Heap)(a:Addr):List Addr:=a::(qm (h.get? a)++(Yg (h.get? a)).flatMap λb=>(qm (h.get? b)).flatMap λc=>c::qm (h.get? c))
def dA(h:Heap):W.Frag:=fragOf h (mainGlobals::(qm (h.get? mainGlobals)).flatMap (Lb h))
def GR(K:W.Frag)(x:Str):Option FuncData:=match W.nsIn K mainGlobals x with
 | some (some (.ref f))=>(match K.lookup f with
  | some ⟨_,_,.func fd,_⟩=>(match W.codeIn K fd.code x with
   | true=>some {fd with kwdefaults:=.none,doc:=.none,pyModule:=.none,annotations:=none,code:=.none,closureTuple:=.none}
   | false=>none)
  | _=>none)
 | _=>none
def C1(h:Heap)(x:Str):Option FuncData:=match W.nsIn (fragOf h [mainGlobals]) mainGlobals x with
 | some (some (.ref f))=>(match(fragOf h [f]).lookup f with
  | some ⟨_,_,.func fd,_⟩=>(match W.codeIn (fragOf h (uE fd.code)) fd.code x with
   | true=>some {fd with kwdefaults:=.none,doc:=.none,pyModule:=.none,annotations:=none,code:=.none,closureTuple:=.none}
   | false=>none)
  | _=>none)
 | _=>none
def C2{h:Heap}{x:Str}{v:FuncData}(e:C1 h x=some v):GR (dA h) x=some v:=by
 unfold C1 at e;split at e
 ·rename_i f hf;split at e
  ·rename_i oc od fd wD hl;split at e
   ·rename_i hc;have hg:W.nsIn (dA h) mainGlobals x=some (some (.ref f))/\f∈qm (h.get? mainGlobals):=by
     unfold W.nsIn at hf ⊢;split at hf
     ·rename_i gc gd es gn gs hk;have k2:(dA h).lookup mainGlobals=_:=lL hk dc;rw[k2,(fx _ _ _ _ hk).1];refine⟨hf,?_⟩;split at hf
      ·rename_i en Yh;have hv:en.val=.ref f:=bt (bt hf);exact sj.mpr ⟨en,List.mem_of_find?_eq_some Yh,by rw[hv];exact dc⟩
      ·split at hf<;>cases hf
     ·cases hf
    have mf:∀b∈Lb h f,b∈mainGlobals::(qm (h.get? mainGlobals)).flatMap (Lb h):=λb hb=>da _ (sj.mpr ⟨f,hg.2,hb⟩)
    have k3:(dA h).lookup f=some ⟨oc,od,.func fd,wD⟩:=lL hl (mf f dc);have k4:W.codeIn (dA h) fd.code x=true:=by
     unfold W.codeIn at hc ⊢;split at hc
     ·rename_i c Cz;split at hc
      ·rename_i cc cdd vs csl hk;have:(dA h).lookup c=_:=lL hk (mf c (da _ (nh _ (by rw[(fx _ _ _ _ hl).1];show c∈uE fd.code;rw[Cz];exact dc))))
       rw[this];exact hc
      ·cases hc
     ·cases hc
    unfold GR;rw[hg.1];dsimp only
    rw[k3];dsimp only
    rw[k4];exact e
   ·cases e
  ·cases e
 ·cases e
def C3(x:Str)(st:Stmt):FuncData:=W.fnOf x x (fW st) (cW st) (aA st) .none .none .none .none none .none .none
def GS{K:W.Frag}{x:Str}{st:Stmt}(h:GR K x=some (C3 x st)):∃f fd,W.nsIn K mainGlobals x=some (some (.ref f))/\AM K x x st f fd:=by
 unfold GR at h;split at h
 ·rename_i f hf;split at h
  ·rename_i oc od fd wD hl;split at h
   ·rename_i hc;have h:=bt h;obtain⟨a1,a2,a3,a4,a5,a6,a7,a8,a9,Yi,Yj,Yk,Yl,Ym,Yn⟩:=fd;unfold C3 at h;simp only[FuncData.mk.injEq]at h;obtain⟨e1,e2,e3,e4,e5,e6,e7,e8,-,-,-,-,-,-,Pt⟩:=h;subst e1 e2 e3 e4 e5 e6 e7 e8 Pt;exact⟨f,_,hf,CV hl hc (by unfold W.keepIn;dsimp only;rw[hl])⟩
   ·cases h
  ·cases h
 ·cases h
def zh(K:W.Frag)(g:Addr)(d:Str×PV):Bool:=match W.nsIn K g d.1 with
 | some (some (.int j _))=>(match d.2 with | .int i=>i==j | _=>false)
 | some (some (.str y _))=>(match d.2 with | .str x=>x==y | _=>false)
 | some (some (.ref a))=>(match K.lookup a with
  | some ⟨.type t,none,.seq us _,_⟩=>(match d.2 with | .nd .aq ps=>(t=="tuple")&&(sM ps us.toList&&decide (us.toList.length<=100)) | _=>false)
  | _=>false)
 | _=>false
def uF{K:W.Frag}{g:Addr}{x:Str}{p:PV}(h:zh K g (x,p)=true):∃u v,W.nsIn K g x=some (some u)/\RelV v u/\∀F,bc K F p v:=by
 unfold zh at h;dsimp only at h
 split at h
 ·rename_i j t hn;split at h
  ·obtain rfl:=aH h;exact GQ hn
  ·cases h
 ·rename_i y t hn;split at h
  ·obtain rfl:=aH h;exact GP hn
  ·cases h
 ·rename_i a hn;split at h
  ·rename_i t dd us n sl hl;split at h
   ·rw[aC,aC]at h;obtain⟨h1,h2,h3⟩:=h;obtain rfl:=aH h1;obtain⟨us⟩:=us;exact GO hn hl h2 (eS h3)
   ·cases h
  ·cases h
 ·cases h
def C4(K:W.Frag)(x:Str):Bool:=match W.nsIn K mainGlobals x with
 | some none=>true
 | _=>false
def C5{K:W.Frag}{x:Str}(h:C4 K x=true):W.nsIn K mainGlobals x=some none:=by
 unfold C4 at h;split at h
 ·assumption
 ·cases h
abbrev OV:=Option (Option Value)
def zi(e:DictEntry):Option Str×Int:=(match e.key with
 | .str x _=>some x
 | _=>none,e.hash)
def C6(K:W.Frag)(a:Addr)(d:Str×Str):Bool:=match W.nsIn K a d.1,W.nsIn K mainGlobals d.2 with
 | some (some (.ref f)),some (some (.ref g))=>f==g
 | _,_=>false
def C7(K:W.Frag)(T:Str)(rows:List (Str×Str)):Option (Value×Option Addr×Array (Option Value)×List (Option Str×Int)×Bool):=match W.nsIn K mainGlobals T with
 | some (some (.ref a))=>(match K.lookup a with
  | some ⟨c,dd,.dict es _,sl⟩=>some (c,dd,sl,es.toList.map zi,rows.all (C6 K a))
  | _=>none)
 | _=>none
def xD(P:Params)(rows:List (Str×Str)):Option (Value×Option Addr×Array (Option Value)×List (Option Str×Int)×Bool):=some (.type "dict",none,#[],rows.map (λd=>(some d.1,PyData.keyHash P d.1)),true)
theorem nL{β:Type}{P:Params}:∀{es:List DictEntry} {rows:List (Str×β)},es.map zi=rows.map (λd=>(some d.1,PyData.keyHash P d.1))->W.KeysLit P es
 | [],_,_=>trivial
 | _::_,[],h=>by cases h
 | e::es,d::rows,h=>by
  rw[aO,aO,xw]at h;obtain⟨h1,h2⟩:=h;refine⟨?_,nL h2⟩;unfold zi at h1;rw[jF]at h1;obtain⟨h3,h4⟩:=h1;split at h3
  ·grind
  ·cases h3
def C8{K:W.Frag}{a:Addr}{d:Str×Str}(h:C6 K a d=true):∃f,W.nsIn K a d.1=some (some (.ref f))/\W.nsIn K mainGlobals d.2=some (some (.ref f)):=by
 unfold C6 at h;split at h
 ·grind
 ·cases h
def C9{K:W.Frag}{P:Params}{T:Str}{rows:List (Str×Str)}(h:C7 K T rows=xD P rows):AN K P T rows:=by
 unfold C7 xD at h;split at h
 ·rename_i a hn;split at h
  ·rename_i c dd es n sl hl;have h:=bt h;simp only[jF]at h;obtain⟨rfl,rfl,rfl,h4,h5⟩:=h;exact T7 hn hl (nL h4) λd hd=>C8 (d9.mp h5 d hd)
  ·cases h
 ·cases h
abbrev GU:=Option (Value×Option Addr×Array (Option Value)×List (Option Str×Int)×Bool)
def xE(K:W.Frag)(f:Addr)(qual:Str):Option FuncData:=match K.lookup f with
 | some ⟨_,_,.func fd,_⟩=>(match W.codeIn K fd.code qual with
  | true=>some {fd with kwdefaults:=.none,doc:=.none,pyModule:=.none,annotations:=none,code:=.none,closureTuple:=.none}
  | false=>none)
 | _=>none
def Dc(x qual:Str)(st:Stmt):FuncData:=W.fnOf x qual (fW st) (cW st) (aA st) .none .none .none .none none .none .none
def AR{K:W.Frag}{x qual:Str}{st:Stmt}{f:Addr}(h:xE K f qual=some (Dc x qual st)):∃fd,AM K x qual st f fd:=by
 unfold xE at h;split at h
 ·rename_i oc od fd wD hl;split at h
  ·rename_i hc;have h:=bt h;obtain⟨a1,a2,a3,a4,a5,a6,a7,a8,a9,Yi,Yj,Yk,Yl,Ym,Yn⟩:=fd;unfold Dc at h;simp only[FuncData.mk.injEq]at h;obtain⟨e1,e2,e3,e4,e5,e6,e7,e8,-,-,-,-,-,-,Pt⟩:=h;subst e1 e2 e3 e4 e5 e6 e7 e8 Pt;exact⟨_,CV hl hc (by unfold W.keepIn;dsimp only;rw[hl])⟩
  ·cases h
 ·cases h
abbrev Ld:=Option (Bool×OV×List OV×Option FuncData)
def Dd(K:W.Frag)(flds:List Str)(C:Str):Ld:=match W.nsIn K mainGlobals C with
 | some (some (.ref a))=>(match W.findIn K (.ref a) "__init__" with
  | some (some (.ref f))=>some (W.makesIn K a&&(W.isFn K (.ref f)&&(W.keepIn K (.ref a)&&(W.plainGet K a Str.empty&&(W.hasDictIn K a&&W.plainOver K a)))),W.findIn K (.ref a) "__setattr__",flds.map (λg=>W.findIn K (.ref a) g),xE K f (C++".__init__"))
  | _=>none)
 | _=>none
def xF(flds:List Str)(C:Str)(st:Stmt):Ld:=some (true,some (some (.builtin "object.__setattr__")),flds.map (λ_=>some none),some (Dc "__init__" (C++".__init__") st))
def sN:List Str->Bool
 | []=>true
 | x::r=>!r.contains x&&sN r
theorem qo:∀{l:List Str},sN l=true->l.Nodup
 | [],_=>lF
 | x::r,h=>by
  simp only[sN,aC,xh,List.contains_eq_mem,decide_eq_false_iff_not]at h;exact iG.mpr ⟨h.1,qo h.2⟩
def T8:Option NameKind->Bool
 | some .local=>true
 | some .cell=>true
 | _=>false
def Pu:NameKind->Bool
 | .free=>false
 | _=>true
def Pw:ScopeKind->Bool
 | .function=>true
 | _=>false
def GV(st:Stmt):Bool:=Pw (aA st).kind&&(!(aA st).isCoroutine&&(!(aA st).isGenerator&&(sN (bS st)&&((params st).all (λx=>T8 ((aA st).names.lookup x))&&(aA st).names.all λy=>Pu y.2))))
def De{st:Stmt}(h:GV st=true):cV (bS st) (params st) (aA st):=by
 unfold GV at h;rw[aC,aC,aC,aC,aC]at h;obtain⟨h1,h2,h3,h4,h5,h6⟩:=h;refine⟨?_,by grind,by grind,qo h4,?_,λx hx=>?_,λy hy=>?_⟩
 ·cases z:(aA st).kind<;>rw[z]at h1<;>first | rfl | cases h1
 ·exact List.take_left
 ·have k:=d9.mp h5 x hx;cases z:(aA st).names.lookup x with
  | none=>rw[z]at k;cases k
  | some b =>
   rw[z]at k;cases b<;>first | exact .inl rfl | exact .inr rfl | cases k
 ·have k:=d9.mp h6 y hy;intro z;rw[z]at k;cases k
def zj(P:Pg):Prop:=∀(kV doc pm:Value) (an:Option Addr) (eE ct:Value) (u:Nat->Value),
 P.defs.map (λd=>bindArgs (W.fnOf d.1 d.1 (fW d.2) (cW d.2) (aA d.2) .none kV doc pm an eE ct) ⟨(List.range (params d.2).length).map u,[]⟩)=P.defs.map λd=>pure ((params d.2).zip ((List.range (params d.2).length).map u))
def uG{us:List Value}{n:Nat}(h:us.length=n):(List.range n).map (λi=>us.getD i .none)=us:=by
 subst h;apply List.ext_getElem
 ·simp
 ·intro i h1 h2;simp[h2]
def Le{K:W.Frag}{x:Str}{st:Stmt}{f:Addr}{fd:FuncData}{P:Pg}(hb:zj P)(hd:(x,st)∈P.defs)(F:AM K x x st f fd)(us:List Value)(hl:us.length=(params st).length):bindArgs fd ⟨us,[]⟩=pure ((params st).zip us):=by
 obtain⟨oc,od,kV,doc,pm,an,eE,ct,wD,rfl,lk,Cz⟩:=F.ex;have k:=jA.mp (hb kV doc pm an eE ct λi=>us.getD i .none) (x,st) hd
 dsimp only at k
 rw[uG hl]at k;exact k
def GW(P:Pg):Prop:=∀(kV doc pm:Value) (an:Option Addr) (eE ct:Value) (u:Nat->Value),
 P.cls.map (λd=>bindArgs (W.fnOf "__init__" (d.1++".__init__") (fW d.2) (cW d.2) (aA d.2) .none kV doc pm an eE ct) ⟨(List.range (params d.2).length).map u,[]⟩)=P.cls.map λd=>pure ((params d.2).zip ((List.range (params d.2).length).map u))
def Df{K:W.Frag}{P:Pg}{C:Str}{st:Stmt}(Lf:GV st=true)(hb:GW P)(hd:(C,st)∈P.cls)(h:Dd K P.flds C=xF P.flds C st):K9 K C st P.flds:=by
 unfold Dd xF at h;split at h
 ·rename_i a hn;split at h
  ·rename_i f hf;have h:=bt h;simp only[jF,aC]at h;obtain⟨⟨h1,h2,h3,h4,h5,h6⟩,h7,h8,h9⟩:=h;obtain⟨fd,F⟩:=AR h9;refine⟨a,f,fd,hn,⟨h1,hf,h2,h3⟩,⟨h4,h5,h6,h7⟩,λg hg=>jA.mp h8 g hg,F,λus hl=>?_,De Lf⟩
   obtain⟨oc,od,kV,doc,pm,an,eE,ct,wD,rfl,lk,Cz⟩:=F.ex;have k:=jA.mp (hb kV doc pm an eE ct λi=>us.getD i .none) (C,st) hd
   dsimp only at k
   rw[uG hl]at k;exact k
  ·cases h
 ·cases h
def xG(K:W.Frag)(h:Heap)(x:Str):Bool:=match W.tabIn K x with
 | none=>true
 | some (c,T)=>W.codeHdIn K c T&&(match h.get? T with
  | some o=>AO o
  | _=>false)
def Lg(K:W.Frag):Bool:=match W.nsIn K mainGlobals "__builtins__" with
 | some (some (.ref bm))=>!(bm==builtinsNs)&&(!(bm==mainGlobals)&&(match K.lookup bm with
  | some ⟨.type m,some d,.plain,_⟩=>(m=="module")&&(d==builtinsNs)
  | _=>false))
 | _=>false
def Dg(P:Pg)(K:W.Frag)(h:Heap):Bool:=cO.all (xG K h)&&(decide (cO.filterMap λx=>(W.tabIn K x).map (·.2)).Nodup&&((P.pK.isEmpty || Lg K)&&P.pK.all λx=>cO.contains x&&(W.tabIn K x).isSome))
def qp{h:Heap}{x:Str}{c T:Addr}(e:xG (dA h) h x=true)(t:W.tabIn (dA h) x=some (c,T)):W.codeHdIn (dA h) c T=true/\h.get? T=some {cls:=.none,data:=.fields #[]}/\(dA h).lookup T=none:=by
 unfold xG at e;rw[t]at e;simp only[aC]at e;obtain⟨h1,h3⟩:=e;split at h3
 ·rename_i o ho;refine⟨h1,?_,?_⟩
  ·unfold AO at h3;split at h3
   ·grind
   ·cases h3
  ·cases k:(dA h).lookup T with
   | none=>rfl
   | some o' =>
    obtain⟨k1,k2⟩:=fx _ _ _ _ k;rw[ho]at k1;cases k1;rw[h3]at k2;cases k2
 ·cases h3
def GX{K:W.Frag}(e:Lg K=true):CY K:=by
 unfold Lg at e;split at e
 ·rename_i bm hb;simp only[aC]at e;obtain⟨h1,h2,h3⟩:=e;split at h3
  ·rename_i m d sl z;rw[aC]at h3;obtain rfl:=aH h3.1;obtain rfl:=aH h3.2;exact⟨bm,_,hb,by grind,by grind,z,rfl,rfl,rfl⟩
  ·cases h3
 ·cases e
def Dh{P:Pg}{h:Heap}(e:Dg P (dA h) h=true):ki (dA h) h/\(∀x∈P.pK,La (dA h) x)/\(P.pK≠[]->CY (dA h)):=by
 unfold Dg at e;simp only[aC]at e;obtain⟨h1,h2,h3,h4⟩:=e;have all:=d9.mp h1;refine⟨⟨λx hx c T t=>qp (all x hx) t,eS h2⟩,λx hx=>?_,λz=>?_⟩
 ·have:=d9.mp h4 x hx;rw[aC]at this;have hm:x∈cO:=by grind
  cases t:W.tabIn (dA h) x with
  | none=>rw[t]at this;cases this.2
  | some cT=>exact⟨hm,cT.1,cT.2,t,(qp (all x hm) t).1⟩
 ·rcases Bool.or_eq_true_iff.mp h3 with y | y
  ·grind
  ·exact GX y
def xH(K:W.Frag)(T:Str)(rows:List (Str×PV)):GU:=match W.nsIn K mainGlobals T with
 | some (some (.ref a))=>(match K.lookup a with
  | some ⟨c,dd,.dict es _,sl⟩=>some (c,dd,sl,es.toList.map zi,!(a==sysModules)&&rows.all (zh K a))
  | _=>none)
 | _=>none
def sO(P:Params)(rows:List (Str×PV)):GU:=some (.type "dict",none,#[],rows.map (λd=>(some d.1,PyData.keyHash P d.1)),true)
def AS{K:W.Frag}{P:Params}{T:Str}{rows:List (Str×PV)}(h:xH K T rows=sO P rows):uD K P T rows:=by
 unfold xH sO at h;split at h
 ·rename_i a hn;split at h
  ·rename_i c dd es n sl hl;have h:=bt h;simp only[jF]at h;obtain⟨rfl,rfl,rfl,h4,h5⟩:=h;rw[aC,xh]at h5;exact⟨a,es,n,h5.1,hn,hl,nL h4,λd hd=>uF (d9.mp h5.2 d hd)⟩
  ·cases h
 ·cases h
abbrev Lh:=List (Option FuncData)×Bool×List GU×List Ld×List GU
def xI(P:Pg)(K:W.Frag)(hp:Heap):Lh:=(P.defs.map (λd=>C1 hp d.1),P.cons.all (zh K mainGlobals)&&(P.cb.all (C4 K)&&Dg P K hp),P.tabs.map (λd=>C7 K d.1 d.2),P.cls.map (λd=>Dd K P.flds d.1),P.cP.map λd=>xH K d.1 d.2)
def xJ(P:Pg)(w:World):Lh:=(P.defs.map (λd=>some (C3 d.1 d.2)),true,P.tabs.map (λd=>xD w.params d.2),P.cls.map (λd=>xF P.flds d.1 d.2),P.cP.map λd=>sO w.params d.2)
def AU{P:Pg}{w:World}(Lf:P.defs.all (λd=>GV d.2)=true)(Px:zj P)(Di:P.cls.all (λd=>GV d.2)=true)(Dj:GW P){hp:Heap}(h:xI P (dA hp) hp=xJ P w):CZ P w (dA hp)/\ki (dA hp) hp:=by
 unfold xI xJ at h;simp only[jF]at h;obtain⟨h1,h2,h5,h6,h7⟩:=h;rw[aC,aC]at h2;obtain⟨l1,l2,l3⟩:=Dh h2.2.2;refine⟨⟨λd hd=>?_,λd hd=>uF (d9.mp h2.1 d hd),λx hx=>C5 (d9.mp h2.2.1 x hx),λd hd=>C9 (jA.mp h5 d hd),λd hd=>Df (d9.mp Di d hd) Dj hd (jA.mp h6 d hd),λd hd=>AS (jA.mp h7 d hd),l2,l3⟩,l1⟩
 obtain⟨f,fd,a,F⟩:=GS (C2 (jA.mp h1 d hd));exact⟨⟨f,fd,a,F,λus hl=>Le Px hd F us hl⟩,De (d9.mp Lf d hd)⟩
def GY(P:Pg)(Lf:P.defs.all (λd=>GV d.2)=true)(Px:zj P)(Di:P.cls.all (λd=>GV d.2)=true)(Dj:GW P):W.Hook :=
 ⟨Lh,λs=>xI P (dA s.heap) s.heap,λw=>xJ P w,λw h=>∃K:W.Frag,K.In h/\CZ P w K/\ki K h,λw s e=>⟨_,AQ _ _,AU Lf Px Di Dj e⟩,λ_ _ _ ⟨K,a,b,c⟩ k=>⟨K,a.keeps k,b,c.keeps k⟩⟩
def AV(p:Program)(row:String)(b:Bool)(N:Nat)(w:World):Option Shared:=(W.fencedOpening treeTable p w N).bind λs₀=>W.topFrom treeTable p (w.withFollow row b) N s₀
def AW{p q:Program}{loose:List Str}{Xt:Shared->Bool}{α:Type}{Yf:Shared->α}{Ya:World->α}{N:Nat}{g0:Bool}(row:String)
  (h1:∀w,(AV p row false N w).map (W.openSeen q loose (importedModules p.main.body) Xt g0)=some (W.openGood q loose)) (h2:∀w,(AV p row true N w).map (W.openSeen q loose (importedModules p.main.body) Xt g0)=some (W.openGood q loose))
  (h3:∀w,(AV p row false N w).map Yf=some (Ya (w.withFollow row false))) (h4:∀w,(AV p row true N w).map Yf=some (Ya (w.withFollow row true))):W.LeftO p q loose Xt Yf Ya N g0:=by
 refine W.LeftO.of_split row λw=>?_
 obtain⟨sA,a1,a2⟩:=iy.mp (h1 w);obtain⟨sB,b1,b2⟩:=iy.mp (h2 w);obtain⟨sC,c1,c2⟩:=iy.mp (h3 w);obtain⟨sD,d1,d2⟩:=iy.mp (h4 w);rw[a1]at c1;rw[b1]at d1;cases c1;cases d1;obtain⟨s0,f0,tA⟩:=m8.mp a1;obtain⟨s1,f1,tB⟩:=m8.mp b1;rw[f0]at f1;cases f1;rw[f0,xy,tA,tB,xy,xy,a2,b2,c2,d2]
end L2.U
noncomputable section
namespace L2.U
open PySem PySem.W
def topQ(p:Program)(w:World)(m:Nat)(OY:Option Value):Nat->SharedT->Thread->Option SharedT
 | 0,_,_=>none
 | n+1,s,t=>match through t with
  | true=>some s
  | false=>match Fast.tw6613529449190102663 m OY t with
   | false=>none
   | true=>match Fast.tw10156331382660048174 (Fast.tw11892475500146522536 Fast.tw14364793385576792824) p w s t with
    | some (s',t')=>topQ p w m OY n s' t'
    | none=>none
theorem topQ_of{p:Program}{w:World}{m:Nat}{OY:Option Value}:∀{n:Nat} {s r:SharedT} {t:Thread},topQ p w m OY n s t=some r->topRun treeTable p w m OY n s.abs t=some r.abs
 | 0,_,_,_,h=>by cases h
 | n+1,s,r,t,h=>by
  unfold topQ at h;unfold topRun;rw[<-Fast.te6613529449190102663,<-Fast.te10156331382660048174,<-Fast.te11892475500146522536,<-Fast.te14364793385576792824]at h;cases a:through t with
  | true=>rw[a]at h;cases h;rfl
  | false =>
   rw[a]at h;cases b:stepOk m OY t with
   | false=>rw[b]at h;cases h
   | true =>
    rw[b]at h;cases c:stepT (denote treeTable) p w s t with
    | none=>rw[c]at h;cases h
    | some y=>rw[c]at h;rw[stepT_spec c];exact topQ_of h
def Py(l:List Obj):BT:=(l.foldl (fun(x:BT×Nat) o=>(x.1.ins x.2 o,x.2+1)) (.nil,0)).1
theorem GZ(P:Params):absHeap (Py (boot_heap P).objs.toList) (boot_heap P).objs.size (boot_heap P).life=boot_heap P:=by kernel_rfl
theorem G0(P:Params):(boot_heap P).isNs mainGlobals=true:=by kernel_rfl
def Dk(p:Program)(row:String)(b:Bool)(N:Nat)(w:World)(os:OsState):Option SharedT :=
 topQ p (w.withFollow row b) (boot_heap w.params).objs.size ((boot_heap w.params).nsMap mainGlobals "__annotations__") N ⟨Py (boot_heap w.params).objs.toList,(boot_heap w.params).objs.size,(boot_heap w.params).life,.mk [],boot_drawn,boot_toks,os⟩ (topStub p)
def OZ(p:Program)(w:World)(s:SharedT):Bool:=staticsOk (importedModules p.main.body) (boot_heap w.params) s.abs.heap&&namesBound p s.abs.heap&&gensDone s.abs&&laidKept (boot_heap w.params) s.abs.heap
theorem mQ{p:Program}{row:String}{b:Bool}{N:Nat}{w:World}{α:Type}{g:Shared->α}{a:α}(e:opening p=plainProg p.main.scope.names)(hN:Nat.ble 600 N=true)(f:∀s,fenceModules? p s=some s)
 (h:∀os,(Dk p row b N w os).map (λs=>(OZ p w s,g s.abs))=some (true,a)):(AV p row b N w).map g=some a:=by
 obtain⟨⟨hp,gs,d,k,os⟩,h1,h2⟩:=iy.mp (boot_open e hN f w);obtain⟨rfl,rfl,rfl,rfl⟩:hp=boot_heap w.params/\gs=.mk []/\d=boot_drawn/\k=boot_toks:=by simpa using h2
 obtain⟨s,h3,h4⟩:=iy.mp (h os);have h5:=topQ_of h3;unfold SharedT.abs at h5;rw[GZ]at h5;unfold AV;rw[h1];show Option.map g (topFrom treeTable p (w.withFollow row b) N _)=_;unfold topFrom;dsimp only
 rw[G0,h5];have h6:=(Prod.mk.inj h4).1;unfold OZ SharedT.abs at h6;show Option.map g (match staticsOk (importedModules p.main.body) (boot_heap w.params) (absHeap s.tree s.n s.life)&&namesBound p (absHeap s.tree s.n s.life)&&gensDone ⟨absHeap s.tree s.n s.life,s.gens,s.drawn,s.toks,s.os⟩&&laidKept (boot_heap w.params) (absHeap s.tree s.n s.life)with | true=>_ | false=>_)=_
 rw[h6];exact eX some (Prod.mk.inj h4).2
theorem Li{p q:Program}{loose:List Str}{Xt:Shared->Bool}{α:Type}{Yf:Shared->α}{Ya:World->α}{N:Nat}{g0:Bool}(row:String)(e:opening p=plainProg p.main.scope.names)(hN:Nat.ble 600 N=true)(f:∀s,fenceModules? p s=some s)
 (h0:∀w os,(Dk p row false N w os).map (λs=>(OZ p w s,openSeen q loose (importedModules p.main.body) Xt g0 s.abs,Yf s.abs))=some (true,openGood q loose,Ya (w.withFollow row false)))
 (h1:∀w os,(Dk p row true N w os).map (λs=>(OZ p w s,openSeen q loose (importedModules p.main.body) Xt g0 s.abs,Yf s.abs))=some (true,openGood q loose,Ya (w.withFollow row true))):LeftO p q loose Xt Yf Ya N g0:=by
 have fs:∀{β γ δ:Type} {o:Option δ} {a:δ->β} {b:δ->γ} {x:β} {y:γ},o.map (λs=>(a s,b s))=some (x,y)->o.map a=some x/\o.map b=some y:=λ{_ _ _ o _ _ _ _} h=>by
  cases o with
  | none=>cases h
  | some s=>cases h;exact⟨rfl,rfl⟩
 exact AW row (λw=>(fs (mQ e hN f λos=>h0 w os)).1) (λw=>(fs (mQ e hN f λos=>h1 w os)).1) (λw=>(fs (mQ e hN f λos=>h0 w os)).2) λw=>(fs (mQ e hN f λos=>h1 w os)).2
end L2.U
namespace cA
open PySem L2 L2.U
def top(i:Nat):Stmt:=PySem.Challenge.pw_lendrule_k18_rows_judged.main.body.getD i (.Pass ⟨0,0,0,0⟩)
def Yo(i j:Nat):Stmt:=match top i with | .ClassDef _ _ _ b _ _ _ _ _ _ _=>b.getD j (.Pass ⟨0,0,0,0⟩) | s=>s
abbrev G1:Stmt:=Yo 27 0
def aS:Pg where
 defs:=([("is_whole",8),("is_shape",9),("count_leaves",10),("count_in_parts",11),("leaves",12),("check_part",13),("part",14),("paths",15),("is_copied",16),("is_right",26),("is_tuple_from",28),("is_tuple_of",29),("is_name",30),("are_apart",31),("is_holder_kind",32),("is_kind",33),("is_holder",34),("shape_of",35),("has_kind",36),("is_head",37),("are_named",38),("is_result",39),("are_sources",40),("may_be_run",41),("is_spot",42),("is_path",43),("spot_shape",44),("is_at",45),("is_number_spot",46),("is_part_spot",47),("is_owned_part",48),("is_written_part",49),("may_be_written",50),("is_operand",51),("are_rows",52),("is_row",53),("is_put",54),("is_target",55),("is_set",56),("is_fill",57),("is_copy",58),("are_alike",59),("is_move",60),("is_drop",61),("is_lend",62),("is_sole",63),("is_call",64),("takes_back",65),("is_if",66),("is_jump",67),("is_go",68),("is_say",69),("is_give",70),("_law_cell_at",74),("_law_mixed",75),("_law_names",76),("_law_many",77),("_law_table",78),("_law_held",79),("_law_spots",80),("_law_ten",81),("_law_called",82),("_law_back",83),("_law_heads",84),("_law_turned",85),("_law_spot",86),("_law_operand",87),("_law_name",88),("_law_call_row",89),("_law_thing_row",90),("_law_any_row",91),("_law_shape_at",92),("_law_is_number",93),("_law_written",94),("_law_thing_fits",95),("_law_taken",96),("_law_call_fits",97),("_law_fits",98),("law",99)]:List (String×Nat)).map λd=>(d.1,top d.2)
 cons:=[("MOST_DEEP",.int 3),("MOST_LEAVES",.int 8),("MOST_PARTS",.int 4),("LONGEST_STRIP",.int 8),("MOST_SIGNS",.int 8),("MOST_FUNCTIONS",.int 6),("MOST_PARAMS",.int 4),("MOST_LETS",.int 8),("MOST_ROWS",.int 32),("HOLDER_WORDS",.aq [(.str "lent"),(.str "sole")]),("SIGNS",.aq [(.str "+"),(.str "-"),(.str "*")]),("NUM",.aq [(.str "num")])]
 cb:=["all","bool","dict","enumerate","int","isinstance","len","list","range","set","str","sum","tuple","zip"]
 tabs:=[("CHECKS",[("put","is_put"),("set","is_set"),("fill","is_fill"),("copy","is_copy"),("move","is_move"),("drop","is_drop"),("lend","is_lend"),("sole","is_sole"),("call","is_call"),("if","is_if"),("go","is_go"),("say","is_say"),("give","is_give")])]
 cls:=[("Scene",G1)]
 flds:=["kinds","result","size","heads"]
 cP:=[("LENGTHS",[("put",.int 3),("set",.int 5),("fill",.int 3),("copy",.int 3),("move",.int 3),("drop",.int 2),("lend",.int 3),("sole",.int 3),("call",.int 4),("if",.int 4),("go",.int 2),("say",.int 2),("give",.int 2)])]
 pK:=[]
 Pq:=[("leaves",[("told",1)]),("paths",[("told",1)]),("_law_names",[("_law_found",1)]),("_law_spots",[("_law_found",1)]),("_law_ten",[("_law_some",1)]),("_law_called",[("_law_some",1)]),("_law_call_row",[("_law_args",1)])]
section
end
end cA
noncomputable section
namespace cA
open PySem L2 L2.U
theorem Lf:aS.defs.all (λd=>GV d.2)=true:=by kernel_rfl
theorem Px:zj aS:=by
 intro kV doc pm an eE ct u;kernel_rfl
theorem Di:aS.cls.all (λd=>GV d.2)=true:=by kernel_rfl
theorem Dj:GW aS:=by
 intro kV doc pm an eE ct u;kernel_rfl
abbrev pp:Program:=W.OpenLaw.prog PySem.Challenge.rw_lendrule_k18_rows_judged
def qv:Program:=W.view pp [99]
def lo:List Str:=pp.boundNames.filter (· != "law")
def Xt(s:Shared):Bool:=W.xlAt qv [] s&&W.recOk (W.RowW.records (W.OpenRow.toRowW (W.OpenLaw.row PySem.Challenge.rw_lendrule_k18_rows_judged))) s
abbrev hk:W.Hook:=GY aS Lf Px Di Dj
theorem Yp(w:World)(os:OsState):(Dk pp "special-get-raises" false 5000 w os).map (λs=>(OZ pp w s,W.openSeen qv lo (importedModules pp.main.body) Xt true s.abs,W.Hook.obs hk s.abs))=some (true,W.openGood qv lo,W.Hook.val hk (w.withFollow "special-get-raises" false)):=by kernel_rfl
theorem Yq(w:World)(os:OsState):(Dk pp "special-get-raises" true 5000 w os).map (λs=>(OZ pp w s,W.openSeen qv lo (importedModules pp.main.body) Xt true s.abs,W.Hook.obs hk s.abs))=some (true,W.openGood qv lo,W.Hook.val hk (w.withFollow "special-get-raises" true)):=by kernel_rfl
theorem Yr:(W.OpenLaw.row PySem.Challenge.rw_lendrule_k18_rows_judged).wellSaid=true:=by kernel_rfl
theorem ws:W.OpenLaw.wellSaid PySem.Challenge.rw_lendrule_k18_rows_judged=true:=by
 unfold W.OpenLaw.wellSaid;rw[Yr];kernel_rfl
end cA
open PySem PySem.W PyProof.Rows PySem.Calls
set_option maxRecDepth 100000 in
set_option maxHeartbeats 0 in
theorem cA.i8(hc:∀d:DefRec,d.name="law"->d.params.defaults=[]->W.WalkO cA.qv cA.lo (XL cA.qv []) (Hook.says cA.hk) (W.OpenRow.toRowW (W.OpenLaw.row PySem.Challenge.rw_lendrule_k18_rows_judged)) d [] (λf vs=>PySem.call f vs)):PySem.Challenge.rw_lendrule_k18_rows_judged.Holds:=by
 w_on;refine W.holds_law cA.ws λYs=>?_
 refine W.holds_open (q:=cA.qv) (loose:=cA.lo) (Xt:=cA.Xt) (XP:=XL cA.qv []) (Yf:=Hook.obs cA.hk) (Ya:=Hook.val cA.hk) (YP:=Hook.says cA.hk) (N:=5000) (L2.U.Li "special-get-raises" (by kernel_rfl) (by decide) (λ_=>rfl) cA.Yp cA.Yq) (Hook.of _) (Hook.keeps _) (λs e=>xl_of s (nj.mp e).1) XL.keeps (by rfl) (by rfl) (by rfl) (λs e=>recFacts_of (nj.mp e).2) (by rfl) (by first | assumption | decide +kernel) (by decide +kernel) ⟨rfl,rfl,rfl,rfl,rfl,by decide +kernel⟩ ?hw (hc _ rfl rfl)
 case hw=>w_witness2
end
namespace L2
open PySem PySem.Spec PyProof.Rows
def qr:cz->Value->Bool
 | .inl k,v=>Value.isInt k v
 | .inr x,v=>Value.isStrOf x v
def T9(w:World):cz->Int
 | .inl k=>hashInt k
 | .inr x=>hashStr w x
theorem b6:∀{k:cz} {v:Value},qr k v=true->(∃i t,k=Sum.inl i/\v=Value.int i t)\/(∃x t,k=Sum.inr x/\v=Value.str x t)
 | .inl i,v,h=>by
  obtain⟨t,e⟩:=Value.isInt_shape h;exact .inl ⟨i,t,rfl,e⟩
 | .inr x,v,h=>by
  obtain⟨t,e⟩:=Value.isStrOf_shape h;exact .inr ⟨x,t,rfl,e⟩
def AX(i:Int)(t:Tok):qr (.inl i) (.int i t)=true:=by simp[qr,Value.isInt]
def AY(x:Str)(t:Tok):qr (.inr x) (.str x t)=true:=by simp[qr,Value.isStrOf]
def Lj(a b:Int):decide ((Sum.inl a:cz)=Sum.inl b)=(a==b):=by
 grind
def Lk(a b:Str):decide ((Sum.inr a:cz)=Sum.inr b)=decide (a=b):=by
 grind
def Ll(a:Int)(b:Str):decide ((Sum.inl a:cz)=Sum.inr b)=false:=by grind
def Lm(a:Str)(b:Int):decide ((Sum.inr a:cz)=Sum.inl b)=false:=by grind
def br(prog:Program)(w:World):PySem.KeyKind prog w cz where
 is:=qr
 hash:=T9 w
 inj:=λv a b ha hb=>by
  rcases b6 ha with⟨i,t,rfl,rfl⟩ | ⟨x,t,rfl,rfl⟩
  ·rcases b6 hb with⟨j,u,rfl,e⟩ | ⟨y,u,rfl,e⟩
   ·injection e with e1 _;rw[e1]
   ·exact nomatch e
  ·rcases b6 hb with⟨j,u,rfl,e⟩ | ⟨y,u,rfl,e⟩
   ·exact nomatch e
   ·injection e with e1 _;rw[e1]
 byValue:=λk v h=>by
  rcases b6 h with⟨i,t,rfl,rfl⟩ | ⟨x,t,rfl,rfl⟩<;>rfl
 pyHash:=λhv h=>by
  rcases b6 hv with⟨i,t,rfl,rfl⟩ | ⟨x,t,rfl,rfl⟩
  ·exact wpAny_pyHash_int h
  ·exact wpAny_pyHash_str h
 eqBool:=λhu hv h=>by
  rcases b6 hu with⟨i,t,rfl,rfl⟩ | ⟨x,t,rfl,rfl⟩
  ·rcases b6 hv with⟨j,u,rfl,rfl⟩ | ⟨y,u,rfl,rfl⟩
   ·rw[Lj]at h;exact wpAny_eqBool_int h
   ·rw[Ll]at h;exact SeqAt.EqAt.int_str i t y u _ _ _ _ h
  ·rcases b6 hv with⟨j,u,rfl,rfl⟩ | ⟨y,u,rfl,rfl⟩
   ·rw[Lm]at h;exact SeqAt.EqAt.str_int x t j u _ _ _ _ h
   ·rw[Lk]at h;exact wpAny_eqBool_str h
 «strs» := λk x t v h=>by
  rcases b6 h with⟨i,u,rfl,e⟩ | ⟨y,u,rfl,e⟩
  ·exact nomatch e
  ·injection e with e1 _
   subst e1;cases v<;>rfl
def uH(prog:Program)(w:World)(i:Int)(t:Tok):(br prog w).is (.inl i) (.int i t)=true:=AX i t
def uI(prog:Program)(w:World)(x:Str)(t:Tok):(br prog w).is (.inr x) (.str x t)=true:=AY x t
def Vals.length(r:Vals xs us):xs.length=us.length:=gM r
theorem Vals.get:∀{xs:List V} {us:List Value} {i:Nat} {x:V},Vals xs us->xs[i]?=some x->∃u,us[i]?=some u/\RelV x u
 | _,_,_,_,.nil,e=>by simp at e
 | _,_,0,_,.cons r _,e=>by grind
 | _,_,i+1,x,.cons _ t,e=>by
  obtain⟨u,h1,h2⟩:=Vals.get t (by simpa using e)
  exact⟨u,by grind,h2⟩
theorem Vals.set(r:RelV x u):∀{xs:List V} {us:List Value} (i:Nat),Vals xs us->Vals (xs.set i x) (us.set i u)
 | _,_,_,.nil=>.nil
 | _,_,0,.cons _ t=>.cons r t
 | _,_,i+1,.cons q t=>.cons q (Vals.set r i t)
theorem Vals.append:∀{xs ys:List V} {us ws:List Value},Vals xs us->Vals ys ws->Vals (xs++ys) (us++ws)
 | _,_,_,_,.nil,s=>s
 | _,_,_,_,.cons r t,s=>.cons r (Vals.append t s)
theorem Vals.take:∀{xs:List V} {us:List Value} (n:Nat),Vals xs us->Vals (xs.take n) (us.take n)
 | _,_,0,_=>.nil
 | _,_,_+1,.nil=>.nil
 | _,_,n+1,.cons r t=>.cons r (Vals.take n t)
theorem Vals.drop:∀{xs:List V} {us:List Value} (n:Nat),Vals xs us->Vals (xs.drop n) (us.drop n)
 | _,_,0,r=>r
 | _,_,_+1,.nil=>.nil
 | _,_,n+1,.cons _ t=>Vals.drop n t
def Vals.none_of:∀{xs:List V} {us:List Value} {i:Nat},Vals xs us->xs[i]?=none->us[i]?=none:=λ{xs us i} r e=>by
 have h1:=r.length;have h2:=gg.mp e;exact gg.mpr (by lia)
def sP:Option V->Option Value->Prop
 | some v,some u=>RelV v u
 | none,none=>True
 | _,_=>False
def KV{κ:Type}:List (κ×V)->List (κ×Value)->Prop:=Paired fun(p:κ×V) (q:κ×Value)=>p.1=q.1/\RelV p.2 q.2
def bZ(H:Hp)(a:Addr)(o:HO):Hp:=λb=>if b=a then some o else H b
def au:bZ H a o a=some o:=by unfold bZ;rw[if_pos rfl]
def aI(h:b≠a):bZ H a o b=H b:=by unfold bZ;rw[if_neg h]
def cu{H:Hp}{a b:Addr}{o:HO}(h:H a=some o)(h':H b=none):a≠b:=by
 grind
def mB(h:Heap)(a:Addr)(ai:Array Value):Prop:=∃o,h.get? a=some o/\o.cls=.type "tuple"/\(∃n,o.data=.seq ai n)/\o.dict=none
def mB.new(h:Heap)(ai:Array Value):mB (h.push {cls:=.type "tuple",data:=.seq ai}) h.objs.size ai:=⟨_,aY _ rfl,rfl,⟨_,rfl⟩,rfl⟩
def mB.is(t:mB h a ai):IsTup h a ai:=let ⟨o,e,c,n,_⟩:=t;⟨o,e,c,n⟩
section
variable (P:Program) (w:World)
def eL(H:Hp)(h:Heap)(a:Addr):HO->Prop
 | .lst xs=>xs.length<=sizeLine/\∃(ai:List Value) (n:Nat),Vals xs ai/\h.get? a=some {cls:=.type "list",data:=.seq ai.toArray n}
 | .aq xs=>xs.length<=sizeLine/\∃ai:List Value,Vals xs ai/\mB h a ai.toArray
 | .dK kvs=>kvs.length<=sizeLine/\(a==sysModules)=false/\∃vs,KV kvs vs/\h.DictOf (br P w) a vs
 | .dT xs=>xs.length<=sizeLine/\(a==sysModules)=false/\∃o es ep,h.get? a=some o/\o.ExactDict/\o.data=.dict es ep/\es.toList=xs.map (entryOfKey (tupleKind (br P w)))/\(xs.map (·.1)).Nodup
 | .set S n=>h.SetOf (intKind P w) a S n
 | .ins C dx fs=>H dx=some (.own a)/\fs.length<=1000/\dx≠a/\h.get? a=some (W.instObj C dx) /\
   ∃mA,h.Ns1 dx mA/\(∀f,sP (fs.lookup f) (mA f))/\PySem.Within mA (fs.map (·.1))
 | .own _=>∃o,h.get? a=some o
 | .xd fs=>∃mA,h.Ns1 a mA/\∀f,sP (fs.lookup f) (mA f)
 | .Tc lo hi=>∃t u v,h.get? a=some {cls:=.type "range",data:=.fields #[.int lo t,.int hi u,.int 1 v]}
 | .uC o u=>h.get? a=some o/\eL H h a u
 | .fQ q=>∃ps:Array Value,h.get? a=some {cls:=.none,data:=.fields ps}/\TriplesOk ps.toList/\∀(pos:Pos) (cv:Value),codeAmong pos ps.toList=some cv ->
   ∃(c:Addr) (oc:Obj) (u:HO) (vs:Array Value) (t:Tok),cv=.ref c/\H c=some (.uC oc u)/\oc.data=.fields vs/\vs[1]?=some (.str q t)
 | .Tb f x=>h.get? a=some (W.methodObj (.ref f) (.ref x))
 | .ext φ=>φ h/\(∃o,h.get? a=some o)/\∀h1 h2:Heap,φ h1->(∀o,h1.get? a=some o->h2.get? a=some o)->φ h2
def j7(H:Hp)(h:Heap):Prop:=∀a o,H a=some o->eL P w H h a o
end
section
variable {P:Program} {w:World} {H H':Hp} {h h':Heap} {a:Addr} {o:HO}
def eL.lt(x:eL P w H h a o):a<h.objs.size:=by
 cases o with
 | lst xs=>obtain⟨_,_,_,_,e⟩:=x;exact ay e
 | aq xs=>obtain⟨_,_,_,p⟩:=x;exact p.is.lt
 | dK kvs=>obtain⟨_,_,_,_,o,_,_,e,_⟩:=x;exact ay e
 | dT kvs=>obtain⟨_,_,o,_,_,e,_⟩:=x;exact ay e
 | set S n=>obtain⟨o,_,_,_,e,_⟩:=x;exact ay e
 | ins C dx fs=>obtain⟨_,_,_,e,_⟩:=x;exact ay e
 | own y=>obtain⟨_,e⟩:=x;exact ay e
 | xd fs=>obtain⟨_,⟨_,_,_,e,_⟩,_⟩:=x;exact ay e
 | Tc lo hi=>obtain⟨_,_,_,e⟩:=x;exact ay e
 | uC ob u=>obtain⟨e,_⟩:=x;exact ay e
 | fQ q=>obtain⟨_,e,_⟩:=x;exact ay e
 | Tb f y=>exact ay (x)
 | ext φ=>obtain⟨_,⟨_,e⟩,_⟩:=x;exact ay e
def eL.uJ(x:eL P w H h a o)(k:∀b u,(b=a\/H b=some (.own a))->h.get? b=some u->h'.get? b=some u)
  (ho:∀b,H b=some (.own a)->H' b=some (.own a)) (ht:∀b xs,H b=some (.aq xs)->H' b=some (.aq xs)) (hz:∀b ob u,H b=some (.uC ob u)->H' b=some (.uC ob u)):eL P w H' h' a o:=by
 induction o with
 | lst xs=>obtain⟨z,ai,n,r,e⟩:=x;exact⟨z,ai,n,r,k _ _ (.inl rfl) e⟩
 | aq xs=>obtain⟨z,ai,r,ob,e,c⟩:=x;exact⟨z,ai,r,ob,k _ _ (.inl rfl) e,c⟩
 | dK kvs=>obtain⟨z,y,vs,r,ob,es,ep,e,c⟩:=x;exact⟨z,y,vs,r,ob,es,ep,k _ _ (.inl rfl) e,c⟩
 | dT kvs=>obtain⟨z,y,ob,es,ep,e,c⟩:=x;exact⟨z,y,ob,es,ep,k _ _ (.inl rfl) e,c⟩
 | set S n=>obtain⟨ob,es,ep,t,e,c⟩:=x;exact⟨ob,es,ep,t,k _ _ (.inl rfl) e,c⟩
 | ins C dx fs =>
  obtain⟨d,z,ne,e,mA,⟨od,es,ep,e2,c⟩,r⟩:=x;exact⟨ho _ d,z,ne,k _ _ (.inl rfl) e,mA,⟨od,es,ep,k _ _ (.inr d) e2,c⟩,r⟩
 | own y=>obtain⟨ob,e⟩:=x;exact⟨ob,k _ _ (.inl rfl) e⟩
 | xd fs=>obtain⟨mA,⟨od,es,ep,e,c⟩,r⟩:=x;exact⟨mA,⟨od,es,ep,k _ _ (.inl rfl) e,c⟩,r⟩
 | Tc lo hi=>obtain⟨t,u,v,e⟩:=x;exact⟨t,u,v,k _ _ (.inl rfl) e⟩
 | uC ob u ih=>obtain⟨e,q⟩:=x;exact⟨k _ _ (.inl rfl) e,ih q⟩
 | fQ q =>
  obtain⟨ps,e,t,c⟩:=x;exact⟨ps,k _ _ (.inl rfl) e,t,λpos cv z=>let ⟨c,oc,u,vs,tk,h1,h2,h3⟩:=c pos cv z;⟨c,oc,u,vs,tk,h1,hz _ _ _ h2,h3⟩⟩
 | Tb f y =>
  have e:=x;exact k a _ (.inl rfl) e
 | ext φ=>obtain⟨p,⟨o,e⟩,st⟩:=x;exact⟨st _ _ p λo q=>k _ _ (.inl rfl) q,⟨o,k _ _ (.inl rfl) e⟩,st⟩
def j7.lt(x:j7 P w H h)(e:H a=some o):a<h.objs.size:=(x a o e).lt
def j7.fresh(x:j7 P w H h)(e:h.objs.size<=a):H a=none:=by
 cases q:H a with
 | none=>rfl
 | some u=>exact absurd (bN (x.lt q) e) (dv _)
def j7.kept(x:j7 P w H h)(k:∀b u,h.get? b=some u->h'.get? b=some u):j7 P w H h':=λa o e =>
 (x a o e).uJ (λb u _ q=>k b u q) (λ_ q=>q) (λ_ _ q=>q) λ_ _ _ q=>q
def j7.laid(x:j7 P w H h)(k:∀b u,h.get? b=some u->h'.get? b=some u)(hp:h.objs.size<=a)(new:eL P w (bZ H a o) h' a o):j7 P w (bZ H a o) h':=λb u e=>by
 have hn:=x.fresh hp;by_cases hb:b=a
 ·subst hb;rw[au]at e;cases e;exact new
 ·rw[aI hb]at e;exact(x b u e).uJ (λc v _ q=>k c v q) (λc q=>by rw[aI (cu q hn)];exact q) (λc xs q=>by rw[aI (cu q hn)];exact q) λc ob v q=>by rw[aI (cu q hn)];exact q
end
def Rd.ok(r:Rd H a u)(x:j7 P w H h):eL P w H h a u:=by
 rcases r with r | ⟨o,r⟩
 ·exact x a u r
 ·obtain⟨_,q⟩:=x a _ r;exact q
def Td:Option HO->Prop
 | some (.lst _)=>True
 | some (.dK _)=>True
 | some (.dT _)=>True
 | some (.set _ _)=>True
 | some (.ins _ _ _)=>True
 | some (.ext _)=>True
 | _=>False
section
variable {P:Program} {w:World} {H:Hp} {h h':Heap} {x e:Addr} {o':HO}
def j7.write(ok:j7 P w H h)(mu:Td (H x))(he:e=x\/H e=some (.own x))(k:∀b u,b≠e->h.get? b=some u->h'.get? b=some u)(O0:∃u,h'.get? e=some u)
  (new:eL P w (bZ H x o') h' x o'):j7 P w (bZ H x o') h':=λb u q=>by
 have Pz:∀c y,H c=some (.own y)->c≠x:=λc y r z=>by subst z;rw[r]at mu;exact mu
 have Ua:∀c xs,H c=some (.aq xs)->c≠x:=λc xs r z=>by subst z;rw[r]at mu;exact mu
 have Ub:∀c ob v,H c=some (.uC ob v)->c≠x:=λc ob v r z=>by subst z;rw[r]at mu;exact mu
 by_cases hb:b=x
 ·subst hb;rw[au]at q;cases q;exact new
 ·rw[aI hb]at q;by_cases Ln:b=e
  ·have q':H b=some (.own x):=by
    rcases he with z | z
    ·exact absurd (Ln.trans z) hb
    ·rw[Ln];exact z
   rw[q]at q';cases q';obtain⟨v,hv⟩:=O0;exact⟨v,by rw[Ln];exact hv⟩
  ·refine(ok b u q).uJ (λc v hc r=>k c v ?_ r) (λc r=>by rw[aI (Pz c b r)];exact r) (λc xs r=>by rw[aI (Ua c xs r)];exact r) λc ob v r=>by rw[aI (Ub c ob v r)];exact r
   rcases hc with rfl | hc
   ·exact Ln
   ·rintro rfl
    rcases he with z | z
    ·exact Pz c b hc z
    ·rw[hc]at z;cases z;exact hb rfl
end
structure Un (fs ex:List Addr) (H H':Hp) (h h':Heap):Prop where
 keep:∀b o,h.get? b=some o->H b=none->b∉fs->b∉ex->h'.get? b=some o
 slot:∀b o,h.get? b=some o->H b=none->b∈fs->b∉ex->∃sl,h'.get? b=some {o with slots:=sl}
 free:∀b o,h.get? b=some o->H b=none->b∉ex->H' b=none
 there:∀b o,h.get? b=some o->b∉ex->∃o',h'.get? b=some o'
 tups:∀b xs,H b=some (.aq xs)->H' b=some (.aq xs)
 frzs:∀b o u,H b=some (.uC o u)->H' b=some (.uC o u)
 tbls:∀b q,H b=some (.fQ q)->H' b=some (.fQ q)
section
variable {fs Yt ex ex':List Addr} {H H1 H2:Hp} {h h1 h2 h':Heap} {a x e:Addr} {o:HO}
def Un.any(u:Un fs ex H H1 h h1)(q:h.get? b=some ob)(n:H b=none)(hx:b∉ex):∃sl,h1.get? b=some {ob with slots:=sl}:=by
 by_cases hb:b∈fs
 ·exact u.slot b ob q n hb hx
 ·exact⟨ob.slots,u.keep b ob q n hb hx⟩
def Un.trans(a:Un fs ex H H1 h h1)(b:Un fs ex H1 H2 h1 h2):Un fs ex H H2 h h2 where
 keep:=λc ob q n hc hx=>b.keep c ob (a.keep c ob q n hc hx) (a.free c ob q n hx) hc hx
 slot:=λc ob q n hc hx=>by
  obtain⟨sl,e1⟩:=a.slot c ob q n hc hx;obtain⟨PC,e2⟩:=b.slot c _ e1 (a.free c ob q n hx) hc hx;exact⟨PC,e2⟩
 free:=λc ob q n hx=>by
  obtain⟨o',e1⟩:=a.there c ob q hx;exact b.free c o' e1 (a.free c ob q n hx) hx
 there:=λc ob q hx=>by
  obtain⟨o',e1⟩:=a.there c ob q hx;exact b.there c o' e1 hx
 tups:=λc xs q=>b.tups c xs (a.tups c xs q)
 frzs:=λc ob xs q=>b.frzs c ob xs (a.frzs c ob xs q)
 tbls:=λc q e=>b.tbls c q (a.tbls c q e)
def Un.kept(k:∀b u,h.get? b=some u->h'.get? b=some u):Un fs ex H H h h' :=
 ⟨λb ob q _ _ _=>k b ob q,λb ob q _ _ _=>⟨ob.slots,k b ob q⟩,λ_ _ _ n _=>n,λb ob q _=>⟨ob,k b ob q⟩,λ_ _ q=>q,λ_ _ _ q=>q,λ_ _ q=>q⟩
def Un.refl:Un fs ex H H h h:=Un.kept λ_ _ q=>q
def Un.laid(k:∀b u,h.get? b=some u->h'.get? b=some u)(hp:h.objs.size<=a)(hn:H a=none):Un fs ex H (bZ H a o) h h' where
 keep:=λb u q _ _ _=>k b u q
 slot:=λb u q _ _ _=>⟨u.slots,k b u q⟩
 free:=λb u q n _=>by rw[aI (aJ (bN (ay q) hp))];exact n
 there:=λb u q _=>⟨u,k b u q⟩
 tups:=λb xs q=>by rw[aI (cu q hn)];exact q
 frzs:=λb u xs q=>by rw[aI (cu q hn)];exact q
 tbls:=λb ps q=>by rw[aI (cu q hn)];exact q
def Un.write(mu:Td (H x))(he:e=x\/H e=some (.own x))(k:∀b u,b≠e->h.get? b=some u->h'.get? b=some u)(O0:∃u,h'.get? e=some u):Un fs ex H (bZ H x o) h h':=by
 have hx:∀b,H b=none->b≠x:=λb n z=>by subst z;rw[n]at mu;exact mu
 have hb:∀b,H b=none->b≠e:=λb n z=>by
  subst z;rcases he with r | r
  ·exact hx b n r
  ·rw[n]at r;cases r
 have hm:∀b u,H b=some u->¬Td (some u)->b≠x:=λb u q nm z=>by subst z;rw[q]at mu;exact nm mu
 refine⟨λb u q n _ _=>k b u (hb b n) q,λb u q n _ _=>⟨u.slots,k b u (hb b n) q⟩,λb u q n _=>by rw[aI (hx b n)];exact n,λb u q _=>?_,
  λb xs q=>by rw[aI (hm b _ q λz=>z)];exact q,λb u xs q=>by rw[aI (hm b _ q λz=>z)];exact q,λb ps q=>by rw[aI (hm b _ q λz=>z)];exact q⟩
 by_cases Ln:b=e
 ·subst Ln;exact O0
 ·exact⟨u,k b u Ln q⟩
end
def Tf(h:Heap)(H:Hp):List Addr:=(List.range h.objs.size).filter λa=>(H a).isSome
def uK(h:Heap)(H:Hp):Heap:=W.hideAll h (Tf h H)
def AZ(h:Heap)(H:Hp):(uK h H).objs.size=h.objs.size:=W.hideAll_size _ _
def hidT_get(e:h.get? b=some o)(n:H b=none):(uK h H).get? b=some o :=
 W.hideAll_get _ e λhm=>by
  have q:=(fD.mp hm).2;rw[n]at q;simp at q
def of_hidT(e:(uK h H).get? b=some o):h.get? b=some o/\H b=none:=by
 have e':=W.of_hideAll (Tf h H) e;refine⟨e',?_⟩;cases q:H b with
 | none=>rfl
 | some x =>
  have hm:b∈Tf h H:=fD.mpr ⟨gL.mpr (ay e'),by simp[q]⟩
  have z:(uK h H).get? b=none:=W.hideAll_none (Tf h H) hm;rw[z]at e;cases e
structure Mod (K:W.Frag) (mg:Str->Option Value) (base:Heap):Prop where
 kin:K.In base
 glob:base.Ns mainGlobals mg
 blt:∃mb,base.Ns builtinsNs mb/\∀x:Str,x≠"__name__"->mb x=bootBuiltins x
 nolimit:base.NoLimit
structure Cx where
 prog:Program
 w:World
 K:W.Frag
 mg:Str->Option Value
 base:Heap
 A:Around
 N:List Str
 s₀:Shared
 aa:Hp
 env:Env
 aB:List Env
 stack:List Env
 ex:List Addr
 fn:Str->Bool
 calm:Bool
 pn:List (Addr×Obj)
 xe:Value->Shared->Prop
def j8(l:List Env):List Addr:=l.filterMap (·.frame)
abbrev Cx.fs(X:Cx):List Addr:=j8 X.aB
def PD(sc:Scope)(x:Str):Prop:=sc.names.lookup x=some .local\/sc.names.lookup x=some .cell\/sc.names.lookup x=some .free
def J1(sc:Scope)(x:Str):Prop:=sc.names.lookup x=some .local\/sc.names.lookup x=some .cell
def Look(env:Env)(h:Heap)(m:Str->Option Value)(x:Str)(u:Value):Prop :=
 (env.kindOf x=some .local/\m x=some u)\/((env.kindOf x=some .cell\/env.kindOf x=some .free)/\∃c,env.cells.lookup x=some c/\h.IsCell c (some u))
def G3(x:Str):Str:=x++".<locals>."++"<lambda>"
def nM(K:W.Frag)(H:Hp):Prop:=∀x∈cO,∀c T,W.tabIn K x=some (c,T)->H T=some (.fQ (G3 x))
structure Cx.Ok (X:Cx):Prop where
 mod:Mod X.K X.mg X.base
 kind:X.env.scope.kind=.function
 glob:X.env.globals=mainGlobals
 blt:X.env.builtins=builtinsNs
 above:X.s₀.heap.objs.size<=X.env.locals
 inj:∀x y c,X.env.cells.lookup x=some c->X.env.cells.lookup y=some c->x=y
 has:∀x,(X.env.kindOf x=some .cell\/X.env.kindOf x=some .free)->∃c,X.env.cells.lookup x=some c
 cab:∀x c,X.fn x=true->X.env.cells.lookup x=some c->X.s₀.heap.objs.size<=c
 hd:X.calm=true->X.A.handled=none
 frames:X.A.frames=some X.stack
 stk:X.stack=X.aB\/(X.stack=X.env::X.aB/\X.env.frame=some X.env.locals)
 exf:∀b∈X.ex,b≠X.env.locals/\∀x c,X.env.cells.lookup x=some c->c≠b
 bs:∀b o,X.base.get? b=some o->X.s₀.heap.get? b=some o/\X.aa b=none
 bsz:X.base.objs.size<=X.s₀.heap.objs.size
 noex:∀b o,X.base.get? b=some o->b∉X.ex
 exfs:∀b∈X.ex,b∉X.fs
 funs:X.s₀.heap.FunFrames X.base X.aB
 frf:∀b∈X.fs,X.aa b=none
 tabs:nM X.K X.aa
structure Inv (X:Cx) (ae:List (Addr×Obj)) (σ:List (Option V)) (H:Hp) (s:Shared):Prop where
 ok:X.Ok
 os:s.os=X.s₀.os
 bare:AllBare s.gens
 base:Un X.fs X.ex X.aa H X.s₀.heap s.heap
 loc:∃m,s.heap.Ns X.env.locals m/\∀(i:Nat) (x:Str) (v:V),X.N[i]?=some x->σ[i]?=some (some v)->PD X.env.scope x->∃u,RelV v u/\Look X.env s.heap m x u
 cell:∀x c,X.env.cells.lookup x=some c->∃v,s.heap.IsCell c v
 free:H X.env.locals=none
 freeC:∀x c,X.env.cells.lookup x=some c->H c=none
 pin:∀p∈X.pn++ae,s.heap.get? p.1=some p.2/\H p.1=none/\p.1≠X.env.locals/\p.1∉X.fs/\∀v,p.2.data≠.cell v
 hok:j7 X.prog X.w H s.heap
 len:σ.length=X.N.length
section
variable {X:Cx} {ae:List (Addr×Obj)} {σ:List (Option V)} {H H':Hp} {s:Shared} {h':Heap}
def Cx.Ok.Uc(ok:X.Ok)(e:X.base.get? b=some o):b∉X.fs:=λhb=>by
 have:=(ok.funs.mem hb).1;rw[e]at this;cases this
def Inv.bs(I:Inv X ae σ H s):∀b o,X.base.get? b=some o->s.heap.get? b=some o/\H b=none:=λb o e =>
 ⟨I.base.keep b o (I.ok.bs b o e).1 (I.ok.bs b o e).2 (I.ok.Uc e) (I.ok.noex b o e),I.base.free b o (I.ok.bs b o e).1 (I.ok.bs b o e).2 (I.ok.noex b o e)⟩
def Inv.bk(I:Inv X ae σ H s):∀b o,X.base.get? b=some o->s.heap.get? b=some o:=λb o e=>(I.bs b o e).1
def Inv.mod(I:Inv X ae σ H s):Mod X.K X.mg X.base:=I.ok.mod
def Inv.nN(I:Inv X ae σ H s):X.K.In s.heap:=I.ok.mod.kin.keeps I.bk
def Inv.lt(I:Inv X ae σ H s):X.env.locals<s.heap.objs.size:=let ⟨_,hn,_⟩:=I.loc;hn.lt
def Inv.sz(I:Inv X ae σ H s):X.s₀.heap.objs.size<=s.heap.objs.size:=aD I.ok.above (sL I.lt)
def Inv.Ud(I:Inv X ae σ H s){a:Addr}(h:s.heap.objs.size<=a):a∉X.fs:=λhb=>by
 obtain⟨_,o,ho,_⟩:=I.ok.funs.mem hb;exact absurd (bN (ay ho) (aD I.sz h)) (dv _)
def Inv.Lo(I:Inv X ae σ H s):∀x c,X.env.cells.lookup x=some c->c≠X.env.locals:=λx c e z=>by
 obtain⟨v,o,ho,hd⟩:=I.cell x c e;obtain⟨m,⟨o',es,ep,nO,Ue,_⟩,_⟩:=I.loc;rw[z,nO]at ho;cases ho;rw[Ue]at hd;cases hd
def Inv.funs(I:Inv X ae σ H s):s.heap.FunFrames X.base X.aB:=by
 have all:∀l,(∀b∈j8 l,b∈X.fs)->X.s₀.heap.FunFrames X.base l->s.heap.FunFrames X.base l:=by
  intro l;induction l with
  | nil=>intro _ _;trivial
  | cons env r ih =>
   intro hs hl;obtain⟨hk,⟨L,o,hf,hn,ho,hd⟩,hr⟩:=hl;have hL:=hs L (by unfold j8;rw[xb,hf];exact dc)
   obtain⟨sl,e⟩:=I.base.slot L o ho (I.ok.frf L hL) hL λz=>I.ok.exfs L z hL
   exact⟨hk,⟨L,_,hf,hn,e,hd⟩,ih (λb hb=>hs b (by unfold j8;rw[xb,hf];exact da _ hb)) hr⟩
 exact all X.aB (λ_ hb=>hb) I.ok.funs
def Inv.stack(I:Inv X ae σ H s):s.heap.FunFrames X.base X.stack:=by
 rcases I.ok.stk with e | ⟨e,hf⟩
 ·rw[e];exact I.funs
 ·rw[e];obtain⟨m,hn,_⟩:=I.loc;refine .cons (by rw[I.ok.kind];decide) hf hn ?_ I.funs
  exact Heap.get?_none_of_le (aD I.ok.bsz I.ok.above)
def Inv.sQ(I:Inv X ae σ H s):∀b∈j8 X.stack,b∈X.env.locals::X.fs:=λb hb=>by
 rcases I.ok.stk with e | ⟨e,hf⟩
 ·rw[e]at hb;exact da _ hb
 ·rw[e]at hb;unfold j8 at hb;rw[xb,hf]at hb;exact hb
def Inv.sR(I:Inv X ae σ H s):∀b∈j8 X.stack,H b=none:=λb hb=>by
 rcases aX.mp (I.sQ b hb)with e | hb
 ·rw[e];exact I.free
 ·obtain⟨_,o,ho,_⟩:=I.ok.funs.mem hb;exact I.base.free b o ho (I.ok.frf b hb) λz=>I.ok.exfs b z hb
def Inv.tabs(I:Inv X ae σ H s):nM X.K H:=λx hx c T e=>I.base.tbls T _ (I.ok.tabs x hx c T e)
def Inv.step{g':Array GenState}{t':Nat}{d':Drawn}{ch:List Addr}(I:Inv X ae σ H s)
  (J2:∀b∈ch,(b∈X.ex\/X.s₀.heap.objs.size<=b)/\b≠X.env.locals/\(∀x c,X.env.cells.lookup x=some c->c≠b)/\∀p∈X.pn++ae,p.1≠b)
  (keep:∀b o,b≠X.env.locals->b∉X.fs->b∉ch->s.heap.get? b=some o->H b=none->h'.get? b=some o)
  (slot:∀b o,b≠X.env.locals->b∈X.fs->b∉ch->s.heap.get? b=some o->H b=none->∃sl,h'.get? b=some {o with slots:=sl}) (free:∀b o,b∉ch->s.heap.get? b=some o->H b=none->H' b=none)
  (there:∀b o,b∉ch->s.heap.get? b=some o->∃o',h'.get? b=some o')
  (tups:∀b xs,H b=some (.aq xs)->H' b=some (.aq xs)) (frzs:∀b o u,H b=some (.uC o u)->H' b=some (.uC o u)) (tbls:∀b q,H b=some (.fQ q)->H' b=some (.fQ q))
  (ns:∀m,s.heap.Ns X.env.locals m->h'.Ns X.env.locals m) (hok:j7 X.prog X.w H' h') (hg:AllBare g') :
  Inv X ae σ H' {s with heap:=h',gens:=g',drawn:=d',toks:=t'}:=by
 have WV:∀b o,X.s₀.heap.get? b=some o->b≠X.env.locals:=λb o e=>aJ (bN (ay e) I.ok.above)
 have Th:∀b o,X.s₀.heap.get? b=some o->b∉X.ex->b∉ch:=λb o e hx hb=>by
  rcases(J2 b hb).1 with z | z
  ·exact hx z
  ·exact absurd (bN (ay e) z) (dv _)
 have cellK:∀x c,X.env.cells.lookup x=some c->∀v,s.heap.IsCell c v->h'.IsCell c v:=by
  rintro x c e v ⟨o,ho,hd⟩
  have PF:c∉ch:=by grind
  by_cases hc:c∈X.fs
  ·obtain⟨sl,q⟩:=slot c o (I.Lo x c e) hc PF ho (I.freeC x c e);exact⟨_,q,hd⟩
  ·exact⟨o,keep c o (I.Lo x c e) hc PF ho (I.freeC x c e),hd⟩
 refine⟨I.ok,I.os,hg,⟨λb o e n hb hx=>?_,λb o e n hb hx=>?_,λb o e n hx=>?_,λb o e hx=>?_,λb xs e=>tups b xs (I.base.tups b xs e),λb o xs e=>frzs b o xs (I.base.frzs b o xs e),λb ps e=>?_⟩,?_,λx c e=>?_,?_,λx c e=>?_,λp hp=>?_,hok,I.len⟩
 ·exact keep b o (WV b o e) hb (Th b o e hx) (I.base.keep b o e n hb hx) (I.base.free b o e n hx)
 ·obtain⟨sl,e1⟩:=I.base.slot b o e n hb hx;obtain⟨PC,e2⟩:=slot b _ (WV b o e) hb (Th b o e hx) e1 (I.base.free b o e n hx);exact⟨PC,e2⟩
 ·obtain⟨o',e1⟩:=I.base.there b o e hx;exact free b o' (Th b o e hx) e1 (I.base.free b o e n hx)
 ·obtain⟨o',e1⟩:=I.base.there b o e hx;exact there b o' (Th b o e hx) e1
 ·exact tbls b ps (I.base.tbls b ps e)
 ·obtain⟨m,hn,hl⟩:=I.loc;refine⟨m,ns m hn,λi x v e1 e2 e3=>?_⟩
  obtain⟨u,r,l⟩:=hl i x v e1 e2 e3;refine⟨u,r,?_⟩;rcases l with l | ⟨k,c,e,z⟩
  ·exact .inl l
  ·exact .inr ⟨k,c,e,cellK x c e _ z⟩
 ·obtain⟨v,z⟩:=I.cell x c e;exact⟨v,cellK x c e v z⟩
 ·obtain⟨m,⟨o,_,_,ho,_⟩,_⟩:=I.loc;exact free _ o (λz=>(J2 _ z).2.1 rfl) ho I.free
 ·obtain⟨v,o,ho,hd⟩:=I.cell x c e;exact free c o (λz=>(J2 c z).2.2.1 x c e rfl) ho (I.freeC x c e)
 ·obtain⟨e,n,ne,nf,d⟩:=I.pin p hp;have PF:p.1∉ch:=by grind
  exact⟨keep p.1 p.2 ne nf PF e n,free p.1 p.2 PF e n,ne,nf,d⟩
def Inv.un{t':Nat}(I:Inv X ae σ H s)(u:Un X.fs [] H H' s.heap h')(hok:j7 X.prog X.w H' h'):Inv X ae σ H' {s with heap:=h',toks:=t'}:=by
 obtain⟨m,⟨o,es,ep,ho,r⟩,_⟩:=id I.loc;obtain⟨sl,hL⟩:=u.any ho I.free (by simp)
 exact I.step (ch:=[]) (λ_ z=>nomatch z) (λb o _ hb _ e n=>u.keep b o e n hb (by simp)) (λb o _ hb _ e n=>u.slot b o e n hb (by simp)) (λb o _ e n=>u.free b o e n (by simp)) (λb o _ e=>u.there b o e (by simp)) u.tups u.frzs u.tbls (λm' hm=>by
  obtain⟨o',J3,Ug,nO,r'⟩:=hm;rw[ho]at nO;cases nO;exact⟨_,J3,Ug,hL,r'⟩) hok I.bare
def Inv.call{g':Array GenState}{t':Nat}{d':Drawn}{ch:List Addr}(I:Inv X ae σ H s)(u:Un (j8 X.stack) ch H H' s.heap h')(hok:j7 X.prog X.w H' h')(hg:AllBare g')
  (J2:∀b∈ch,(b∈X.ex\/X.s₀.heap.objs.size<=b)/\b≠X.env.locals/\(∀x c,X.env.cells.lookup x=some c->c≠b)/\∀p∈X.pn++ae,p.1≠b) :
  Inv X ae σ H' {s with heap:=h',gens:=g',drawn:=d',toks:=t'}:=by
 obtain⟨m,⟨o,es,ep,ho,r⟩,_⟩:=id I.loc;obtain⟨sl,hL⟩:=u.any ho I.free λz=>(J2 _ z).2.1 rfl
 exact I.step J2 (λb o hL hb hc e n=>u.keep b o e n (λz=>(aX.mp (I.sQ b z)).elim hL hb) hc) (λb o _ _ hc e n=>u.any e n hc) (λb o hc e n=>u.free b o e n hc) (λb o hc e=>u.there b o e hc) u.tups u.frzs u.tbls (λm' hm=>by
  obtain⟨o',J3,Ug,nO,r'⟩:=hm;rw[ho]at nO;cases nO;exact⟨_,J3,Ug,hL,r'⟩) hok hg
def Inv.turned{t':Nat}(I:Inv X ae σ H s)(k:∀b o,b≠it->s.heap.get? b=some o->h'.get? b=some o)(hn:H it=none)(hL:it≠X.env.locals)
  (h1:it∈X.ex\/X.s₀.heap.objs.size<=it) (h2:∀x c,X.env.cells.lookup x=some c->c≠it) (h3:∀p∈X.pn++ae,p.1≠it):Inv X ae σ H {s with heap:=h',toks:=t'}:=by
 have PH:∀b u,H b=some u->b≠it:=λb u e z=>by rw[z,hn]at e;cases e
 refine I.step (ch:=[it]) (λb hb=>?_) (λb o _ _ hc e _=>k b o (λz=>hc (by simp[z])) e) (λb o _ _ hc e _=>⟨o.slots,k b o (λz=>hc (by simp[z])) e⟩) (λ_ _ _ _ n=>n)
  (λb o hc e=>⟨o,k b o (λz=>hc (by simp[z])) e⟩) (λ_ _ e=>e) (λ_ _ _ e=>e) (λ_ _ e=>e) (λm hm=>?_) (λb u e=>?_) I.bare
 ·have e:b=it:=by simpa using hb
  subst e;exact⟨h1,hL,h2,h3⟩
 ·obtain⟨o,es,ep,ho,r⟩:=hm;exact⟨o,es,ep,k _ o (bA hL) ho,r⟩
 ·refine(I.hok b u e).uJ (λc v hc q=>k c v ?_ q) (λ_ q=>q) (λ_ _ q=>q) λ_ _ _ q=>q
  rcases hc with z | z
  ·rw[z];exact PH b u e
  ·exact PH c _ z
def Inv.tok(I:Inv X ae σ H s)(t:Nat):Inv X ae σ H {s with toks:=t}:=I.un Un.refl I.hok
def Inv.kept(I:Inv X ae σ H s)(k:∀b u,s.heap.get? b=some u->h'.get? b=some u):Inv X ae σ H {s with heap:=h',toks:=t'}:=I.un (Un.kept k) (I.hok.kept k)
def Inv.laid{a:Addr}{o:HO}{t':Nat}(I:Inv X ae σ H s)(k:∀b u,s.heap.get? b=some u->h'.get? b=some u)(hp:s.heap.objs.size<=a)(new:eL X.prog X.w (bZ H a o) h' a o) :
  Inv X ae σ (bZ H a o) {s with heap:=h',toks:=t'}:=I.un (Un.laid k hp (I.hok.fresh hp)) (I.hok.laid k hp new)
def Inv.write(I:Inv X ae σ H s)(mu:Td (H x))(he:e=x\/H e=some (.own x))(k:∀b u,b≠e->s.heap.get? b=some u->h'.get? b=some u)(O0:∃u,h'.get? e=some u)
  (new:eL X.prog X.w (bZ H x o) h' x o):Inv X ae σ (bZ H x o) {s with heap:=h',toks:=t'}:=I.un (Un.write mu he k O0) (I.hok.write mu he k O0 new)
def Inv.kj(I:Inv X ae σ H s)(h:∀p∈PJ,s.heap.get? p.1=some p.2/\H p.1=none/\p.1≠X.env.locals/\p.1∉X.fs/\∀v,p.2.data≠.cell v):Inv X PJ σ H s :=
 ⟨I.ok,I.os,I.bare,I.base,I.loc,I.cell,I.free,I.freeC,λp hp=>(iH.mp hp).elim (λz=>I.pin p (nh _ z)) (h p),I.hok,I.len⟩
def uL{N:List Str}(hN:N.Nodup){i j:Nat}(a:N[i]?=some x)(b:N[j]?=some x):i=j:=by
 obtain⟨h1,e1⟩:=dI.mp a;obtain⟨h2,e2⟩:=dI.mp b;exact(List.getElem_inj hN).mp (e1.trans e2.symm)
def store_ok2{M:Model}{A:Around}{E:Value->Shared->Prop}{i:Nat}{v:V}{u:Value}{Q:Unit->Shared->Prop}(I:Inv X ae σ H s)(hN:X.N.Nodup)(hi:X.N[i]?=some x)(hx:J1 X.env.scope x)(r:RelV v u)
  (h:∀s',Inv X ae (σ.set i (some v)) H s'->(∃a,Heap.SameBut a s.heap s'.heap/\(a=X.env.locals\/X.env.cells.lookup x=some a))->Q () s') (hf:X.fn x=true\/X.env.scope.names.lookup x=some .local:=by first | exact .inl rfl | exact .inr rfl | assumption):wpAny M A (storeName X.env x u) Q E s:=by
 obtain⟨m,hn,hl⟩:=id I.loc;have Uh:(X.env.scope.kind==.class || (X.env.scope.kind==.module&&X.env.locals != X.env.globals))=false:=by rw[I.ok.kind];rfl
 have PK:i<σ.length:=by rw[I.len];exact(dI.mp hi).1
 have Lo:=I.Lo;have zk:∀{a:Addr} {h':Heap},(∃o,s.heap.get? a=some o/\H a=none)->Heap.SameBut a s.heap h'->j7 X.prog X.w H h':=λ{a h'} ha hs b ob e=>by
  obtain⟨_,_,uM⟩:=ha;refine(I.hok b ob e).uJ (λc w' hc q=>(hs.2 c ?_).trans q) (λ_ q=>q) (λ_ _ q=>q) λ_ _ _ q=>q
  rintro rfl
  rcases hc with rfl | hc
  ·grind
  ·grind
 rcases hx with hk | hk
 ·refine wpAny_storeName_local hk hn (λh' Yu hs=>?_) Uh
  obtain⟨oL,_,_,Yv,_⟩:=id hn;refine h _ ⟨I.ok,I.os,I.bare,⟨λb o e n hb hx=>?_,λb o e n hb hx=>?_,I.base.free,λb o e hx=>?_,I.base.tups,I.base.frzs,I.base.tbls⟩,⟨_,Yu,λj y v' e1 e2 e3=>?_⟩,λy c e=>?_,I.free,I.freeC,λp hp=>?_,zk ⟨oL,Yv,I.free⟩ hs,by simpa using I.len⟩ ⟨_,hs,.inl rfl⟩
  ·exact(hs.2 b (aJ (bN (ay e) I.ok.above))).trans (I.base.keep b o e n hb hx)
  ·obtain⟨sl,e1⟩:=I.base.slot b o e n hb hx;exact⟨sl,(hs.2 b (aJ (bN (ay e) I.ok.above))).trans e1⟩
  ·obtain⟨o',e1⟩:=I.base.there b o e hx;exact⟨o',(hs.2 b (aJ (bN (ay e) I.ok.above))).trans e1⟩
  ·by_cases hj:j=i
   ·subst hj;rw[hi]at e1;cases e1;rw[rQ PK]at e2;cases e2;exact⟨u,r,.inl ⟨hk,by simp⟩⟩
   ·rw[jy (bA hj)]at e2;obtain⟨u',r',q⟩:=hl j y v' e1 e2 e3;refine⟨u',r',?_⟩;rcases q with⟨k,e⟩ | ⟨k,c,e,z⟩
    ·refine .inl ⟨k,?_⟩;have:y≠x:=λe=>hj (uL hN e1 (e▸hi))
     simp[this,e]
    ·exact .inr ⟨k,c,e,z.sameBut hs (Lo y c e)⟩
  ·obtain⟨w',z⟩:=I.cell y c e;exact⟨w',z.sameBut hs (Lo y c e)⟩
  ·obtain⟨e,n,ne,nf,d⟩:=I.pin p hp;exact⟨(hs.2 p.1 ne).trans e,n,ne,nf,d⟩
 ·have Lp:X.fn x=true:=by
   grind
  obtain⟨c,hc⟩:=I.ok.has x (.inl hk);obtain⟨w',z⟩:=I.cell x c hc;refine wpAny_storeName_cell I.ok.kind hk hc z (λh' CA hs=>?_)
  obtain⟨oc,WW,Yw⟩:=id z;refine h {s with heap:=h'} ⟨I.ok,I.os,I.bare,⟨λb o e n hb hx=>?_,λb o e n hb hx=>?_,I.base.free,λb o e hx=>?_,I.base.tups,I.base.frzs,I.base.tbls⟩,⟨m,hn.sameBut hs (bA (Lo x c hc)),λj y v' e1 e2 e3=>?_⟩,λy c' e=>?_,I.free,I.freeC,λp hp=>?_,zk ⟨oc,WW,I.freeC x c hc⟩ hs,by simpa using I.len⟩ ⟨c,hs,.inr hc⟩
  ·exact(hs.2 b (aJ (bN (ay e) (I.ok.cab x c Lp hc)))).trans (I.base.keep b o e n hb hx)
  ·obtain⟨sl,e1⟩:=I.base.slot b o e n hb hx;exact⟨sl,(hs.2 b (aJ (bN (ay e) (I.ok.cab x c Lp hc)))).trans e1⟩
  ·obtain⟨o',e1⟩:=I.base.there b o e hx;exact⟨o',(hs.2 b (aJ (bN (ay e) (I.ok.cab x c Lp hc)))).trans e1⟩
  ·by_cases hj:j=i
   ·subst hj;rw[hi]at e1;cases e1;rw[rQ PK]at e2;cases e2;exact⟨u,r,.inr ⟨.inl hk,c,hc,CA⟩⟩
   ·rw[jy (bA hj)]at e2;obtain⟨u',r',q⟩:=hl j y v' e1 e2 e3;refine⟨u',r',?_⟩;rcases q with q | ⟨k,c',e,z'⟩
    ·exact .inl q
    ·refine .inr ⟨k,c',e,z'.sameBut hs ?_⟩
     rintro rfl
     exact hj (uL hN e1 (I.ok.inj _ _ _ e hc▸hi))
  ·by_cases O1:c'=c
   ·grind
   ·obtain⟨w2,z2⟩:=I.cell y c' e;exact⟨w2,z2.sameBut hs O1⟩
  ·obtain⟨e,n,ne,nf,d⟩:=I.pin p hp;refine⟨(hs.2 p.1 ?_).trans e,n,ne,nf,d⟩;intro q;rw[q,WW]at e;have q':=bt e;exact d w' (by grind)
def nP(I:Inv X ae σ H s)(hN:X.N.Nodup)(hi:X.N[i]?=some x)(hx:J1 X.env.scope x)(r:RelV v u)
  (h:∀s',Inv X ae (σ.set i (some v)) H s'->Q () s') (hf:X.fn x=true\/X.env.scope.names.lookup x=some .local:=by first | exact .inl rfl | exact .inr rfl | assumption):wpAny M A (storeName X.env x u) Q E s :=
 store_ok2 I hN hi hx r (λs' I' _=>h s' I') hf
def Inv.J4(I:Inv X ae σ H s)(ho:s'.os=s.os)(u:Un (j8 X.stack) ch H H' s.heap s'.heap)(hok:j7 X.prog X.w H' s'.heap)(hg:AllBare s'.gens)
  (J2:∀b∈ch,(b∈X.ex\/X.s₀.heap.objs.size<=b)/\b≠X.env.locals/\(∀x c,X.env.cells.lookup x=some c->c≠b)/\∀p∈X.pn++ae,p.1≠b):Inv X ae σ H' s':=by
 obtain⟨h',g',d',t',o'⟩:=s';have e:=ho;subst e;exact I.call u hok hg J2
end
abbrev XK:=Value->Option Addr->Hp->Prop
abbrev St:=List (Option V)
abbrev VK:=V->Hp->Prop
abbrev TE:=St->Hp->VK->Prop
abbrev TT:=St->Hp->(Bool->Hp->Prop)->Prop
abbrev TA:=St->Hp->(List V->Hp->Prop)->Prop
structure uN where
 nx:St->Hp->Prop
 rt:VK
 bk:St->Hp->Prop:=λ_ _=>False
 ct:St->Hp->Prop:=λ_ _=>False
abbrev TS:=uN->St->Hp->Prop
def EP(X:Cx)(ae:List (Addr×Obj))(σ:St)(Q:VK)(u:Value)(s':Shared):Prop:=∃v H',Inv X ae σ H' s'/\RelV v u/\Q v H'
def TP(X:Cx)(ae:List (Addr×Obj))(σ:St)(Q:Bool->Hp->Prop)(b:Bool)(s':Shared):Prop:=∃H',Inv X ae σ H' s'/\Q b H'
def AP(X:Cx)(ae:List (Addr×Obj))(σ:St)(Q:List V->Hp->Prop)(us:List Value)(s':Shared):Prop:=∃vs H',Inv X ae σ H' s'/\Vals vs us/\Q vs H'
def SP(X:Cx)(ae:List (Addr×Obj))(D:uN)(f:Flow)(s':Shared):Prop :=
 match f with
 | .next=>∃bh H',Inv X ae bh H' s'/\D.nx bh H'
 | .brk=>∃bh H',Inv X ae bh H' s'/\D.bk bh H'
 | .cont=>∃bh H',Inv X ae bh H' s'/\D.ct bh H'
 | .ret u=>∃v bh H',Inv X ae bh H' s'/\RelV v u/\D.rt v H'
def PE(X:Cx)(e:Expr)(t:TE):Prop :=
 ∀(ae:List (Addr×Obj)) (s:Shared) (σ:St) (H:Hp) (Q:VK),Inv X ae σ H s->t σ H Q->wpAny (model X.prog X.w) X.A (eval e X.env) (EP X ae σ Q) X.xe s
def PT(X:Cx)(e:Expr)(t:TT):Prop :=
 ∀(ae:List (Addr×Obj)) (s:Shared) (σ:St) (H:Hp) (Q:Bool->Hp->Prop),Inv X ae σ H s->t σ H Q->wpAny (model X.prog X.w) X.A (isTrue e X.env (eval e X.env)) (TP X ae σ Q) X.xe s
def PW(X:Cx)(e:Expr)(t:TT):Prop :=
 ∀(hZ:Sem Value) (ae:List (Addr×Obj)) (s:Shared) (σ:St) (H:Hp) (Q:Bool->Hp->Prop),Inv X ae σ H s->t σ H Q->wpAny (model X.prog X.w) X.A (isTrue e X.env hZ) (TP X ae σ Q) X.xe s
def PW.pt(h:PW X e t):PT X e t:=h _
def PA(X:Cx)(es:List Expr)(t:TA):Prop :=
 ∀(pos:Pos) (ae:List (Addr×Obj)) (s:Shared) (σ:St) (H:Hp) (Q:List V->Hp->Prop),Inv X ae σ H s->t σ H Q->wpAny (model X.prog X.w) X.A (spliced (backTo pos (starEach es X.env))) (AP X ae σ Q) X.xe s
def PS(X:Cx)(st:Stmt)(t:TS):Prop :=
 ∀(ae:List (Addr×Obj)) (s:Shared) (σ:St) (H:Hp) (D:uN),Inv X ae σ H s->t D σ H->wpAny (model X.prog X.w) X.A (exec st X.env) (SP X ae D) X.xe s
def PSs(X:Cx)(st:List Stmt)(t:TS):Prop :=
 ∀(ae:List (Addr×Obj)) (s:Shared) (σ:St) (H:Hp) (D:uN),Inv X ae σ H s->t D σ H->wpAny (model X.prog X.w) X.A (execs st X.env) (SP X ae D) X.xe s
def thn{α:Type}{t:Sem α}{Q Q':α->Shared->Prop}{M:Model}{A:Around}{E:Value->Shared->Prop}(h:wpAny M A t Q E s)(hQ:∀a s,Q a s->Q' a s):wpAny M A t Q' E s:=nK h hQ λ_ _ x=>x
section
variable {X:Cx}
def Lq(i:Nat):TE:=λσ H Q=>∃v,σ[i]?=some (some v)/\Q v H
def tC(v:V):TE:=λ_ H Q=>Q v H
def pe_var{i:Nat}{x:Str}{pos:Pos}(hN:X.N[i]?=some x)(hv:PD X.env.scope x)(hd:(x==("__debug__":Str))=false:=by decide)(Cz:(x==("__classdict__":Str))=false:=by decide):PE X (.Name x pos) (Lq i):=by
 intro ae s σ H Q I h;obtain⟨v,e,h⟩:=h;obtain⟨m,hn,hl⟩:=I.loc;obtain⟨u,r,l⟩:=hl i x v hN e hv;have i8:EP X ae σ Q u s:=⟨v,H,I,r,h⟩;rcases l with⟨hk,hm⟩ | ⟨hk,c,hc,qt⟩
 ·exact wpAny_Name (wpAny_loadName_local I.ok.kind hk hn hm i8) hd
 ·rcases hk with hk | hk
  ·exact wpAny_Name (wpAny_loadName_cell I.ok.kind hk hc qt i8) hd
  ·exact wpAny_Name (wpAny_loadName_free I.ok.kind hk hc qt i8 Cz) hd
def Lr{i j pos}:PE X (.Constant (.int i) j pos) (tC (.int i)):=λ_ _ _ H _ I h=>wpAny_Constant_int ⟨.int i,H,I.tok _,⟨_,rfl⟩,h⟩
def PL{b j pos}:PE X (.Constant (.bool b) j pos) (tC (.bl b)):=λ_ _ _ H _ I h=>Constant_bool ⟨.bl b,H,I,rfl,h⟩
def Ls{j pos}:PE X (.Constant .none j pos) (tC .aN):=λ_ _ _ H _ I h=>Constant_none ⟨.aN,H,I,rfl,h⟩
def Lu{x j pos}:PE X (.Constant (.str x) j pos) (tC (.str x)):=λ_ _ _ H _ I h=>Calls.Constant_str ⟨.str x,H,I.tok _,⟨_,rfl⟩,h⟩
def Gl(X:Cx)(x:Str):Prop:=X.env.kindOf x=some .globalImplicit
def ld_glob{E:Value->Shared->Prop}{ae:List (Addr×Obj)}{s:Shared}{σ:St}{H:Hp}{x:Str}{u:Value}{pos:Pos}{Q:Value->Shared->Prop}(I:Inv X ae σ H s)(hg:Gl X x)(hm:X.mg x=some u)(h:Q u s)
  (hd:(x==("__debug__":Str))=false:=by decide):wpAny (model X.prog X.w) X.A (eval (.Name x pos) X.env) Q E s :=
 CQ I.ok.kind hg (Calls.loadGlobal_global (by rw[I.ok.glob];exact I.mod.glob.keeps I.bk) hm h) hd
def ld_blt{E:Value->Shared->Prop}{ae:List (Addr×Obj)}{s:Shared}{σ:St}{H:Hp}{x:Str}{u:Value}{pos:Pos}{Q:Value->Shared->Prop}(I:Inv X ae σ H s)(hg:Gl X x)(hm:X.mg x=none)(hv:bootBuiltins x=some u)(h:Q u s)
  (hn:x≠"__name__":=by decide) (hd:(x==("__debug__":Str))=false:=by decide):wpAny (model X.prog X.w) X.A (eval (.Name x pos) X.env) Q E s:=by
 obtain⟨mb,h1,h2⟩:=I.mod.blt;exact CQ I.ok.kind hg (Calls.loadGlobal_builtin (by rw[I.ok.glob];exact I.mod.glob.keeps I.bk) hm (by rw[I.ok.blt];exact h1.keeps I.bk) ((h2 x hn).trans hv) h) hd
def kl(hg:Gl X x)(hm:X.mg x=some u)(r:RelV v u)(hd:(x==("__debug__":Str))=false:=by decide):PE X (.Name x pos) (tC v) :=
 λ_ _ _ H _ I h=>ld_glob I hg hm ⟨v,H,I,r,h⟩ hd
def G4{x:Str}{v:V}{u:Value}{pos:Pos}(hg:Gl X x)(hm:X.mg x=none)(hv:bootBuiltins x=some u)(r:RelV v u)(hn:x≠"__name__":=by decide)(hd:(x==("__debug__":Str))=false:=by decide):PE X (.Name x pos) (tC v) :=
 λ_ _ _ H _ I h=>ld_blt I hg hm hv ⟨v,H,I,r,h⟩ hn hd
variable {a b:Expr} {ta tb:TE} {pos:Pos}
variable {tA Ti:TT} {rest:List Expr}
def Ui(t u:TT):TT:=λσ H Q=>t σ H λc H1=>if c=true then u σ H1 Q else Q false H1
def Yx(t u:TT):TT:=λσ H Q=>t σ H λc H1=>if c=true then Q true H1 else u σ H1 Q
def Uj(t:TT):TT:=λσ H Q=>t σ H λc H1=>Q (!c) H1
def G5(ha:PT X a tA):PW X (.BoolOp .And [a] pos) tA:=by
 intro wh ae s σ H Q I h;refine isTrue_and (thn (ha ae s σ H Q I h) λc s1 e=>?_)
 cases c with
 | true=>exact isTrue_and_nil e
 | false=>exact e
def Lv(ha:PT X a tA):PW X (.BoolOp .Or [a] pos) tA:=by
 intro wh ae s σ H Q I h;refine isTrue_or (thn (ha ae s σ H Q I h) λc s1 e=>?_)
 cases c with
 | false=>exact isTrue_or_nil e
 | true=>exact e
def Lw(ha:PT X a tA)(hb:PW X (.BoolOp .And (b::rest) pos) Ti):PW X (.BoolOp .And (a::b::rest) pos) (Ui tA Ti):=by
 intro wh ae s σ H Q I h;refine isTrue_and (thn (ha ae s σ H _ I h) λc s1 ⟨H1,I1,q1⟩=>?_)
 cases c with
 | true=>exact hb wh ae s1 σ H1 Q I1 q1
 | false=>exact⟨H1,I1,q1⟩
def PM(ha:PT X a tA)(hb:PW X (.BoolOp .Or (b::rest) pos) Ti):PW X (.BoolOp .Or (a::b::rest) pos) (Yx tA Ti):=by
 intro wh ae s σ H Q I h;refine isTrue_or (thn (ha ae s σ H _ I h) λc s1 ⟨H1,I1,q1⟩=>?_)
 cases c with
 | true=>exact⟨H1,I1,q1⟩
 | false=>exact hb wh ae s1 σ H1 Q I1 q1
def Lx(ha:PT X a tA):PT X (.UnaryOp .Not a pos) (Uj tA):=by
 intro ae s σ H Q I h;exact isTrue_not (ha ae s σ H (λc H1=>Q (!c) H1) I h)
def PN(ta:TE):TE:=λσ H Q=>ta σ H λx H1=>∃c,x=.bl c/\Q (.bl (!c)) H1
def Dl{op}(h:PE X a t):PE X (.BoolOp op [a] pos) t:=λae s σ H Q I hw=>BoolOp_one (h ae s σ H Q I hw)
def Ly(ha:PE X a ta):PE X (.UnaryOp .Not a pos) (PN ta):=by
 intro ae s σ H Q I h;refine UnaryOp_ (thn (ha ae s σ H _ I h) λv s1 ⟨x,H1,I1,r1,q1⟩=>?_)
 obtain⟨c,rfl,q1⟩:=q1;cases r1;exact not_of (iC ⟨.bl (!c),H1,I1,rfl,q1⟩)
def Yy(t:TT)(ta tb:TE):TE:=λσ H Q=>t σ H λc H1=>if c=true then ta σ H1 Q else tb σ H1 Q
def Dn(hc:PT X c tA)(ha:PE X a ta)(hb:PE X b tb):PE X (.IfExp c a b pos) (Yy tA ta tb):=by
 intro ae s σ H Q I h;refine wpAny_IfExp (thn (hc ae s σ H _ I h) λd s1 ⟨H1,I1,q1⟩=>?_)
 cases d with
 | true=>exact ha ae s1 σ H1 Q I1 q1
 | false=>exact hb ae s1 σ H1 Q I1 q1
end
def sS(K:W.Frag)(H:Hp)(a:Addr)(xs:List V):Prop :=
 Rd H a (.lst xs) \/
  ∃(o:Obj) (ai:Array Value) (n:Nat),K.lookup a=some o/\o.cls=.type "list"/\o.dict=none/\o.data=.seq ai n/\ai.size<=sizeLine/\Vals xs ai.toList
def gq.sq{K:W.Frag}{H:Hp}{a:Addr}{xs:List V}(h:gq K H a xs):sS K H a xs:=by
 rcases h with h | ⟨ai,n,e,z,r⟩
 ·exact .inl h
 ·exact .inr ⟨_,ai.toArray,n,e,rfl,rfl,rfl,by grind,by grind⟩
def Uk:Value->Option V
 | .none=>some .aN
 | .bool b=>some (.bl b)
 | .int i _=>some (.int i)
 | .str x _=>some (.str x)
 | .bytes b _=>some (.OW b)
 | .float b _=>some (.S8 b)
 | .ref a=>some (.ref a)
 | .type n=>some (.ty n)
 | _=>none
def RelV.abs(r:RelV x u):Uk u=some x:=by
 cases x with
 | aN=>cases r;rfl
 | bl _=>cases r;rfl
 | int _=>obtain⟨t,rfl⟩:=r;rfl
 | str _=>obtain⟨t,rfl⟩:=r;rfl
 | OW _=>obtain⟨t,rfl⟩:=r;rfl
 | S8 _=>obtain⟨t,rfl⟩:=r;rfl
 | ref _=>cases r;rfl
 | ty _=>cases r;rfl
def RelV.inj(r:RelV x u)(q:RelV y u):x=y:=bt (r.abs.symm.trans q.abs)
theorem Vals.inj:∀{xs ys:List V} {us:List Value},Vals xs us->Vals ys us->xs=ys
 | _,_,_,.nil,.nil=>rfl
 | _,_,_,.cons r t,.cons r' t'=>by rw[r.inj r',Vals.inj t t']
section
variable {X:Cx} {ae:List (Addr×Obj)} {σ:St} {H:Hp} {s:Shared} {a:Addr} {xs ys:List V}
def fA.of{K:W.Frag}(h:H a=some (.aq xs)):fA K H a xs:=.inl (.inl h)
def Inv.list(I:Inv X ae σ H s)(h:sS X.K H a xs):∃ai:List Value,Vals xs ai/\PlainL s.heap a ai.toArray/\xs.length<=sizeLine:=by
 rcases h with h | ⟨o,ai,n,hk,hc,hd,hs,hz,r⟩
 ·obtain⟨z,ai,n,r,e⟩:=h.ok I.hok;exact⟨ai,r,⟨_,n,e,rfl,rfl,rfl⟩,z⟩
 ·refine⟨ai.toList,r,⟨o,n,I.nN a o hk,hc,hd,by simp_all⟩,?_⟩
  have e:=r.length;simp only[lr]at e
  lia
def Inv.xK(I:Inv X ae σ H s)(h:fA X.K H a xs):∃ai:List Value,Vals xs ai/\mB s.heap a ai.toArray/\xs.length<=sizeLine:=by
 rcases h with h | ⟨o,ai,n,hk,hc,⟨hs,hd⟩,hz,r⟩
 ·obtain⟨z,ai,r,p⟩:=h.ok I.hok;exact⟨ai,r,p,z⟩
 ·refine⟨ai.toList,r,⟨o,I.nN a o hk,hc,⟨n,by simp_all⟩,hd⟩,?_⟩
  have e:=r.length;simp only[lr]at e
  lia
def Inv.tuple(I:Inv X ae σ H s)(h:fA X.K H a xs):∃ai:List Value,Vals xs ai/\IsTup s.heap a ai.toArray/\xs.length<=sizeLine:=by
 obtain⟨ai,r,p,z⟩:=I.xK h;exact⟨ai,r,p.is,z⟩
def Inv.km(I:Inv X ae σ H s)(h:sS X.K H a xs)(h':sS X.K H a ys):xs=ys:=by
 obtain⟨ai,r,⟨o,n,e,_,_,d⟩,_⟩:=I.list h;obtain⟨mC,r',⟨o',n',e',_,_,d'⟩,_⟩:=I.list h';rw[e]at e';cases e';rw[d]at d';injection d' with d1 _
 have:ai=mC:=by grind
 subst this;exact r.inj r'
def Inv.i9(I:Inv X ae σ H s)(h:fA X.K H a xs)(h':fA X.K H a ys):xs=ys:=by
 obtain⟨ai,r,⟨o,e,_,n,d⟩,_⟩:=I.tuple h;obtain⟨mC,r',⟨o',e',_,n',d'⟩,_⟩:=I.tuple h';rw[e]at e';cases e';rw[d]at d';injection d' with d1 _
 have:ai=mC:=by grind
 subst this;exact r.inj r'
end
section
variable {X:Cx} {st:Stmt} {rest:List Stmt} {t u:TS} {e:Expr} {te:TE} {pos:Pos}
def J5:TS:=λD σ H=>D.nx σ H
def Ul(t u:TS):TS:=λD σ H=>t {D with nx:=u D} σ H
def G6:PSs X [] J5:=λ_ _ σ H _ I h=>sE ⟨σ,H,I,h⟩
def Dp(h1:PS X st t)(h2:PSs X rest u):PSs X (st::rest) (Ul t u):=by
 intro ae s σ H D I h;refine wpAny_execs_cons (thn (h1 ae s σ H {D with nx:=u D} I h) λf s1 q=>?_)
 cases f with
 | next =>
  obtain⟨bh,H',I',q⟩:=q;exact h2 ae s1 bh H' D I' q
 | ret v=>exact q
 | brk=>exact q
 | cont=>exact q
def G7(h1:PS X st t):PSs X [st] t:=by
 intro ae s σ H D I h;refine wpAny_execs_cons (thn (h1 ae s σ H D I h) λf s1 q=>?_)
 cases f with
 | next=>exact sE q
 | ret v=>exact q
 | brk=>exact q
 | cont=>exact q
def Lz:TS:=λD σ H=>D.bk σ H
def PQ:TS:=λD σ H=>D.ct σ H
def G8:PS X (.Pass pos) J5:=λ_ _ σ H _ I h=>wpAny_Pass ⟨σ,H,I,h⟩
def Dq:PS X (.Break pos) Lz:=λ_ _ σ H _ I h=>wpAny_Break ⟨σ,H,I,h⟩
def uO:PS X (.Continue pos) PQ:=λ_ _ σ H _ I h=>wpAny_Continue ⟨σ,H,I,h⟩
def Inv.quiet{ae:List (Addr×Obj)}{σ:St}{H:Hp}{s:Shared}(I:Inv X ae σ H s):interactive X.env=false:=by simp[interactive,I.ok.kind]
def PR(te:TE):TS:=λD σ H=>te σ H λ_ H1=>D.nx σ H1
def G9(he:PE X e te)(hs:swapsWith e none pos.line X.env=pure false:=by rfl):PS X (.Expr e pos) (PR te):=by
 intro ae s σ H D I h;exact wpAny_Expr_any (thn (he ae s σ H _ I h) (by rintro v s1 ⟨x,H1,I1,r1,q1⟩;exact⟨σ,H1,I1,q1⟩)) I.quiet hs
def Um(te:TE):TS:=λD σ H=>te σ H D.rt
def LA(he:PE X e te):PS X (.Return (some e) pos) (Um te):=by
 intro ae s σ H D I h;exact wpAny_Return_some (thn (he ae s σ H _ I h) (by rintro v s1 ⟨x,H1,I1,r1,q1⟩;exact⟨x,σ,H1,I1,r1,q1⟩))
def PU:TS:=λD _ H=>D.rt .aN H
def Ha:PS X (.Return none pos) PU:=λ_ _ σ H _ I h=>wpAny_Return_none ⟨.aN,σ,H,I,rfl,h⟩
def Uo(c:TT)(t u:TS):TS:=λD σ H=>c σ H λb H1=>if b=true then t D σ H1 else u D σ H1
def PX(hc:PT X c tc)(ha:PSs X a t)(hb:PSs X b u):PS X (.If c a b pos) (Uo tc t u):=by
 intro ae s σ H D I h;refine wpAny_If (thn (hc ae s σ H _ I h) λd s1 ⟨H1,I1,q1⟩=>?_)
 cases d with
 | true=>exact ha ae s1 σ H1 D I1 q1
 | false=>exact hb ae s1 σ H1 D I1 q1
end
abbrev TG:=V->St->Hp->(St->Hp->Prop)->Prop
abbrev J6:=List V->St->Hp->(St->Hp->Prop)->Prop
def PG(X:Cx)(target:Expr)(t:TG):Prop :=
 ∀(ae:List (Addr×Obj)) (s:Shared) (σ:St) (H:Hp) (v:V) (u:Value) (Q:St->Hp->Prop),Inv X ae σ H s->RelV v u->t v σ H Q ->
  wpAny (model X.prog X.w) X.A (assign target X.env u) (λ_ s'=>∃bh H',Inv X ae bh H' s'/\Q bh H') X.xe s
def PGs(X:Cx)(ts:List Expr)(t:J6):Prop :=
 ∀(ae:List (Addr×Obj)) (s:Shared) (σ:St) (H:Hp) (vs:List V) (us:List Value) (Q:St->Hp->Prop),Inv X ae σ H s->Vals vs us->t vs σ H Q ->
  wpAny (model X.prog X.w) X.A (assignInOrder ((assignEach ts X.env).map (·.2)) us) (λ_ s'=>∃bh H',Inv X ae bh H' s'/\Q bh H') X.xe s
abbrev Dr:=V->V->V->Hp->(Hp->Prop)->Prop
def Ds(X:Cx)(t:Dr):Prop :=
 ∀(ae:List (Addr×Obj)) (s:Shared) (σ:St) (H:Hp) (o i v:V) (ov iv u:Value) (Q:Hp->Prop),Inv X ae σ H s->RelV o ov->RelV i iv->RelV v u->t o i v H Q ->
  wpAny (model X.prog X.w) X.A (setItem ov iv u) (λ_ s'=>∃H',Inv X ae σ H' s'/\Q H') X.xe s
abbrev WX:=V->V->Hp->VK->Prop
def Yz(X:Cx)(op:Operator)(t:WX):Prop :=
 ∀(ae:List (Addr×Obj)) (s:Shared) (σ:St) (H:Hp) (x y:V) (v u:Value) (Q:VK),Inv X ae σ H s->RelV x v->RelV y u->t x y H Q ->
  wpAny (model X.prog X.w) X.A (inplaceOp op v u) (EP X ae σ Q) X.xe s
section
variable {X:Cx} {pos:Pos}
def gName(i:Nat):TG:=λv σ H Q=>Q (σ.set i (some v)) H
def Hb(hN:X.N.Nodup)(hi:X.N[i]?=some x)(hx:J1 X.env.scope x)(hf:X.fn x=true\/X.env.scope.names.lookup x=some .local:=by first | exact .inl rfl | exact .inr rfl | assumption):PG X (.Name x pos) (gName i):=by
 intro ae s σ H v u Q I r h;exact wpAny_assign_Name (nP I hN hi hx r (λs' I'=>⟨_,H,I',h⟩) hf)
def Up:J6:=λvs σ H Q=>vs=[]/\Q σ H
def PY(t:TG)(u:J6):J6:=λvs σ H Q=>∃v r,vs=v::r/\t v σ H λbh H'=>u r bh H' Q
def Hc:PGs X [] Up:=by
 intro ae s σ H vs us Q I r h;obtain⟨e,h⟩:=h;subst e;cases r;exact assignInOrder_nil ⟨σ,H,I,h⟩
def Dt(h1:PG X e t)(h2:PGs X es u)
  (hs:(assignEach (e::es) X.env).map (·.2)=assign e X.env::(assignEach es X.env).map (·.2):=by rfl):PGs X (e::es) (PY t u):=by
 intro ae s σ H vs us Q I r h;obtain⟨v,vr,e1,h⟩:=h;subst e1;cases r with
 | cons r rr =>
  rw[hs];refine assignInOrder_cons (thn (h1 ae s σ H _ _ _ I r h) λ_ s1 ⟨gT,H1,I1,q1⟩=>?_)
  exact h2 ae s1 gT H1 _ _ Q I1 rr q1
def Uq(K:W.Frag)(n:Nat)(t:J6):TG:=λv σ H Q=>∃a xs,v=.ref a/\fA K H a xs/\xs.length=n/\t xs σ H Q
def LB{es:List Expr}{k:Nat}{t:J6}{n:Nat}(hc:X.calm=true)(h:PGs X es t)
  (hn:(assignEach es X.env).length=n:=by rfl) (j9:(assignEach es X.env).findIdx? (·.1)=none:=by rfl):PG X (.Tuple es k pos) (Uq X.K n t):=by
 intro ae s σ H v u Q I r hw;obtain⟨a,xs,e1,hq,hl,hw⟩:=hw;subst e1;cases r;obtain⟨ai,rv,ht,hz⟩:=I.tuple hq;refine assign_Tuple_tuple (I.ok.hd hc) ht (by simp[hn,<-hl,rv.length]) j9 λh' hx=>?_
 have I1:=I.kept (t':=s.toks) λb o e=>hx b o (aJ (ay e)) e
 exact h ae _ σ H xs _ Q I1 (by grind) hw
def Ur(to ti:TE)(t:Dr):TG:=λv σ H Q=>to σ H λo H1=>ti σ H1 λi H2=>t o i v H2 λH3=>Q σ H3
def LC(ho:PE X o to)(hi:PE X i ti)(hs:Ds X t)
  (ha:∀v,assign (.Subscript o i pos) X.env v=(do
   let ov <-holding [v] (eval o X.env)
   let iv <-holding [v,ov] (eval i X.env)
   standAt pos
   holding [v,ov,iv] (setItem ov iv v)
   release [v,ov,iv] []):=by intro _;rfl):PG X (.Subscript o i pos) (Ur to ti t):=by
 intro ae s σ H v u Q I r h;rw[ha];refine af (bX (thn (ho ae s σ H _ I h) λov s1 ⟨x,H1,I1,r1,q1⟩=>?_))
 refine af (bX (thn (hi ae s1 σ H1 _ I1 q1) λiv s2 ⟨y,H2,I2,r2,q2⟩=>?_))
 refine af (sJ (af (bX (thn (hs ae s2 σ H2 x y v ov iv u _ I2 r1 r2 r q2) λ_ s3 ⟨H3,I3,q3⟩=>?_))))
 exact wpAny_release ⟨σ,H3,I3,q3⟩
def He(te:TE)(g:TG):TS:=λD σ H=>te σ H λx H1=>g x σ H1 D.nx
def Du(he:PE X e te)(hg:PG X tg g)(hs:swapsWithSole [tg] e pos.line X.env=pure false:=by rfl)(hw:swappedStores [tg] e X.env=pure none:=by rfl)
  (h1:(assignEach [tg] X.env).map (·.2)=[assign tg X.env]:=by rfl):PS X (.Assign [tg] e pos) (He te g):=by
 intro ae s σ H D I h;refine wpAny_Assign_stores (thn (he ae s σ H _ I h) λv s1 ⟨x,H1,I1,r1,q1⟩=>?_) hs hw
 rw[h1];exact thn (hg ae s1 σ H1 x v _ I1 r1 q1) λ_ s2 q=>q
def LD(hN:X.N.Nodup)(hi:X.N[i]?=some x)(hx:J1 X.env.scope x)(he:PE X e te)(hs:swapsWith e (some (.Name x pM)) pos.line X.env=pure false:=by rfl)(hf:X.fn x=true\/X.env.scope.names.lookup x=some .local:=by first | exact .inl rfl | exact .inr rfl | assumption) :
  PS X (.Assign [.Name x pM] e pos) (He te (gName i)):=by
 intro ae s σ H D I h;refine wpAny_Assign_Name (thn (he ae s σ H _ I h) λv s1 ⟨y,H1,I1,r1,q1⟩=>?_) hs
 exact nP I1 hN hi hx r1 (λs2 I2=>⟨_,H1,I2,q1⟩) hf
def Us(i:Nat)(te:TE)(ti:WX):TS:=λD σ H=>∃x,σ[i]?=some (some x)/\te σ H λy H1=>ti x y H1 λz H2=>D.nx (σ.set i (some z)) H2
def LF(hN:X.N.Nodup)(hi:X.N[i]?=some x)(hx:J1 X.env.scope x)(he:PE X e te)(ho:Yz X op ti)(hf:X.fn x=true\/X.env.scope.names.lookup x=some .local:=by first | exact .inl rfl | exact .inr rfl | assumption) :
  PS X (.AugAssign (.Name x pM) op e pos) (Us i te ti):=by
 intro ae s σ H D I h;obtain⟨v,e1,h⟩:=h;obtain⟨m,hn,hl⟩:=I.loc;have Hf:PD X.env.scope x:=by rcases hx with k | k;exact .inl k;exact .inr (.inl k)
 obtain⟨u,r,l⟩:=hl i x v hi e1 Hf;refine wpAny_AugAssign_Name ?_;have go:wpAny (model X.prog X.w) X.A (eval e X.env) (λw A0=>wpAny (model X.prog X.w) X.A (inplaceOp op u w) (λr Ut=>wpAny (model X.prog X.w) X.A (storeName X.env x r) (λ_=>SP X ae D .next) X.xe Ut) X.xe A0) X.xe s:=by
  refine thn (he ae s σ H _ I h) λw s1 ⟨y,H1,I1,r1,q1⟩=>?_
  refine thn (ho ae s1 σ H1 v y u w _ I1 r r1 q1) λz s2 ⟨zv,H2,I2,r2,q2⟩=>?_
  exact nP I2 hN hi hx r2 (λs3 I3=>⟨_,H2,I3,q2⟩) hf
 rcases l with⟨hk,hm⟩ | ⟨hk,c,hc,qt⟩
 ·exact wpAny_loadName_local I.ok.kind hk hn hm go
 ·rcases hk with hk | hk
  ·exact wpAny_loadName_cell I.ok.kind hk hc qt go
  ·rcases hx with k | k
   ·have:X.env.scope.names.lookup x=some .free:=hk;rw[k]at this;cases this
   ·have:X.env.scope.names.lookup x=some .free:=hk;rw[k]at this;cases this
end
section
variable {X:Cx} {pos:Pos}
def LG(c:TT)(tb:TS):TS:=λD σ H=>∃W:Nat->St->Hp->Prop,(∃m,W m σ H)/\∀m σ H,W m σ H ->
 c σ H λb H1=>if b=true then ∃N:St->Hp->Prop,(∀bh H',N bh H'->∃m',m'<m/\W m' bh H')/\tb {D with nx:=N,ct:=N,bk:=D.nx} σ H1 else D.nx σ H1
def Dv(hp:PassesOwn (model X.prog X.w) X.A X.env X.xe)(hc:PT X c tc)(hb:PSs X body tb):PS X (.While c body [] pos) (LG tc tb):=by
 intro ae s σ H D I h;obtain⟨W,⟨m0,w0⟩,nQ⟩:=h;refine wpAny_While (codeAny_whileLoop (λn s'=>∃bh H',Inv X ae bh H' s'/\W n bh H') ?_ m0 ⟨σ,H,I,w0⟩)
 rintro n s1 ⟨gT,H1,I1,w1⟩
 refine jD hp (thn (hc ae s1 gT H1 _ I1 (nQ n gT H1 w1)) λb s2 ⟨H2,I2,q2⟩=>?_)
 cases b with
 | true =>
  obtain⟨N,hN,q2⟩:=q2;rw[if_pos rfl];refine jD hp (thn (hb ae s2 gT H2 _ I2 q2) λf s3 q3=>?_)
  cases f with
  | next =>
   obtain⟨mD,H3,I3,n3⟩:=q3;obtain⟨m',hm,w3⟩:=hN mD H3 n3;exact⟨m',hm,mD,H3,I3,w3⟩
  | cont =>
   obtain⟨mD,H3,I3,n3⟩:=q3;obtain⟨m',hm,w3⟩:=hN mD H3 n3;exact⟨m',hm,mD,H3,I3,w3⟩
  | brk=>exact q3
  | ret v=>exact q3
 | false =>
  rw[if_neg cE];exact sE ⟨gT,H2,I2,q2⟩
end
structure It where
 go:Nat->Hp->Prop
 yld:Nat->Hp->V->Hp->Prop
 stop:Nat->Hp->Prop
def nR(X:Cx)(ae:List (Addr×Obj))(H:Hp)(b:Addr):Prop :=
 H b=none/\b≠X.env.locals/\b∉X.fs/\(b∈X.ex\/X.s₀.heap.objs.size<=b)/\(∀x c,X.env.cells.lookup x=some c->c≠b)/\∀p∈X.pn++ae,p.1≠b
def Inv.nS{X:Cx}{ae:List (Addr×Obj)}{σ:St}{H H':Hp}{s:Shared}{b:Addr}(I:Inv X ae σ H s)(hb:s.heap.objs.size<=b)(hn:H' b=none):nR X ae H' b:=by
 refine⟨hn,lI (bN I.lt hb),I.Ud hb,.inr (aD I.sz hb),λx c e z=>?_,λp hp z=>?_⟩
 ·obtain⟨v,q⟩:=I.cell x c e;exact absurd (bN q.lt (by grind)) (dv _)
 ·exact absurd (bN (ay (I.pin p hp).1) (by grind)) (dv _)
structure Turn (P:Program) (w:World) (K:W.Frag) (tg:Expr) (J:It) (fp:List Addr) (it:Addr) (tn:Nat->Heap->Prop):Prop where
 mem:it∈fp
 obj:∀i h,tn i h->∀b∈fp,∃o,h.get? b=some o/\∀v,o.data≠.cell v
 keep:∀i h h',tn i h->(∀b∈fp,∀o,h.get? b=some o->h'.get? b=some o)->tn i h'
 item:∀(X:Cx),X.prog=P->X.w=w->X.K=K->X.calm=true->∀(i:Nat) (ae:List (Addr×Obj)) (s:Shared) (σ:St) (H:Hp) (E:Value->Shared->Prop),Inv X ae σ H s->(∀b∈fp,nR X ae H b)->tn i s.heap->J.go i H ->
  wpAny (model P w) X.A (pyNext (.ref it)) (λr s1=>∃u,r=some u /\
   wpAny (model P w) X.A (letOwnedTupleGo tg (.ref it) u) (λ_ s2=>∃x H',Inv X ae σ H' s2/\RelV x u/\J.yld i H x H'/\tn (i+1) s2.heap/\∀b∈fp,H' b=none) E s1) E s
 done:∀(X:Cx),X.prog=P->X.w=w->X.K=K->X.calm=true->∀(i:Nat) (ae:List (Addr×Obj)) (s:Shared) (σ:St) (H:Hp) (E:Value->Shared->Prop),Inv X ae σ H s->(∀b∈fp,nR X ae H b)->tn i s.heap->J.stop i H ->
  wpAny (model P w) X.A (pyNext (.ref it)) (λr s1=>r=none/\Inv X ae σ H s1) E s
 self:∀(A:Around) (i:Nat) (s:Shared) (Q:Value->Shared->Prop) (E:Value->Shared->Prop),tn i s.heap->Q (.ref it) s->wpAny (model P w) A (pyIter (.ref it)) Q E s
abbrev TI:=St->Hp->(It->Hp->Prop)->Prop
def WY(X:Cx)(ae:List (Addr×Obj))(σ:St)(tg:Expr)(R:It->Hp->Prop)(Uu:Value)(s2:Shared):Prop :=
 ∃(it:Addr) (fp:List Addr) (tn:Nat->Heap->Prop) (J:It) (H':Hp),Uu=.ref it/\Inv X ae σ H' s2/\Turn X.prog X.w X.K tg J fp it tn/\tn 0 s2.heap/\(∀b∈fp,nR X ae H' b)/\R J H'
def PI(X:Cx)(tg iter:Expr)(wi:TI):Prop :=
 ∀(ae:List (Addr×Obj)) (s:Shared) (σ:St) (H:Hp) (R:It->Hp->Prop),Inv X ae σ H s->wi σ H R ->
  wpAny (model X.prog X.w) X.A (eval iter X.env) (λv s1=>wpAny (model X.prog X.w) X.A (pyIter v) (WY X ae σ tg R) X.xe s1) X.xe s
def zl(ho:s.heap.get? it=some o)(hc:o.cls=.type n)(hd:o.data=.fields vs)
  (hn:["enumerate","zip","dict_itemiterator","dict_reverseitemiterator","odict_iterator","itertools.zip_longest","itertools.pairwise"].contains n=false) (hQ:Q () s):wpAny M A (letOwnedTupleGo tg (.ref it) u) Q E s:=by
 unfold letOwnedTupleGo;cases tg<;>first
  | exact ag hQ
  | (cases u<;>first
    | exact ag hQ
    | (refine af (wpAny_load ho ?_)
       rw[hc,hd];show wpAny M A (if(["enumerate","zip","dict_itemiterator","dict_reverseitemiterator","odict_iterator","itertools.zip_longest","itertools.pairwise"].contains n&&vs[0]?==some (rawInt _))=true then _ else _) Q E s
       rw[if_neg (by grind)]
       exact ag hQ))
def Tj(K:W.Frag)(a:Addr):It :=
 ⟨λi H=>∃xs x,sS K H a xs/\xs[i]?=some x,λi H x H'=>H'=H/\∀xs,sS K H a xs->xs[i]?=some x,λi H=>∃xs,sS K H a xs/\xs.length<=i⟩
def Uv(K:W.Frag)(a:Addr):It :=
 ⟨λi H=>∃xs x,fA K H a xs/\xs[i]?=some x,λi H x H'=>H'=H/\∀xs,fA K H a xs->xs[i]?=some x,λi H=>∃xs,fA K H a xs/\xs.length<=i⟩
def PZ(lo:Int)(n:Nat):It:=⟨λi _=>i<n,λi H x H'=>H'=H/\x=.int (lo+i),λi _=>n<=i⟩
def A1{P:Program}{w:World}{K:W.Frag}{tg:Expr}(a it:Addr):Turn P w K tg (Tj K a) [it] it (λi h=>h.IsListIter it a i) where
 mem:=by simp
 obj:=λi h st b hb=>by
  have e:b=it:=by grind
  subst e;obtain⟨o,e,c,d⟩:=st;exact⟨o,e,λv z=>by grind⟩
 keep:=λi h h' st k=>st.at λo e=>k it (by simp) o e
 item:=by
  intro X hP hw hK hc i ae s σ H E I hf st hg;subst hP hw hK;obtain⟨xs,x,hq,hx⟩:=hg;obtain⟨ai,rv,p,hz⟩:=I.list hq;obtain⟨u,hu,ru⟩:=rv.get hx;obtain⟨f0,f1,f2,f3,f4,f5⟩:=hf it (by simp)
  refine wpAny_pyNext_list_item st p.isList (by simpa using hu) λh' bK sb=>?_
  have I1:=I.turned (t':=s.toks) (λb o hb e=>(sb.2 b hb).trans e) f0 f1 f3 f4 f5
  obtain⟨o,e,c,d⟩:=id bK;exact⟨u,rfl,zl e c d (by decide) ⟨x,H,I1,ru,⟨rfl,λys hy=>by rw[I.km hy hq];exact hx⟩,bK,λb hb=>(hf b hb).1⟩⟩
 done:=by
  intro X hP hw hK hc i ae s σ H E I hf st hg;subst hP hw hK;obtain⟨xs,hq,hx⟩:=hg;obtain⟨ai,rv,p,hz⟩:=I.list hq;obtain⟨f0,f1,f2,f3,f4,f5⟩:=hf it (by simp)
  have hl:=rv.length;exact wpAny_pyNext_list_end (I.ok.hd hc) st p.isList (by simp;lia) λh' eb=>⟨rfl,I.turned (λb o hb e=>eb b o hb e) f0 f1 f3 f4 f5⟩
 self:=λ_ _ _ _ _ st h=>wpAny_pyIter_listiter st h
def xM{P:Program}{w:World}{K:W.Frag}{tg:Expr}(a it:Addr):Turn P w K tg (Uv K a) [it] it (λi h=>h.IsTupleIter it a i) where
 mem:=by simp
 obj:=λi h st b hb=>by
  have e:b=it:=by grind
  subst e;obtain⟨o,e,c,d⟩:=st;exact⟨o,e,λv z=>by grind⟩
 keep:=λi h h' st k=>st.at λo e=>k it (by simp) o e
 item:=by
  intro X hP hw hK hc i ae s σ H E I hf st hg;subst hP hw hK;obtain⟨xs,x,hq,hx⟩:=hg;obtain⟨ai,rv,p,hz⟩:=I.tuple hq;obtain⟨u,hu,ru⟩:=rv.get hx;obtain⟨f0,f1,f2,f3,f4,f5⟩:=hf it (by simp)
  refine wpAny_pyNext_tuple_item st (p) (by simpa using hu) λh' bK sb=>?_
  have I1:=I.turned (t':=s.toks) (λb o hb e=>(sb.2 b hb).trans e) f0 f1 f3 f4 f5
  obtain⟨o,e,c,d⟩:=id bK;exact⟨u,rfl,zl e c d (by decide) ⟨x,H,I1,ru,⟨rfl,λys hy=>by rw[I.i9 hy hq];exact hx⟩,bK,λb hb=>(hf b hb).1⟩⟩
 done:=by
  intro X hP hw hK hc i ae s σ H E I hf st hg;subst hP hw hK;obtain⟨xs,hq,hx⟩:=hg;obtain⟨ai,rv,p,hz⟩:=I.tuple hq;obtain⟨f0,f1,f2,f3,f4,f5⟩:=hf it (by simp)
  have hl:=rv.length;exact wpAny_pyNext_tuple_end (I.ok.hd hc) st (p) (by simp;lia) λh' eb=>⟨rfl,I.turned (λb o hb e=>eb b o hb e) f0 f1 f3 f4 f5⟩
 self:=λ_ _ _ _ _ st h=>wpAny_pyIter_tupleiter st h
def xN{P:Program}{w:World}{K:W.Frag}{tg:Expr}(it:Addr)(lo:Int)(n:Nat):Turn P w K tg (PZ lo n) [it] it (λi h=>IsRangeIter h it (lo+(i:Nat)*1) ((n:Int)-(i:Nat)) 1) where
 mem:=by simp
 obj:=λi h st b hb=>by
  grind
 keep:=λi h h' st k=>k it (by simp) _ st
 item:=by
  intro X hP hw hK hc i ae s σ H E I hf st hg;subst hP hw hK;obtain⟨f0,f1,f2,f3,f4,f5⟩:=hf it (by simp)
  have W:=Walks.range (prog:=X.prog) (w:=X.w) (I.ok.hd hc) it lo 1 n;refine W.item i s _ _ hg st λv h' tk hv bK kk=>?_
  obtain⟨t,rfl⟩:=hv;have I1:Inv X ae σ H {s with heap:=h',toks:=tk}:=I.turned (λb o hb e=>kk b o (by grind) e) f0 f1 f3 f4 f5
  refine⟨_,rfl,zl bK rfl rfl (by decide) ⟨.int (lo+i),H,I1,⟨t,?_⟩,⟨rfl,rfl⟩,bK,λb hb=>(hf b hb).1⟩⟩
  rw[Int.mul_one]
 done:=by
  intro X hP hw hK hc i ae s σ H E I hf st hg;subst hP hw hK;obtain⟨f0,f1,f2,f3,f4,f5⟩:=hf it (by simp)
  exact wpAny_pyNext_range_end (I.ok.hd hc) st (by have:n<=i:=hg;lia) λh' eb=>⟨rfl,I.turned (λb o hb e=>eb b o hb e) f0 f1 f3 f4 f5⟩
 self:=λ_ _ _ _ _ st h=>wpAny_pyIter_rangeiter st h
section
variable {X:Cx} {tg:Expr}
def P0(K:W.Frag)(tl:TE):TI:=λσ H R=>tl σ H λx H1=>∃a,x=.ref a/\(∃xs,sS K H1 a xs)/\R (Tj K a) H1
def Uw(K:W.Frag)(tl:TE):TI:=λσ H R=>tl σ H λx H1=>∃a,x=.ref a/\(∃xs,fA K H1 a xs)/\R (Uv K a) H1
def zm{l:Expr}{tl:TE}(hl:PE X l tl):PI X tg l (P0 X.K tl):=by
 intro ae s σ H R I h;refine thn (hl ae s σ H _ I h) λv s1 ⟨x,H1,I1,r1,q1⟩=>?_
 obtain⟨a,e,⟨xs,hq⟩,q⟩:=q1;subst e;cases r1;obtain⟨ai,rv,p,hz⟩:=I1.list hq;refine lx p.isList ?_;refine⟨s1.heap.objs.size,[s1.heap.objs.size],_,_,H1,rfl,I1.kept λb o e=>aj _ e,A1 a _,⟨_,aY _ rfl,rfl,rfl⟩,λb hb=>?_,q⟩
 have e:b=s1.heap.objs.size:=by grind
 subst e;exact I1.nS (ar _) (I1.hok.fresh (ar _))
def Dw{l:Expr}{tl:TE}(hl:PE X l tl):PI X tg l (Uw X.K tl):=by
 intro ae s σ H R I h;refine thn (hl ae s σ H _ I h) λv s1 ⟨x,H1,I1,r1,q1⟩=>?_
 obtain⟨a,e,⟨xs,hq⟩,q⟩:=q1;subst e;cases r1;obtain⟨ai,rv,p,hz⟩:=I1.tuple hq;refine xf (p) ?_;refine⟨s1.heap.objs.size,[s1.heap.objs.size],_,_,H1,rfl,I1.kept λb o e=>aj _ e,xM a _,⟨_,aY _ rfl,rfl,rfl⟩,λb hb=>?_,q⟩
 have e:b=s1.heap.objs.size:=by grind
 subst e;exact I1.nS (ar _) (I1.hok.fresh (ar _))
def uP{ae:List (Addr×Obj)}{σ:St}{H:Hp}{s:Shared}{R:It->Hp->Prop}{E:Value->Shared->Prop}{lo hi:Int}{t u v:Tok}{tk:Nat}(I:Inv X ae σ H s)(h1:-(2^62)<=lo)(h2:lo<2^62)(h3:-(2^62)<=hi)(h4:hi<2^62)
  (q:R (PZ lo (hi-lo).toNat) H):wpAny (model X.prog X.w) X.A (pyIter (.ref s.heap.objs.size)) (WY X ae σ tg R) E {s with heap:=s.heap.push {cls:=.type "range",data:=.fields #[.int lo t,.int hi u,.int 1 v]},toks:=tk}:=by
 refine wpAny_pyIter_range (IsRange.new ..) (small_one h1 h2 h3 h4) ?_;have I1:Inv X ae σ H {s with heap:=s.heap.push {cls:=.type "range",data:=.fields #[.int lo t,.int hi u,.int 1 v]},toks:=tk}:=I.kept λb o e=>aj _ e
 refine⟨(s.heap.push {cls:=.type "range",data:=.fields #[.int lo t,.int hi u,.int 1 v]}).objs.size,[(s.heap.push {cls:=.type "range",data:=.fields #[.int lo t,.int hi u,.int 1 v]}).objs.size],_,_,H,rfl,
  I1.kept λb o e=>aj _ e,xN _ lo (hi-lo).toNat,?_,λb hb=>?_,q⟩
 ·have e1:lo+(0:Nat)*1=lo:=by simp
  have e2:(((hi-lo).toNat:Nat):Int)-(0:Nat)=Builtin.Range.rangeSize lo hi 1:=by rw[rangeSize_one];split<;>lia
  rw[e1,e2];exact aY _ rfl
 ·have e:b=(s.heap.push {cls:=.type "range",data:=.fields #[.int lo t,.int hi u,.int 1 v]}).objs.size:=by grind
  subst e;exact I1.nS (ar _) (I1.hok.fresh (ar _))
def P1(ta:TA):TI:=λσ H R=>ta σ H λvs H1=>∃j:Int,vs=[.int j] /\ -(2^62)<=j/\j<2^62/\R (PZ 0 j.toNat) H1
def P2(ta:TA):TI:=λσ H R=>ta σ H λvs H1=>∃i j:Int,vs=[.int i,.int j]/\(-(2^62)<=i/\i<2^62 /\ -(2^62)<=j/\j<2^62)/\R (PZ i (j-i).toNat) H1
def A2{a:Expr}{ta:TA}{p pos:Pos}(hg:Gl X "range")(hm:X.mg "range"=none)(ha:PA X [a] ta)(hs:starEach [a] X.env=[(false,eval a X.env)]:=by rfl):PI X tg (.Call (.Name "range" p) [a] [] pos) (P1 ta):=by
 intro ae s σ H R I h;refine Call_ (ld_blt I hg hm boot_range (d0 (thn (ha pos ae s σ H _ I h) λus s1 ⟨vs,H1,I1,r1,q1⟩=>?_) hs rfl))
 obtain⟨j,e,q1,q2,q⟩:=q1;subst e;cases r1 with
 | cons r rr =>
  cases rr;obtain⟨t,rfl⟩:=r;exact call_range_1 (uP I1 (by lia) (by lia) q1 q2 (by grind))
def A3{a b:Expr}{ta:TA}{p pos:Pos}(hg:Gl X "range")(hm:X.mg "range"=none)(ha:PA X [a,b] ta)(hs:starEach [a,b] X.env=[(false,eval a X.env),(false,eval b X.env)]:=by rfl)(wF:starEach [b] X.env=[(false,eval b X.env)]:=by rfl) :
  PI X tg (.Call (.Name "range" p) [a,b] [] pos) (P2 ta):=by
 intro ae s σ H R I h;refine Call_ (ld_blt I hg hm boot_range (d0 (thn (ha pos ae s σ H _ I h) λus s1 ⟨vs,H1,I1,r1,q1⟩=>?_) (by grind) (by rw[wF];rfl)))
 obtain⟨i,j,e,⟨q1,q2,q3,q4⟩,q⟩:=q1;subst e;cases r1 with
 | cons r rr =>
  cases rr with
  | cons r' rr =>
   cases rr;obtain⟨t,rfl⟩:=r;obtain⟨t',rfl⟩:=r';exact call_range_2 (uP I1 q1 q2 q3 q4 q)
def Ux(wi:TI)(g:TG)(tb:TS):TS:=λD σ H=>wi σ H λJ H1=>∃W:Nat->Nat->St->Hp->Prop,(∃m,W 0 m σ H1)/\∀i m σ H,W i m σ H ->
 (J.stop i H/\D.nx σ H)\/(J.go i H/\∃N:St->Hp->Prop,(∀bh H',N bh H'->∃m',m'<m/\W (i+1) m' bh H')/\∀x H',J.yld i H x H'->g x σ H' λzo H2=>tb {D with nx:=N,ct:=N,bk:=D.nx} zo H2)
def nT(fp:List Addr)(h:Heap):List (Addr×Obj):=fp.filterMap λb=>(h.get? b).map λo=>(b,o)
def gU(hb:b∈fp)(e:h.get? b=some o):(b,o)∈nT fp h:=nk.mpr ⟨b,hb,by rw[e];rfl⟩
def A4(hp:p∈nT fp h):p.1∈fp/\h.get? p.1=some p.2:=by
 obtain⟨b,hb,e⟩:=nk.mp hp;cases q:h.get? b with
 | none=>rw[q]at e;cases e
 | some o =>
  rw[q]at e;have e':=bt e;subst e';exact⟨hb,q⟩
def Inv.pinned{ae:List (Addr×Obj)}{σ:St}{H:Hp}{s:Shared}{fp:List Addr}(I:Inv X ae σ H s)(hf:∀b∈fp,nR X ae H b)(ho:∀b∈fp,∃o,s.heap.get? b=some o/\∀v,o.data≠.cell v):Inv X (ae++nT fp s.heap) σ H s :=
 I.kj λp hp=>(iH.mp hp).elim (λz=>I.pin p (d6 _ z)) λz=>by
  obtain⟨hb,e⟩:=A4 z;obtain⟨f0,f1,f2,_⟩:=hf p.1 hb;obtain⟨o,e',d⟩:=ho p.1 hb;rw[e]at e';cases e';exact⟨e,f0,f1,f2,d⟩
def Inv.nU{ae pl:List (Addr×Obj)}{σ:St}{H:Hp}{s:Shared}(I:Inv X (ae++pl) σ H s):Inv X ae σ H s:=I.kj λp hp=>I.pin p (d6 _ (nh _ hp))
def LH(hp:PassesOwn (model X.prog X.w) X.A X.env X.xe)(hc:X.calm=true)(hi:PI X tg iter wi)(hg:PG X tg g)(hb:PSs X body tb)
  (hs:∀x,foldedSetIterable iter X.env x=pure x:=by intro _;rfl):PS X (.For tg iter body [] pos) (Ux wi g tb):=by
 intro ae s σ H D I h;refine wpAny_For (thn (hi ae s σ H _ I h) λv s1 h1=>thn h1 λUu s2 h2=>?_) hs
 obtain⟨it,fp,tn,J,H2,e,I2,T,dk,f2,W,⟨m0,w0⟩,nQ⟩:=h2;subst e;have xO:∀{H':Hp},(∀b∈fp,H' b=none)->∀b∈fp,nR X ae H' b:=λhn b hb=>⟨hn b hb,(f2 b hb).2⟩
 refine codeAny_forLoop_any (λn s'=>∃i bh H',Inv X ae bh H' s'/\tn i s'.heap/\(∀b∈fp,H' b=none)/\W i n bh H') ?_ m0 ⟨0,σ,H2,I2,dk,λb hb=>(f2 b hb).1,w0⟩
 rintro n s3 ⟨i,mD,H3,I3,Hg,WZ,w3⟩
 rcases nQ i n mD H3 w3 with⟨stop,qn⟩ | ⟨go,N,hN,step⟩
 ·refine jD hp (thn (T.done X rfl rfl rfl hc i ae s3 mD H3 X.xe I3 (xO WZ) Hg stop) λr s4 ⟨hr,I4⟩=>?_)
  subst hr;exact sE ⟨mD,H3,I4,qn⟩
 ·refine jD hp (thn (T.item X rfl rfl rfl hc i ae s3 mD H3 X.xe I3 (xO WZ) Hg go) λr s4 ⟨u,hr,h4⟩=>?_)
  subst hr;refine jD hp (thn h4 λ_ s5 z9=>?_)
  obtain⟨x,H5,I5,r5,y5,LI,Uy⟩:=z9;have Uz:=I5.pinned (xO Uy) (T.obj _ _ LI);refine jD hp (thn (hg _ s5 mD H5 x u _ Uz r5 (step x H5 y5)) λ_ s6 ⟨Tn,H6,I6,q6⟩=>?_)
  refine jD hp (thn (hb _ s6 Tn H6 _ I6 q6) λf s7 q7=>?_)
  have again:∀{Dx:St} {H7:Hp},Inv X (ae++nT fp s5.heap) Dx H7 s7->N Dx H7->∃m,m<n/\∃i bh H',Inv X ae bh H' s7/\tn i s7.heap/\(∀b∈fp,H' b=none)/\W i m bh H':=λ{Dx H7} I7 n7=>by
   obtain⟨m',hm,w7⟩:=hN Dx H7 n7;refine⟨m',hm,i+1,Dx,H7,I7.nU,T.keep _ _ _ LI λb hb o e=>(I7.pin (b,o) (d6 _ (d6 _ (gU hb e)))).1,λb hb=>?_,w7⟩
   obtain⟨o,e,d⟩:=T.obj _ _ LI b hb;exact(I7.pin (b,o) (d6 _ (d6 _ (gU hb e)))).2.1
  cases f with
  | next=>obtain⟨Dx,H7,I7,n7⟩:=q7;exact again I7 n7
  | cont=>obtain⟨Dx,H7,I7,n7⟩:=q7;exact again I7 n7
  | brk=>obtain⟨Dx,H7,I7,q7⟩:=q7;exact⟨Dx,H7,I7.nU,q7⟩
  | ret v=>obtain⟨x7,Dx,H7,I7,r7,q7⟩:=q7;exact⟨x7,Dx,H7,I7.nU,r7,q7⟩
end
abbrev R2:=V->V->Hp->VK->Prop
def OpR(X:Cx)(f:Value->Value->Sem Value)(r:R2):Prop :=
 ∀(ae:List (Addr×Obj)) (s:Shared) (σ:St) (H:Hp) (x y:V) (v u:Value) (Q:VK),Inv X ae σ H s->RelV x v->RelV y u->r x y H Q ->
  wpAny (model X.prog X.w) X.A (f v u) (EP X ae σ Q) X.xe s
def UnR(X:Cx)(f:Value->Sem Value)(r:V->Hp->VK->Prop):Prop :=
 ∀(ae:List (Addr×Obj)) (s:Shared) (σ:St) (H:Hp) (x:V) (v:Value) (Q:VK),Inv X ae σ H s->RelV x v->r x H Q ->
  wpAny (model X.prog X.w) X.A (f v) (EP X ae σ Q) X.xe s
def jr(X:Cx)(f:Value)(r:List V->Hp->VK->Prop):Prop :=
 ∀(ae:List (Addr×Obj)) (s:Shared) (σ:St) (H:Hp) (xs:List V) (us:List Value) (Q:VK),Inv X ae σ H s->Vals xs us->r xs H Q ->
  wpAny (model X.prog X.w) X.A (call f us) (EP X ae σ Q) X.xe s
def UA(X:Cx)(r:V->Hp->(Bool->Hp->Prop)->Prop):Prop :=
 ∀(ae:List (Addr×Obj)) (s:Shared) (σ:St) (H:Hp) (x:V) (v:Value) (Q:Bool->Hp->Prop),Inv X ae σ H s->RelV x v->r x H Q ->
  wpAny (model X.prog X.w) X.A (truthy v) (TP X ae σ Q) X.xe s
def LJ(r:R2)(ta tb:TE):TE:=λσ H Q=>ta σ H λx H1=>tb σ H1 λy H2=>r x y H2 Q
def YA(r:V->Hp->VK->Prop)(ta:TE):TE:=λσ H Q=>ta σ H λx H1=>r x H1 Q
def rI(C:Int->Int->Prop)(g:Int->Int->V):R2:=λx y H Q=>∃i j,x=.int i/\y=.int j/\C i j/\Q (g i j) H
def Gy(g:Int->Int->V):R2:=λx y H Q=>∃i j,x=.int i/\y=.int j/\Q (g i j) H
def rU(g:Int->V):V->Hp->VK->Prop:=λx H Q=>∃i,x=.int i/\Q (g i) H
section
variable {X:Cx} {a b c:Expr} {ta tb tc:TE} {pos:Pos}
def Hh(ha:PE X a ta)(hb:PE X b tb){ae:List (Addr×Obj)}{s:Shared}{σ:St}{H:Hp}{R:V->V->Hp->Prop}(I:Inv X ae σ H s)
  (h:ta σ H λx H1=>tb σ H1 λy H2=>R x y H2) {Q:Value->Shared->Prop} {f:Value->Value->Sem Value}
  (hf:∀v u s2 x y H2,Inv X ae σ H2 s2->RelV x v->RelV y u->R x y H2->wpAny (model X.prog X.w) X.A (f v u) Q X.xe s2) :
  wpAny (model X.prog X.w) X.A (eval a X.env) (λv s₁=>wpAny (model X.prog X.w) X.A (eval b X.env) (λu A0=>wpAny (model X.prog X.w) X.A (f v u) Q X.xe A0) X.xe s₁) X.xe s:=by
 refine thn (ha ae s σ H _ I h) λv s1 ⟨x,H1,I1,r1,q1⟩=>?_
 refine thn (hb ae s1 σ H1 _ I1 q1) λu s2 ⟨y,H2,I2,r2,q2⟩=>?_
 exact hf v u s2 x y H2 I2 r1 r2 q2
def J7(ho:OpR X (binaryOp op) r)(ha:PE X a ta)(hb:PE X b tb):PE X (.BinOp a op b pos) (LJ r ta tb):=by
 intro ae s σ H Q I h;exact wpAny_BinOp (Hh ha hb I h λv u s2 x y H2 I2 rx ry q=>ho ae s2 σ H2 x y v u Q I2 rx ry q)
def P4{r:V->Hp->VK->Prop}(ho:UnR X (unaryOp op) r)(ha:PE X a ta):PE X (.UnaryOp op a pos) (YA r ta):=by
 intro ae s σ H Q I h;exact UnaryOp_ (thn (ha ae s σ H _ I h) (by rintro v s1 ⟨x,H1,I1,r1,q1⟩;exact ho ae s1 σ H1 x v Q I1 r1 q1))
def To{f:Value->Value->Sem Value}{C:Int->Int->Prop}{g:Int->Int->Int}
  (rule:∀(i j:Int) (t u:Tok) (s:Shared) (Q:Value->Shared->Prop) (E:Value->Shared->Prop),C i j->Q (.int (g i j) s.toks) {s with toks:=s.toks+1}->wpAny (model X.prog X.w) X.A (f (.int i t) (.int j u)) Q E s) :
  OpR X f (rI C λi j=>.int (g i j)):=by
 intro ae s σ H x y v u Q I rx ry h;obtain⟨i,j,rfl,rfl,hc,q⟩:=h;obtain⟨t,rfl⟩:=rx;obtain⟨t',rfl⟩:=ry;exact rule i j t t' s _ _ hc ⟨.int (g i j),H,I.tok _,⟨_,rfl⟩,q⟩
def LK{f:Value->Value->Sem Value}{g:Int->Int->Int}
  (rule:∀(i j:Int) (t u:Tok) (s:Shared) (Q:Value->Shared->Prop) (E:Value->Shared->Prop),Q (.int (g i j) s.toks) {s with toks:=s.toks+1}->wpAny (model X.prog X.w) X.A (f (.int i t) (.int j u)) Q E s) :
  OpR X f (Gy λi j=>.int (g i j)):=by
 intro ae s σ H x y v u Q I rx ry h;obtain⟨i,j,rfl,rfl,q⟩:=h;obtain⟨t,rfl⟩:=rx;obtain⟨t',rfl⟩:=ry;exact rule i j t t' s _ _ ⟨.int (g i j),H,I.tok _,⟨_,rfl⟩,q⟩
def Hj{f:Value->Value->Sem Value}{g:Int->Int->Bool}
  (rule:∀(i j:Int) (t u:Tok) (s:Shared) (Q:Value->Shared->Prop) (E:Value->Shared->Prop),Q (.bool (g i j)) s->wpAny (model X.prog X.w) X.A (f (.int i t) (.int j u)) Q E s) :
  OpR X f (Gy λi j=>.bl (g i j)):=by
 intro ae s σ H x y v u Q I rx ry h;obtain⟨i,j,rfl,rfl,q⟩:=h;obtain⟨t,rfl⟩:=rx;obtain⟨t',rfl⟩:=ry;exact rule i j t t' s _ _ ⟨.bl (g i j),H,I,rfl,q⟩
def UB(i j:Int):Prop:=0<j/\j<1073741824
def UC(i j:Int):Prop:=0<=j/\j<=1000000/\i.natAbs<2^64
def LL(i j:Int):Prop:=(-(2^64)<i/\i<2^64)\/(-(2^64)<j/\j<2^64)
def LL.ok(h:LL i j):IntMulOk i j:=by
 rcases h with⟨h1,h2⟩ | ⟨h1,h2⟩
 ·exact .of_left (intBits_le_64 h1 h2)
 ·exact .of_right (intBits_le_64 h1 h2)
def LM:OpR X (binaryOp .Add) (Gy λi j=>.int (i+j)):=LK λ_ _ _ _ _ _ _ q=>add_int q
def LN:OpR X (binaryOp .Sub) (Gy λi j=>.int (i-j)):=LK λ_ _ _ _ _ _ _ q=>sub_int q
def LO:OpR X (binaryOp .Mult) (rI LL λi j=>.int (i*j)):=To λ_ _ _ _ _ _ _ hc q=>mul_int q hc.ok
def Hk:OpR X (binaryOp .FloorDiv) (rI UB λi j=>.int (i/j)):=To λi j _ _ _ _ _ hc q=>by
 have h1:=hc.1;have h2:=hc.2;exact floordiv_int (by lia) (by rw[Int.fdiv_eq_ediv_of_nonneg i (by lia)];exact q) (.inl (PyProof.noPylong_small (by lia)))
def LP:OpR X (binaryOp .Mod) (rI (λ_ j=>0<j) λi j=>.int (i%j)):=To λi j _ _ _ _ _ hc q=>by
 have h1:=hc;exact mod_int' (by lia) (by rw[Int.fmod_eq_emod_of_nonneg i (by lia)];exact q)
def LQ:OpR X (binaryOp .Pow) (rI UC λi j=>.int (i^j.toNat)):=To λ_ _ _ _ _ _ _ hc q=>pow_int_small hc.1 hc.2.1 hc.2.2 q
def Hl:OpR X (inplaceOp .Add) (Gy λi j=>.int (i+j)):=LK λ_ _ _ _ _ _ _ q=>iadd_int q
def YB{f:Value->Sem Value}{g:Int->Int}
  (rule:∀(i:Int) (t:Tok) (s:Shared) (Q:Value->Shared->Prop) (E:Value->Shared->Prop),Q (.int (g i) s.toks) {s with toks:=s.toks+1}->wpAny (model X.prog X.w) X.A (f (.int i t)) Q E s) :
  UnR X f (rU λi=>.int (g i)):=by
 intro ae s σ H x v Q I rx h;obtain⟨i,rfl,q⟩:=h;obtain⟨t,rfl⟩:=rx;exact rule i t s _ _ ⟨.int (g i),H,I.tok _,⟨_,rfl⟩,q⟩
def LR:UnR X (unaryOp .USub) (rU λi=>.int (-i)):=YB λ_ _ _ _ _ q=>neg_int q
end
section
variable {X:Cx} {a b c:Expr} {ta tb tc:TE} {pos:Pos}
def Dy{ae:List (Addr×Obj)}{σ:St}{H:Hp}{s:Shared}{Q:VK}{k k':Bool}(I:Inv X ae σ H s)(q:Q (.bl k) H)(e:k=k'):EP X ae σ Q (.bool k') s:=by
 subst e;exact⟨.bl k,H,I,rfl,q⟩
def P5:OpR X (compareOp .Lt) (Gy λi j=>.bl (decide (i<j))):=Hj λ_ _ _ _ _ _ _ q=>lt_int q
def P6:OpR X (compareOp .LtE) (Gy λi j=>.bl (decide (i<=j))):=Hj λ_ _ _ _ _ _ _ q=>le_int q
def P7:OpR X (compareOp .Gt) (Gy λi j=>.bl (decide (j<i))):=Hj λ_ _ _ _ _ _ _ q=>gt_int q
def P8:OpR X (compareOp .GtE) (Gy λi j=>.bl (decide (j<=i))):=Hj λ_ _ _ _ _ _ _ q=>ge_int q
def LU:OpR X (compareOp .Is) (λx y H Q=>y=.aN/\Q (.bl (decide (x=.aN))) H):=by
 intro ae s σ H x y v u Q I rx ry h;obtain⟨rfl,q⟩:=h;cases ry;refine is_none_gen (Dy I q ?_);cases x<;>first
  | (cases rx;rfl)
  | (obtain⟨t,rfl⟩:=rx;rfl)
def Hm:OpR X (compareOp .IsNot) (λx y H Q=>y=.aN/\Q (.bl (!decide (x=.aN))) H):=by
 intro ae s σ H x y v u Q I rx ry h;obtain⟨rfl,q⟩:=h;cases ry;refine isnot_none_gen (Dy I q ?_);cases x<;>first
  | (cases rx;rfl)
  | (obtain⟨t,rfl⟩:=rx;rfl)
def zt(ho:OpR X (compareOp op) r)(ha:PE X a ta)(hb:PE X b tb)(hm:behindInMarks op b=false):PE X (.Compare a [op] [b] pos) (LJ r ta tb):=by
 intro ae s σ H Q I h;exact wpAny_Compare1 (Hh ha hb I h λv u s2 x y H2 I2 rx ry q=>ho ae s2 σ H2 x y v u Q I2 rx ry q) hm
def J8(t:TE):TT:=λσ H Q=>t σ H λx H'=>∃k,x=.bl k/\Q k H'
def zu(ho:OpR X (compareOp op) r)(ha:PE X a ta)(hb:PE X b tb)(hm:behindInMarks op b=false):PT X (.Compare a [op] [b] pos) (J8 (LJ r ta tb)):=by
 intro ae s σ H Q I h;refine wpAny_isTrue_Compare1 (thn (ha ae s σ H _ I h) λv s1 ⟨x,H1,I1,r1,q1⟩=>thn (hb ae s1 σ H1 _ I1 q1) λu s2 ⟨y,H2,I2,r2,q2⟩ =>
  thn (ho ae s2 σ H2 x y v u _ I2 r1 r2 q2) λc s3 ⟨z,H3,I3,r3,k,e,q3⟩=>?_) hm
 subst e;cases r3;exact iC ⟨H3,I3,q3⟩
def xP(r r':R2)(ta tb tc:TE):TE:=λσ H Q=>ta σ H λx H1=>tb σ H1 λy H2=>r x y H2 λz H3=>∃k,z=.bl k /\
 (if k=true then tc σ H3 λw' H4=>r' y w' H4 Q else Q (.bl false) H3)
def Dz(ho:OpR X (compareOp op) r)(nO:OpR X (compareOp ux) r')(ha:PE X a ta)(hb:PE X b tb)(hc:PE X c tc)
  (hm:lastMarks [op,ux] [b,c]=false:=by with_unfolding_all rfl):PE X (.Compare a [op,ux] [b,c] pos) (xP r r' ta tb tc):=by
 intro ae s σ H Q I h;refine Compare_chain (thn (ha ae s σ H _ I h) λv s1 ⟨x,H1,I1,r1,q1⟩=>chain_link (thn (hb ae s1 σ H1 _ I1 q1) λu s2 ⟨y,H2,I2,r2,q2⟩ =>
  thn (ho ae s2 σ H2 x y v u _ I2 r1 r2 q2) λd s3 ⟨z,H3,I3,r3,k,e,q3⟩=>?_)) hm
 subst e;cases r3;refine iC ?_;cases k with
 | false=>exact ite_ff ⟨.bl false,H3,I3,rfl,q3⟩
 | true=>exact ite_tt (chain_last (thn (hc ae s3 σ H3 _ I3 q3) (by rintro w' s4 ⟨z',H4,I4,r4,q4⟩;exact nO ae s4 σ H4 y z' u w' Q I4 r2 r4 q4)))
def DA(ho:OpR X (compareOp op) r)(nO:OpR X (compareOp ux) r')(ha:PE X a ta)(hb:PE X b tb)(hc:PE X c tc)
  (hm:lastMarks [op,ux] [b,c]=false:=by with_unfolding_all rfl):PT X (.Compare a [op,ux] [b,c] pos) (J8 (xP r r' ta tb tc)):=by
 intro ae s σ H Q I h;refine isTrue_chain (thn (ha ae s σ H _ I h) λv s1 ⟨x,H1,I1,r1,q1⟩=>test_link (thn (hb ae s1 σ H1 _ I1 q1) λu s2 ⟨y,H2,I2,r2,q2⟩ =>
  thn (ho ae s2 σ H2 x y v u _ I2 r1 r2 q2) λd s3 ⟨z,H3,I3,r3,k,e,q3⟩=>?_)) hm
 subst e;cases r3;refine iC ?_;cases k with
 | false =>
  obtain⟨k',e',q'⟩:=q3;cases e';exact ite_ff ⟨H3,I3,q'⟩
 | true =>
  refine ite_tt (test_last (thn (hc ae s3 σ H3 _ I3 q3) λw' s4 ⟨z',H4,I4,r4,q4⟩=>thn (nO ae s4 σ H4 y z' u w' _ I4 r2 r4 q4) λd' s5 z9=>?_))
  obtain⟨z2,H5,I5,r5,k2,e2,q5⟩:=z9;subst e2;cases r5;exact iC ⟨H5,I5,q5⟩
def Ho(K:W.Frag)(x:V)(H:Hp)(k:Bool):Prop :=
 match x with
 | .aN=>k=false
 | .bl b=>k=b
 | .int i=>k=(i != 0)
 | .str y=>y.length<=sizeLine/\k=((y.length:Int) != 0)
 | .OW y=>y.size<=sizeLine/\k=((y.size:Int) != 0)
 | .ref p=>(∃xs,sS K H p xs/\k = !xs.isEmpty)\/(∃xs,fA K H p xs/\k = !xs.isEmpty)\/∃kvs,H p=some (.dK kvs)/\k = !kvs.isEmpty
 | _=>False
def xQ{κ:Type}{kvs:List (κ×V)}{vs:List (κ×Value)}(r:KV kvs vs):(!vs.isEmpty) = !kvs.isEmpty:=by
 cases r<;>rfl
def nV(r:Vals xs ai):(!ai.toArray.isEmpty) = !xs.isEmpty:=by
 cases r<;>simp
def jJ:(sizeLine:Nat)<2^63:=by rw[jH];decide
def DB:UA X (λx H Q=>∃k,Ho X.K x H k/\Q k H):=by
 intro ae s σ H x v Q I rx h;obtain⟨k,e,q⟩:=h;have hl:=jJ;have hs:=jH;cases x with
 | aN =>
  cases rx;have e':=e;subst e';exact truthy_none ⟨H,I,q⟩
 | bl b =>
  cases rx;have e':=e;subst e';exact iC ⟨H,I,q⟩
 | int i =>
  obtain⟨t,rfl⟩:=rx;have e':=e;subst e';exact PySem.P.truthy_int ⟨H,I,q⟩
 | str y =>
  obtain⟨t,rfl⟩:=rx;obtain⟨hy,e'⟩:y.length<=sizeLine/\k=((y.length:Int) != 0):=e;subst e';exact PySem.P.truthy_str (by lia) ⟨H,I.tok _,q⟩
 | OW y =>
  obtain⟨t,rfl⟩:=rx;obtain⟨hy,e'⟩:y.size<=sizeLine/\k=((y.size:Int) != 0):=e;subst e';exact W.truthy_bytes (by lia) ⟨H,I.tok _,q⟩
 | ref p =>
  cases rx;have e':=e;rcases e' with⟨xs,hx,e'⟩ | ⟨xs,hx,e'⟩ | ⟨kvs,hx,e'⟩
  ·subst e';obtain⟨ai,r,pl,hz⟩:=I.list hx;have cX:=r.length;exact wpAny_truthy_list pl.isList (by grind) ⟨H,I.tok _,by rw[nV r];exact q⟩
  ·subst e';obtain⟨ai,r,pl,hz⟩:=I.tuple hx;have cX:=r.length;exact truthy_tuple pl (by grind) ⟨H,I.tok _,by rw[nV r];exact q⟩
  ·subst e';obtain⟨hz,hS,vs,r,m⟩:kvs.length<=sizeLine/\(p==sysModules)=false/\∃vs,KV kvs vs/\s.heap.DictOf (br X.prog X.w) p vs:=I.hok p _ hx
   have cX:=gM r;exact wpAny_truthy_dict hS m (by lia) ⟨H,I.tok _,by rw[xQ r];exact q⟩
 | _=>exact(e).elim
def DC(ha:PE X a ta)(he:∀hZ,isTrue a X.env hZ=(do let v <-hZ;standAt a.pos;holding [v] (truthy v))) :
  PT X a (λσ H Q=>ta σ H λx H'=>∃k,Ho X.K x H' k/\Q k H'):=by
 intro ae s σ H Q I h;exact isTrue_plain (thn (ha ae s σ H _ I h) (by rintro v s1 ⟨x,H1,I1,r1,q1⟩;exact DB ae s1 σ H1 x v Q I1 r1 q1)) (he _)
def xR:OpR X (binaryOp .Add) (λx y H Q=>∃i j,x=.str i/\y=.str j/\i.length+j.length<=sizeLine/\Q (.str (i++j)) H):=by
 intro ae s σ H x y v u Q I rx ry h;obtain⟨i,j,rfl,rfl,hz,q⟩:=h;obtain⟨t,rfl⟩:=rx;obtain⟨t',rfl⟩:=ry;exact add_str (λt' tk=>⟨.str (i++j),H,I.tok _,⟨_,rfl⟩,q⟩) hz
def ia(r:Vals [x] us):∃u,us=[u]/\RelV x u:=by
 cases r with
 | cons r1 r2=>cases r2;exact⟨_,rfl,r1⟩
def zw(r:Vals [x,y] us):∃u w',us=[u,w']/\RelV x u/\RelV y w':=by
 cases r with
 | cons r1 r2 =>
  cases r2 with
  | cons r3 r4=>cases r4;exact⟨_,_,rfl,r1,r3⟩
def qu:jr X (.type "int") (λxs H Q=>(∃i,xs=[.int i]/\Q (.int i) H)\/∃k,xs=[.bl k]/\Q (.int (if k then 1 else 0)) H):=by
 intro ae s σ H xs us Q I r h;rcases h with⟨i,rfl,q⟩ | ⟨k,rfl,q⟩
 ·obtain⟨u,rfl,t,rfl⟩:=ia r;exact call_int_int ⟨.int i,H,I,⟨_,rfl⟩,q⟩
 ·obtain⟨u,rfl,r1⟩:=ia r;cases r1;exact call_int_bool ⟨.int (if k then 1 else 0),H,I.tok _,⟨_,rfl⟩,q⟩
def sT:jr X (.type "str") (λxs H Q=>∃i,xs=[.int i]/\i.natAbs.log2<1920/\Q (.str (toString i)) H):=by
 intro ae s σ H xs us Q I r h;obtain⟨i,rfl,hz,q⟩:=h;obtain⟨u,rfl,t,rfl⟩:=ia r;exact PySem.P.str_of_int hz ⟨.str _,H,I.tok _,⟨_,rfl⟩,q⟩
end
structure A5 (h:Heap) (x dx C:Addr) (mA:Str->Option Value):Prop where
 obj:h.get? x=some (W.instObj C dx)
 ns:h.Ns1 dx mA
 ne:dx≠x
def A6{h:Heap}{mA:Str->Option Value}(n:h.Ns1 dx mA):∃od,h.get? dx=some od/\∀name,W.lookIn name od=some (mA name):=by
 obtain⟨o,es,ep,ho,hd,hk,_,hm⟩:=n;refine⟨o,ho,λname=>?_⟩
 have e:=hm name;unfold nsFind findBy at e;rw[<-Array.find?_toList]at e;unfold W.lookIn;rw[hd];dsimp only
 split
 ·grind
 ·rename_i q;rw[q]at e;have a:es.toList.any (·.refKey)=false:=by
   rw[xj];intro y hy;obtain⟨z,t,LV⟩:=hk y (Array.mem_toList_iff.mp hy);simp[DictEntry.refKey,LV]
  have a':¬es.toList.any (·.refKey)=true:=by grind
  rw[if_neg a'];exact eX some e
def A5.Hq(I:A5 h x dx C mA):∃od,W.InstAt h x (W.instObj C dx) C (some od)/\∀name,W.lookIn name od=some (mA name) :=
 let ⟨od,ho,hl⟩:=A6 I.ns
 ⟨od,⟨I.obj,rfl,rfl,ho⟩,hl⟩
section
variable {prog:Program} {w:World} {A:Around} {E:Value->Shared->Prop} {s:Shared} {K:W.Frag} {x dx C f:Addr} {mA:Str->Option Value} {name:Str} {v:Value}
def Hr(X:K.In s.heap)(I:A5 s.heap x dx C mA)(hg:W.plainGet K C name=true)(hh:W.hasDictIn K C=true)
  (ha:W.findIn K (.ref C) name=some none) (hv:mA name=some v) (LW:W.handedIn v=true) (h:Q v {s with toks:=s.toks+1}) :
  wpAny (model prog w) A (getAttr (.ref x) name expr) Q E s:=by
 obtain⟨od,J,hl⟩:=I.Hq;exact W.get_value X J (W.plainGet_of hg).1 (W.findObj_own hh ha rfl (by rw[hl,hv])) LW h
def Hs(X:K.In s.heap)(I:A5 s.heap x dx C mA)
  (hs:W.findIn K (.ref C) "__setattr__"=some (some (.builtin "object.__setattr__"))) (hp:W.plainOver K C=true) (ht:W.takerIn K C name=some none) (hh:W.hasDictIn K C=true)
  (hw:PySem.Within mA ns) (hsz:ns.length<=sizeLine)
  (h:∀h',A5 h' x dx C (λy=>if y=name then some v else mA y)->Heap.SameBut dx s.heap h'->Q () {s with heap:=h',toks:=s.toks+2}) :
  wpAny (model prog w) A (setAttr (.ref x) name v) Q E s:=by
 obtain⟨od,J,hl⟩:=I.Hq;refine W.set_plain X J hs (W.osa_open X J hp ht λb=>?_)
 obtain⟨cd,hc,Ue⟩:=W.any_some hh;have hx:=I.obj;refine af (ag (af (af (wpAny_loadPart hx (af (W.Looks.here (W.looks_clsIn X hc) ?_))))));rw[Ue];refine ag (af (ag (af ?_)));refine wpAny_nsSet1 I.ns λh' P9 wF=>?_
 obtain⟨oD,esD,epD,YC,YD,YE⟩:=P9.count (PySem.Within.cons name v hw);refine af (wpAny_lookBehind YC (by rw[YD];exact pastItsLine_dict (aD YE (by grind))) ?_)
 exact ag (h _ ⟨(wF.2 _ (bA I.ne)).trans I.obj,P9,I.ne⟩ wF)
def DD(X:K.In s.heap)(hm:W.makesIn K C=true)
  (hi:W.findIn K (.ref C) "__init__"=some (some (.ref f))) (hf:W.typeIn K (.ref f)=some (.type "function"))
  (h:codeAny (model prog w) (A.under (.builtin "type.__call__" ⟨.ref C::vs,kw⟩)) (.call (.ref f) ⟨.ref (s.heap.objs.size+1)::vs,kw⟩) (W.InitBack (s.heap.objs.size+1) R)
   {s with heap:=(s.heap.push W.emptyDict).push (W.instObj C s.heap.objs.size)}) :
  codeAny (model prog w) A (.call (.ref C) ⟨vs,kw⟩) R s:=by
 obtain⟨hh,g,d,t,os⟩:=s;exact W.make_core (W.makes_of X hm) (W.looks_findIn X hi) (λself=>W.bind_fn X self hf) (.inl rfl) h
end
def gr(f:Str)(v:V):List (Str×V)->List (Str×V)
 | []=>[(f,v)]
 | (g,x)::r=>if g=f then(g,v)::r else(g,x)::gr f v r
theorem mh(f g:Str)(v:V):∀fs:List (Str×V),(gr f v fs).lookup g=if g=f then some v else fs.lookup g
 | []=>by
  show List.lookup g [(f,v)]=_;by_cases h:g=f
  ·grind
  ·grind
 | (k,x)::r=>by
  have ih:=mh f g v r;rw[show gr f v ((k,x)::r)=(if k=f then(k,v)::r else(k,x)::gr f v r)from rfl]
  by_cases hk:k=f
  ·grind
  ·grind
theorem lM(f:Str)(v:V):∀fs:List (Str×V),f∈(gr f v fs).map (·.1)/\∀g,g∈fs.map (·.1)->g∈(gr f v fs).map (·.1)
 | []=>⟨by simp[gr],λg h=>by simp at h⟩
 | (k,x)::r=>by
  obtain⟨i1,i2⟩:=lM f v r;rw[show gr f v ((k,x)::r)=(if k=f then(k,v)::r else(k,x)::gr f v r)from rfl]
  by_cases hk:k=f
  ·grind
  ·grind
theorem mi(f:Str)(v:V):∀fs:List (Str×V),(gr f v fs).length<=fs.length+1
 | []=>by simp[gr]
 | (k,x)::r=>by
  have ih:=mi f v r;rw[show gr f v ((k,x)::r)=(if k=f then(k,v)::r else(k,x)::gr f v r)from rfl]
  by_cases hk:k=f
  ·grind
  ·grind
def sP.Ht(r:sP (some v) o):∃u,o=some u/\RelV v u:=by
 cases o with
 | none=>exact(r).elim
 | some u=>exact⟨u,rfl,r⟩
def A7(r:RelV v u):W.handedIn u=true:=by
 cases v with
 | aN=>cases(r);rfl
 | bl b=>cases(r);rfl
 | int i=>obtain⟨t,e⟩:=(r);cases e;rfl
 | str x=>obtain⟨t,e⟩:=(r);cases e;rfl
 | OW b=>obtain⟨t,e⟩:=(r);cases e;rfl
 | S8 b=>obtain⟨t,e⟩:=(r);cases e;rfl
 | ref a=>cases(r);rfl
 | ty n=>cases(r);rfl
section
variable {P:Program} {w:World} {H H':Hp} {h h':Heap} {a C dx:Addr} {fs Yt:List (Str×V)}
def zx(hok:j7 P w H h)(e:H a=some (.ins C dx fs)):∃mA,A5 h a dx C mA/\(∀f,sP (fs.lookup f) (mA f))/\PySem.Within mA (fs.map (·.1))/\fs.length<=1000/\H dx=some (.own a):=by
 obtain⟨d,z,ne,ob,mA,n,r,q⟩:=(hok a _ e);exact⟨mA,⟨ob,n,ne⟩,r,q,z,d⟩
end
def AL.get{K:W.Frag}{C:Addr}(c:AL K C)(f:Str):W.plainGet K C f=true:=c.pg
def gR.Qa{K:W.Frag}{C:Addr}{f:Str}(n:gR K C f):W.takerIn K C f=some none:=by
 unfold W.takerIn;rw[show W.findIn K (.ref C) f=some none from n]
 rfl
section
variable {X:Cx} {ae:List (Addr×Obj)} {σ:St} {H:Hp} {s:Shared} {a C dx:Addr} {fs:List (Str×V)} {f:Str} {v:V} {A:Around} {E:Value->Shared->Prop}
def xS(I:Inv X ae σ H s)(e:H a=some (.ins C dx fs))(c:AL X.K C)(n:gR X.K C f)(l:fs.lookup f=some v)
  (h:∀u s',Inv X ae σ H s'->RelV v u->Q u s'):wpAny (model X.prog X.w) A (getAttr (.ref a) f b) Q E s:=by
 obtain⟨mA,O,r,_,_,_⟩:=zx I.hok e;obtain⟨u,hu,ru⟩:=sP.Ht (by rw[<-l];exact r f)
 exact Hr I.nN O (c.get f) c.hd n hu (A7 ru) (h u _ (I.tok _) ru)
def xT(I:Inv X ae σ H s)(e:H a=some (.ins C dx fs))(c:AL X.K C)(n:gR X.K C f)(hl:fs.length<1000)(ry:RelV y u)
  (h:∀s',Inv X ae σ (bZ H a (.ins C dx (gr f y fs))) s'->Q () s'):wpAny (model X.prog X.w) A (setAttr (.ref a) f u) Q E s:=by
 obtain⟨mA,O,r,wi,_,ho⟩:=zx I.hok e;have hz:(fs.map (·.1)).length<=sizeLine:=by rw[ak,jH];lia
 refine Hs I.nN O c.sa c.po n.Qa c.hd wi hz λh' O' sb=>h _ ?_
 have hd:∃o,h'.get? dx=some o:=let ⟨o,_,_,e',_⟩:=O'.ns;⟨o,e'⟩
 refine I.write (by rw[e];exact True.intro) (.inr ho) (λb q hb z=>(sb.2 b hb).trans z) hd ?_
 refine⟨by rw[aI O.ne];exact ho,?_,O.ne,O'.obj,_,O'.ns,λg=>?_,λg hg=>?_⟩
 ·have:=mi f y fs;lia
 ·rw[mh];by_cases q:g=f
  ·rw[if_pos q,if_pos q];exact ry
  ·rw[if_neg q,if_neg q];exact r g
 ·by_cases q:g=f
  ·rw[q];exact(lM f y fs).1
  ·refine(lM f y fs).2 g (wi g λz=>hg ?_)
   show(if g=f then some u else mA g)=none
   rw[if_neg q];exact z
def Inv.made(I:Inv X ae σ H s):Inv X ae σ (bZ (bZ H s.heap.objs.size (.own (s.heap.objs.size+1))) (s.heap.objs.size+1) (.ins C s.heap.objs.size []))
  {s with heap:=(s.heap.push W.emptyDict).push (W.instObj C s.heap.objs.size)}:=by
 have e1:(s.heap.push W.emptyDict).get? s.heap.objs.size=some W.emptyDict:=aY s.heap rfl;have e2:((s.heap.push W.emptyDict).push (W.instObj C s.heap.objs.size)).get? (s.heap.objs.size+1)=some (W.instObj C s.heap.objs.size):=by
  have:=aY (s.heap.push W.emptyDict) (o:=W.instObj C s.heap.objs.size) rfl
  rwa [cm]at this
 have e3:(s.heap.push W.emptyDict).Ns s.heap.objs.size (λ_=>none):=⟨W.emptyDict,#[],_,e1,rfl,(λe he=>absurd he (by simp)),λ_=>rfl⟩
 have I1:=I.laid (o:=.own (s.heap.objs.size+1)) (t':=s.toks) (λb u q=>aj _ q) (ar _) ⟨_,e1⟩
 refine I1.laid (t':=s.toks) (λb u q=>aj _ q) (iK (cm _ _)) ?_
 have ne:s.heap.objs.size≠s.heap.objs.size+1:=by grind
 refine⟨by rw[aI ne,au],gk _,ne,e2,λ_=>none,(Heap.Ns1.of_empty e3).at λo q=>aj _ q,λ_=>True.intro,λy hy=>absurd rfl hy⟩
def Hu(hb:attributeBase e f env (eval e env)=eval e env)
  (h:wpAny (model prog w) A (eval e env) (λo s₁=>wpAny (model prog w) A (getAttr o f true) Q E s₁) E s):wpAny (model prog w) A (eval (.Attribute e f pos) env) Q E s :=
 Attribute_any_ h (by rw[arm_eval_Attribute,hb])
end
def UD(K:W.Frag)(ta:TE)(f:Str):TE:=λσ H Q=>ta σ H λx H1=>∃a C dx fs v,x=.ref a/\H1 a=some (.ins C dx fs)/\AL K C/\gR K C f/\fs.lookup f=some v/\Q v H1
def UE(K:W.Frag)(ta tv:TE)(f:Str):TS:=λD σ H=>tv σ H λy H1=>ta σ H1 λx H2=>∃a C dx fs,x=.ref a/\H2 a=some (.ins C dx fs)/\AL K C/\gR K C f/\fs.length<1000 /\
 D.nx σ (bZ H2 a (.ins C dx (gr f y fs)))
section
variable {X:Cx} {o e value:Expr} {f:Str} {pos pM sU:Pos} {ta tv:TE}
def LX(he:PE X e ta)(hb:attributeBase e f X.env (eval e X.env)=eval e X.env):PE X (.Attribute e f pos) (UD X.K ta f):=by
 intro ae s σ H Q I h;refine Hu hb (thn (he ae s σ H _ I h) λu s1 z9=>?_)
 obtain⟨x,H1,I1,rx,a,C,dx,fs,v,ex,ea,c,n,l,q⟩:=z9;subst ex;obtain rfl:u=Value.ref a:=rx;exact xS I1 ea c n l λu' s2 I2 ru=>⟨v,H1,I2,ru,q⟩
def LY(ha:PE X o ta)(hv:PE X value tv)(hs:swapsWith value (some (.Attribute o f pM)) pos.line X.env=pure false):PS X (.Assign [.Attribute o f pM] value pos) (UE X.K ta tv f):=by
 intro ae s σ H D I h;refine plainObj_wpAny_Assign_Attribute (thn (hv ae s σ H _ I h) λu s1 ⟨y,H1,I1,ry,q⟩=>thn (ha ae s1 σ H1 _ I1 q) λov s2 z9=>?_) hs
 obtain⟨x,H2,I2,rx,a,C,dx,fs,ex,ea,c,n,l,q2⟩:=z9;subst ex;obtain rfl:ov=Value.ref a:=rx;exact xT I2 ea c n l ry λs3 I3=>⟨σ,_,I3,q2⟩
end
structure dP (k:Nat) (A:Around):Prop where
 hd:A.handled=none
 dp:A.depth+3*k+5<recursionLimit
 un:A.units+16*k+1200<cLine
def dP.mono(r:dP k A)(h:j<=k):dP j A:=⟨r.hd,by have:=r.dp;lia,by have:=r.un;lia⟩
def dP.deeper(r:dP (k+1) A)(env:Env):dP k (A.deeper env) :=
 ⟨r.hd,by have:=r.dp;show A.depth+1+3*k+5<_;lia,by have:=r.un;show A.units+3+16*k+1200<_;lia⟩
def xU{A:Around}:(A.under (.builtin "type.__call__" ⟨.ref C::us,kw⟩)).depth=A.depth+1:=by
 first | rfl | simp[Around.under,Code.weight,Code.isCreation,Code.isGuard,Code.isCaller,Code.frames,Code.isFrame,guardIds]
def xV{A:Around}:(A.under (.builtin "type.__call__" ⟨.ref C::us,kw⟩)).units=A.units+1:=by
 first | rfl | simp[Around.under,Code.cUnits,Code.frames,Code.isFrame]
def dP.make(r:dP (k+1) A)(C:Addr)(us:List Value)(kw:List (Str×Value)):dP k (A.under (.builtin "type.__call__" ⟨.ref C::us,kw⟩)) :=
 ⟨r.hd,by have:=r.dp;rw[xU];lia,by have:=r.un;rw[xV];lia⟩
def dP.depth(r:dP k A):A.depth<recursionLimit:=by have:=r.dp;lia
def UG:TA:=λ_ H Q=>Q [] H
def Qb(ta:TE)(tr:TA):TA:=λσ H Q=>ta σ H λx H1=>tr σ H1 λxs H2=>Q (x::xs) H2
section
variable {X:Cx} {e:Expr} {es:List Expr} {te:TE} {t:TA} {pos:Pos}
def nW:PA X [] UG:=λ_ _ _ _ H Q I h=>Calls.spliced_nil ⟨[],H,I,.nil,h⟩
def fX(ha:PE X e te)(hr:PA X es t)(hs:starEach (e::es) X.env=(false,eval e X.env)::starEach es X.env:=by rfl):PA X (e::es) (Qb te t):=by
 intro pos ae s σ H Q I h;rw[hs];refine Calls.spliced_cons (thn (ha ae s σ H _ I h) λu s1 ⟨x,H1,I1,r1,q1⟩=>?_)
 exact thn (hr pos ae s1 σ H1 _ I1 q1) (by rintro us s2 ⟨xs,H2,I2,r2,q2⟩;exact⟨x::xs,H2,I2,.cons r1 r2,q2⟩)
def UH(t:TA):TE:=λσ H Q=>t σ H λxs H1=>xs.length<=sizeLine/\∀p,H1 p=none->Q (.ref p) (bZ H1 p (.aq xs))
def UI(t:TA):TE:=λσ H Q=>t σ H λxs H1=>xs.length<=sizeLine/\∀p,H1 p=none->Q (.ref p) (bZ H1 p (.lst xs))
def LZ{x1}(h:PA X es t):PE X (.Tuple es x1 pos) (UH t):=by
 intro ae s σ H Q I hq;refine wpAny_Tuple_spliced (thn (h pos ae s σ H _ I hq) λus s1 ⟨xs,H1,I1,r,z,q⟩=>⟨by rw[<-r.length];exact z,?_⟩)
 have hf:=I1.hok.fresh (ar _);refine⟨.ref s1.heap.objs.size,bZ H1 s1.heap.objs.size (.aq xs),I1.laid (λb u e=>aj _ e) (ar _) ?_,rfl,q _ hf⟩
 exact⟨z,us,r,mB.new _ _⟩
def DE(h:PA X es t):PE X (.List es pos) (UI t):=by
 intro ae s σ H Q I hq;refine wpAny_List_spliced (thn (h pos ae s σ H _ I hq) λus s1 ⟨xs,H1,I1,r,z,q⟩=>⟨by rw[<-r.length];exact z,?_⟩)
 have hf:=I1.hok.fresh (ar _);refine⟨.ref s1.heap.objs.size,bZ H1 s1.heap.objs.size (.lst xs),I1.laid (λb u e=>aj _ e) (ar _) ?_,rfl,q _ hf⟩
 exact⟨z,us,0,r,aY _ rfl⟩
end
abbrev Sp:=List V->Hp->VK->XK->Prop
abbrev CU:=List Env->Hp->Shared->XK->Value->Shared->Prop
structure Env0 (P:Program) (w:World) (K:W.Frag) (mg:Str->Option Value) (base:Heap) (A:Around) (aB:List Env) (s:Shared) (H:Hp):Prop where
 frames:A.frames=some aB
 mod:Mod K mg base
 bs:∀b o,base.get? b=some o->s.heap.get? b=some o/\H b=none
 bsz:base.objs.size<=s.heap.objs.size
 funs:s.heap.FunFrames base aB
 frf:∀b∈j8 aB,H b=none
 hok:j7 P w H s.heap
 bare:AllBare s.gens
 tabs:nM K H
def CE(aB:List Env)(P:Program)(w:World)(H:Hp)(s:Shared)(Q:VK)(u:Value)(s':Shared):Prop :=
 ∃v H',s'.os=s.os/\AllBare s'.gens/\Un (j8 aB) [] H H' s.heap s'.heap/\j7 P w H' s'.heap/\RelV v u/\Q v H'
def CR(CX:CU)(aB:List Env)(P:Program)(w:World)(H:Hp)(s:Shared)(Q:VK)(E:XK)(r:Result)(s':Shared):Prop :=
 match r with
 | .ok (.ret u)=>CE aB P w H s Q u s'
 | .ok _=>False
 | .error e=>CX aB H s E e s'
structure FnOk (P:Program) (w:World) (K:W.Frag) (mg:Str->Option Value) (base:Heap) (CX:CU) (k:Nat) (f:Addr) (fd:FuncData) (ps:List Str) (sp:Sp):Prop where
 len:∀vs H Q E,sp vs H Q E->vs.length=ps.length
 run:∀(A:Around) (aB:List Env) (s:Shared) (H:Hp) (args:Args) (us:List Value) (vs:List V) (Q:VK) (E:XK),dP k A->Env0 P w K mg base A aB s H->BindsTo s fd args (ps.zip us)->Vals vs us->sp vs H Q E ->
  codeAny (model P w) A (.call (.ref f) args) (CR CX aB P w H s Q E) s
def Env0.make{P:Program}{w:World}{K:W.Frag}{mg:Str->Option Value}{base:Heap}{A:Around}{aB:List Env}{s:Shared}{H:Hp}(e:Env0 P w K mg base A aB s H)(C:Addr)(us:List Value)(kw:List (Str×Value)) :
  Env0 P w K mg base (A.under (.builtin "type.__call__" ⟨.ref C::us,kw⟩)) aB s H:=⟨by first | exact e.frames | (simpa[Around.under,Code.envs,Code.isFrame,pushEnvs]using e.frames),e.mod,e.bs,e.bsz,e.funs,e.frf,e.hok,e.bare,e.tabs⟩
section
variable {X:Cx} {ae:List (Addr×Obj)} {σ:St} {H:Hp} {s s':Shared}
def Inv.Qc(I:Inv X ae σ H s):Env0 X.prog X.w X.K X.mg X.base X.A X.stack s H :=
 ⟨I.ok.frames,I.ok.mod,I.bs,aD I.ok.bsz I.sz,I.stack,I.sR,I.hok,I.bare,I.tabs⟩
def Inv.after(I:Inv X ae σ H s)(h:CE X.stack X.prog X.w H s Q u s'):EP X ae σ Q u s':=by
 obtain⟨v,H',os,bare,un,hok,r,q⟩:=h;obtain⟨hh,g,d,t,Hv⟩:=s';obtain rfl:Hv=s.os:=os;exact⟨v,H',I.call un hok bare (λb z=>absurd z (by simp)),r,q⟩
end
def J9(C:Addr)(sp:Sp)(JZ:List V)(E:XK)(t:TA):TE:=λσ H Q=>t σ H λvs H1=>∀x dx,H1 x=none->H1 dx=none->dx≠x ->
 sp (.ref x::(vs++JZ)) (bZ (bZ H1 dx (.own x)) x (.ins C dx [])) (λv H2=>v=.aN/\Q (.ref x) H2) E
def fG(K:W.Frag)(fd:FuncData)(ps:List Str)(ds:List Value):Prop :=
 ∀(s:Shared) (us:List Value),K.In s.heap->(us++ds).length=ps.length->BindsTo s fd ⟨us,[]⟩ (ps.zip (us++ds))
def fG.all{K:W.Frag}{fd:FuncData}{ps:List Str}(h:∀us:List Value,us.length=ps.length->bindArgs fd ⟨us,[]⟩=pure (ps.zip us)):fG K fd ps []:=λs us _ hl=>by
 rw[gj]at hl ⊢;exact .of_eq (h us hl)
def xW(CX:CU)(X:Cx)(E:XK):Prop:=∀(ae:List (Addr×Obj)) (σ:St) (H:Hp) (s:Shared) (e:Value) (s':Shared),Inv X ae σ H s->CX X.stack H s E e s'->X.xe e s'
section
variable {X:Cx} {CX:CU} {k:Nat} {f C:Addr} {fd:FuncData} {ps:List Str} {sp:Sp} {JZ:List V} {ds:List Value} {E:XK} {x m:Str} {p pos kh:Pos} {e o:Expr} {es:List Expr} {ta:TE} {t:TA}
def DF{ae:List (Addr×Obj)}{σ:St}{H:Hp}{s:Shared}{Q:VK}{us:List Value}{vs:List V}(M:Mk X.K C f)(F:FnOk X.prog X.w X.K X.mg X.base CX k f fd ps sp)(hr:dP (k+1) X.A)(hb:fG X.K fd ps ds)(hd:Vals JZ ds)
  (hx:xW CX X E) (I:Inv X ae σ H s) (r:Vals vs us)
  (h:∀x dx,H x=none->H dx=none->dx≠x->sp (.ref x::(vs++JZ)) (bZ (bZ H dx (.own x)) x (.ins C dx [])) (λv H2=>v=.aN/\Q (.ref x) H2) E) :
  wpAny (model X.prog X.w) X.A (call (.ref C) us) (EP X ae σ Q) X.xe s:=by
 have hq:=h (s.heap.objs.size+1) s.heap.objs.size (I.hok.fresh (Nat.le_succ _)) (I.hok.fresh (ar _)) (aJ (lC _));have I2:=Inv.made (C:=C) I;have r2:Vals (V.ref (s.heap.objs.size+1)::(vs++JZ)) (Value.ref (s.heap.objs.size+1)::(us++ds)):=.cons rfl (r.append hd);have hl:(Value.ref (s.heap.objs.size+1)::us++ds).length=ps.length:=by
  have e:=r2.length;rw[F.len _ _ _ _ hq]at e;exact e.symm
 refine wpAny_call (DD I.nN M.makes M.init (gQ.mp M.fn) (lJ (F.run _ X.stack _ _ ⟨Value.ref (s.heap.objs.size+1)::us,[]⟩ (Value.ref (s.heap.objs.size+1)::(us++ds)) _ _ E (hr.make C us [])
  (I2.Qc.make C us []) (hb _ (Value.ref (s.heap.objs.size+1)::us) I2.nN hl) r2 hq) λr s' Qd=>?_))
 cases r with
 | error e=>exact hx ae σ _ _ e s' I2 Qd
 | ok fl =>
  cases fl with
  | ret u =>
   obtain⟨v,H',I3,rv,ev,q3⟩:=I2.after Qd;subst ev;exact⟨rv,⟨V.ref (s.heap.objs.size+1),H',I3,rfl,q3⟩⟩
  | next=>exact False.elim Qd
  | brk=>exact False.elim Qd
  | cont=>exact False.elim Qd
def Hw(M:Mk X.K C f)(F:FnOk X.prog X.w X.K X.mg X.base CX k f fd ps sp)(hr:dP (k+1) X.A)(hg:Gl X x)(hm:X.mg x=some (.ref C))(hb:fG X.K fd ps ds)(hd:Vals JZ ds)(hx:xW CX X E)
  (ha:PA X (e::es) t) (zy:(x==("__debug__":Str))=false:=by decide) (he:starEach (e::es) X.env=(false,eval e X.env)::starEach es X.env:=by rfl) (kn:(backTo pos (starEach es X.env)).any (·.1)=false:=by rfl) :
  PE X (.Call (.Name x p) (e::es) [] pos) (J9 C sp JZ E t):=by
 intro ae s σ H Q I h;refine iA (ld_glob I hg hm ?_ zy);refine W.callWith_K I.ok.mod.kin M.kp (thn (ha pos ae s σ H _ I h) λus s1 ⟨vs,H1,I1,r,q⟩=>⟨I1.nN,?_⟩) he kn
 exact DF M F hr hb hd hx I1 r q
end
theorem qw{kindOf:Str->Option NameKind}:∀{uQ:List (Str×Value)} {m:Str->Option Value},(∀v,(x,v)∉uQ)->bindL kindOf uQ m x=m x
 | [],_,_=>rfl
 | (n,v)::r,m,h=>by
  unfold bindL;rw[qw λw hw=>h w (da _ hw)]
  split
  ·grind
  ·rfl
theorem qx{kindOf:Str->Option NameKind}:∀{uQ:List (Str×Value)} {m:Str->Option Value},(∀v,(x,v)∉uQ)->bindC kindOf uQ m x=m x
 | [],_,_=>rfl
 | (n,v)::r,m,h=>by
  unfold bindC;rw[qx λw hw=>h w (da _ hw)]
  split
  ·rfl
  ·grind
theorem qy{kindOf:Str->Option NameKind}:∀{P:List Str} {vs:List Value} {i:Nat} {m:Str->Option Value},P.Nodup->P[i]?=some x->vs[i]?=some v->kindOf x=some .local ->
  bindL kindOf (P.zip vs) m x=some v
 | [],_,_,_,_,h,_,_=>by simp at h
 | _::_,[],_,_,_,_,h,_=>by simp at h
 | p::P,w::vs,0,m,nd,h1,h2,hk=>by
  simp at h1 h2;subst h1;subst h2;show bindL kindOf ((p,w)::P.zip vs) m p=_;unfold bindL;rw[qw λv hv=>(iG.mp nd).1 (xx hv).1,if_pos hk]
  simp
 | p::P,w::vs,i+1,m,nd,h1,h2,hk=>by
  unfold bindL;exact qy (iG.mp nd).2 (by simpa using h1) (by grind) hk
theorem qz{kindOf:Str->Option NameKind}:∀{P:List Str} {vs:List Value} {i:Nat} {m:Str->Option Value},P.Nodup->P[i]?=some x->vs[i]?=some v->kindOf x≠some .local ->
  bindC kindOf (P.zip vs) m x=some v
 | [],_,_,_,_,h,_,_=>by simp at h
 | _::_,[],_,_,_,_,h,_=>by simp at h
 | p::P,w::vs,0,m,nd,h1,h2,hk=>by
  simp at h1 h2;subst h1;subst h2;show bindC kindOf ((p,w)::P.zip vs) m p=_;unfold bindC;rw[qx λv hv=>(iG.mp nd).1 (xx hv).1,if_neg hk]
  simp
 | p::P,w::vs,i+1,m,nd,h1,h2,hk=>by
  unfold bindC;exact qz (iG.mp nd).2 (by simpa using h1) (by grind) hk
def start(N:List Str)(vs:List V):St:=vs.map some++List.replicate (N.length-vs.length) none
def fH(CX:CU)(P:Program)(w:World)(K:W.Frag)(mg:Str->Option Value)(base:Heap)(N:List Str)(qual:Str)(scope:Scope)(f:Addr)(cd:Value)(A:Around)(aB:List Env)(s:Shared)(H:Hp)(E:XK):Cx where
 prog:=P
 w:=w
 K:=K
 mg:=mg
 base:=base
 A:=A.deeper (envOfC qual scope s.heap.objs.size f cd)
 N:=N
 s₀:=s
 aa:=H
 env:=envOfC qual scope s.heap.objs.size f cd
 aB:=aB
 stack:=envOfC qual scope s.heap.objs.size f cd::aB
 ex:=[]
 calm:=true
 fn:=λ_=>true
 pn:=[]
 xe:=λe s'=>wpAny (model P w) (A.deeper (envOfC qual scope s.heap.objs.size f cd)) (leaving (envOfC qual scope s.heap.objs.size f cd) e) (λ_ L0=>CX aB H s E e L0) (λe' L0=>CX aB H s E e' L0) s'
def uR{sc:Scope}(h:sc.names.lookup x=some .cell):∃c,(cellsFrom n sc.names []).lookup x=some c:=by
 have q:=W.cellsFrom_some sc.names n [] (.inl h);exact Option.isSome_iff_exists.mp q
def A8{CX:CU}{P:Program}{w:World}{K:W.Frag}{mg:Str->Option Value}{base:Heap}{N ps:List Str}{qual:Str}{scope:Scope}{f:Addr}{cd:Value}{A:Around}{aB:List Env}{s s1:Shared}{H:Hp}{E:XK}{us:List Value}{vs:List V}
  (S:cV N ps scope) (hd:A.handled=none) (e0:Env0 P w K mg base A aB s H) (hl:vs.length=ps.length) (r:Vals vs us)
  (x:InCallC s s.heap.objs.size (bindL (envOfC qual scope s.heap.objs.size f cd).kindOf (ps.zip us) λ_=>none) (cellsFrom (s.heap.objs.size+1) scope.names []) (bindC (envOfC qual scope s.heap.objs.size f cd).kindOf (ps.zip us) λ_=>none) s1) :
  Inv (fH CX P w K mg base N qual scope f cd A aB s H E) [] (start N vs) H s1:=by
 have kn:ps.length<=N.length:=by have:=eX List.length S.pre;rw[lA]at this;lia
 obtain⟨h1,tk,rfl,hk⟩:=x.done;have noA:∀b:Addr,b∉(fH CX P w K mg base N qual scope f cd A aB s H E).ex:=λb z=>absurd (show b∈([]:List Addr)from z) (by simp)
 refine⟨⟨e0.mod,S.kind,rfl,rfl,ar _,λy z c h1 h2=>?_,λy hy=>?_,λy c _ h=>?_,λ_=>hd,Around.frames_deeper e0.frames,.inr ⟨rfl,rfl⟩,λb z=>absurd z (noA b),e0.bs,e0.bsz,λb _ _=>noA b,λb z=>absurd z (noA b),e0.funs,e0.frf,e0.tabs⟩,
  rfl,e0.bare,Un.kept hk,⟨_,x.toInCall.ns,λi y v h1 h2 h3=>?_⟩,λy c h=>⟨_,x.cell y c h⟩,e0.hok.fresh (ar _),λy c h=>?_,λp hp=>absurd (show p∈([]:List (Addr×Obj))from hp) (by simp),e0.hok.kept hk,?_⟩
 ·exact name_of_addr x.apart (d7 h1) (d7 h2)
 ·have hy:=hy;rcases hy with hy | hy
  ·exact uR hy
  ·exact absurd rfl (S.nofree _ (d7 hy))
 ·exact sL (x.above y c (d7 h))
 ·have hi:i<vs.length:=by
   unfold start at h2;by_cases hi:i<vs.length
   ·exact hi
   ·grind
  have ha:vs[i]?=some v:=by
   unfold start at h2;rw[m7 (by grind),bR]at h2
   cases e:vs[i]? with
   | none=>rw[e]at h2;cases h2
   | some a=>rw[e]at h2;cases h2;rfl
  obtain⟨u,hu,rv⟩:=r.get ha;have hp:ps[i]?=some y:=by
   rw[<-S.pre,List.getElem?_take_of_lt (by lia)];exact h1
  have W0:ps.Nodup:=by rw[<-S.pre];exact S.nd.sublist (List.take_sublist _ _)
  refine⟨u,rv,?_⟩;rcases S.par y (w6 hp)with k | k
  ·exact .inl ⟨k,qy W0 hp hu k⟩
  ·obtain⟨c,e⟩:=uR k;refine .inr ⟨.inl k,c,e,?_⟩;have q:=x.cell y c e;rw[qz W0 hp hu (by show scope.names.lookup y≠_;rw[k];decide)]at q
   exact q
 ·exact e0.hok.fresh (sL (x.above y c (d7 h)))
 ·unfold start;show _=N.length;rw[dM,ak,List.length_replicate]
  lia
def Qe{CX:CU}{P:Program}{w:World}{K:W.Frag}{mg:Str->Option Value}{base:Heap}{k:Nat}{f:Addr}{name qual:Str}{pq9:Arguments}{body:List Stmt}{scope:Scope}{dV kV doc pm eE ct oc:Value}{an od:Option Addr}
  {wD:Array (Option Value)} {N ps:List Str} {sp:Sp} (lk:K.lookup f=some ⟨oc,od,.func (W.fnOf name qual pq9 body scope dV kV doc pm an eE ct),wD⟩) (Cz:W.codeIn K eE qual=true) (S:cV N ps scope)
  (len:∀vs H Q E,sp vs H Q E->vs.length=ps.length)
  (hbody:∀(A:Around) (aB:List Env) (s:Shared) (H:Hp) (vs:List V) (Q:VK) (E:XK),dP k (A.deeper (envOfC qual scope s.heap.objs.size f eE))->sp vs H Q E ->
   ∃t,PSs (fH CX P w K mg base N qual scope f eE A aB s H E) body t/\t {nx:=λ_ H'=>Q .aN H',rt:=Q} (start N vs) H) :
  FnOk P w K mg base CX (k+1) f (W.fnOf name qual pq9 body scope dV kV doc pm an eE ct) ps sp:=by
 refine⟨len,λA aB s H args us vs Q E hr e0 hb r O2=>?_⟩
 have hl:=len _ _ _ _ O2;have KX:=e0.mod.kin.keeps λb o e=>(e0.bs b o e).1
 have YF:=e0.mod.nolimit.keeps λb o e=>(e0.bs b o e).1
 have Qf:∀y∈ps.zip us,scope.names.lookup y.1=some .local\/(scope.names.lookup y.1=some .cell/\((cellsFrom (s.heap.objs.size+1) scope.names []).lookup y.1).isSome=true):=by
  rintro⟨n,v⟩ hy
  rcases S.par n (xx hy).1 with q | q
  ·grind
  ·exact .inr ⟨q,W.cellsFrom_some _ _ _ (.inl q)⟩
 refine codeAny_call_function hr.depth (KX _ _ lk) rfl S.co S.gen rfl (W.codeRec_of KX Cz) (hb _ _ _ _ ?_);refine wpAny_newFunctionEnv_cells S.kind Qf λenv he s1 x=>?_
 subst he;refine⟨YF.keeps x.toInCall.keep,codeAny_func ?_⟩;obtain⟨t,ht,hq⟩:=hbody A aB s H vs Q E (hr.deeper _) O2;have I:Inv (fH CX P w K mg base N qual scope f eE A aB s H E) [] (start N vs) H s1:=A8 S hr.hd e0 hl r x;refine nK (ht [] s1 (start N vs) H _ I hq) (λfl s' hs=>?_) λe s' hs=>hs
 have i8:∀{bh:St} {H':Hp} {v:V} {u:Value},Inv (fH CX P w K mg base N qual scope f eE A aB s H E) [] bh H' s'->RelV v u->Q v H'->CE aB P w H s Q u s' :=
  λ{bh H' v u} J rv q=>⟨v,H',J.os,J.bare,J.base,J.hok,rv,q⟩
 cases fl with
 | ret u =>
  obtain⟨v,bh,H',J,rv,q⟩:=hs;exact i8 J rv q
 | next =>
  obtain⟨bh,H',J,q⟩:=hs;exact i8 (v:=V.aN) J rfl q
 | brk =>
  obtain⟨_,_,_,q⟩:=hs;exact False.elim q
 | cont =>
  obtain⟨_,_,_,q⟩:=hs;exact False.elim q
section
variable {X:Cx} {x:Str} {p pos:Pos} {e:Expr} {es:List Expr} {t:TA} {id T:String} {r:List V->Hp->VK->Prop}
def UJ(r:List V->Hp->VK->Prop)(t:TA):TE:=λσ H Q=>t σ H λvs H1=>r vs H1 Q
def iL(hc:jr X (.builtin id) r)(hg:Gl X x)(hm:X.mg x=none)(hv:bootBuiltins x=some (.builtin id))(ha:PA X (e::es) t)(hn:x≠"__name__":=by decide)(zy:(x==("__debug__":Str))=false:=by decide)
  (he:starEach (e::es) X.env=(false,eval e X.env)::starEach es X.env:=by rfl) (kn:(backTo pos (starEach es X.env)).any (·.1)=false:=by rfl):PE X (.Call (.Name x p) (e::es) [] pos) (UJ r t):=by
 intro ae s σ H Q I h;refine iA (ld_blt I hg hm hv ?_ hn zy);exact CI (thn (ha pos ae s σ H _ I h) (by rintro us s1 ⟨vs,H1,I1,r1,q1⟩;exact hc ae s1 σ H1 vs us Q I1 r1 q1)) he kn
def lN(hc:jr X (.type T) r)(hg:Gl X x)(hm:X.mg x=none)(hv:bootBuiltins x=some (.type T))(ha:PA X (e::es) t)(hn:x≠"__name__":=by decide)(zy:(x==("__debug__":Str))=false:=by decide)
  (he:starEach (e::es) X.env=(false,eval e X.env)::starEach es X.env:=by rfl) (kn:(backTo pos (starEach es X.env)).any (·.1)=false:=by rfl):PE X (.Call (.Name x p) (e::es) [] pos) (UJ r t):=by
 intro ae s σ H Q I h;refine iA (ld_blt I hg hm hv ?_ hn zy);exact d0 (thn (ha pos ae s σ H _ I h) (by rintro us s1 ⟨vs,H1,I1,r1,q1⟩;exact hc ae s1 σ H1 vs us Q I1 r1 q1)) he kn
end
end L2
namespace HT
open PySem PyProof.Rows
section
variable {prog:Program} {w:World} {A:Around} {E:Value->Shared->Prop} {s:Shared}
def zz(ht:IsTup s.heap t vs.toArray)(hb:IsTup s.heap b ws.toArray)(hv:vs≠[])
  (h1:ws=[]->Q (.ref t) s) (h2:ws≠[]->Q (.ref s.heap.objs.size) {s with heap:=s.heap.push {cls:=.type "tuple",data:=.seq (vs++ws).toArray}})
  (hsz:vs.length+ws.length<=sizeLine):wpAny (model prog w) A (binaryOp .Add (.ref t) (.ref b)) Q E s:=by
 obtain⟨⟨cls,dd,data,sl⟩,ho,hc,n,hd⟩:=id ht;obtain⟨⟨UK,Tp,Qg,Tq⟩,L3,Qh,n2,Qi⟩:=id hb;simp only at hc hd Qh Qi;subst hc hd Qh Qi;have e:vs.toArray++ws.toArray=(vs++ws).toArray:=by simp
 by_cases hw:ws=[]
 ·exact concat_meets ⟨_,ho,rfl⟩ ⟨_,L3,rfl⟩ xq seq_tuple_add wV wQ (wM _ _)
   (tuple_addW1 t b vs.toArray ws.toArray n n2 dd Tp sl Tq (by grind) (by simp[hw])) ⟨ho,L3,h1 hw⟩
 ·refine concat_meets ⟨_,ho,rfl⟩ ⟨_,L3,rfl⟩ xq seq_tuple_add wV wQ (wM _ _)
   (tuple_addW2 t b vs.toArray ws.toArray n n2 dd Tp sl Tq (by grind) (by grind) (by grind)) ⟨ho,L3,?_⟩
  rw[e];exact h2 hw
def cL(n d:Nat):Option Int->Nat
 | none=>d
 | some v=>if v<0 then(v+(n:Int)).toNat else min v.toNat n
def uS(n d:Nat):cL n d none=d:=rfl
def zA(n d k:Nat):cL n d (some (k:Int))=min k n:=by
 show(if(k:Int)<0 then((k:Int)+(n:Int)).toNat else min (k:Int).toNat n)=min k n
 rw[if_neg (by lia),lu]
def L4(n d:Nat)(hd:d<=n)(o:Option Int):cL n d o<=n:=by
 cases o with
 | none=>exact hd
 | some v =>
  show(if v<0 then(v+(n:Int)).toNat else min v.toNat n)<=n
  by_cases hv:v<0
  ·grind
  ·grind
def zB(v:Int)(n d:Nat):(if v<0 then max (v+(n:Int)) 0 else min v (n:Int))=((cL n d (some v):Nat):Int):=by
 show(if v<0 then max (v+(n:Int)) 0 else min v (n:Int))=(((if v<0 then(v+(n:Int)).toNat else min v.toNat n):Nat):Int)
 by_cases hv:v<0
 ·grind
 ·grind
def xX(lo hi:Option Int)(n:Nat):Builtin.Slice.sliceAdjust lo hi 1 (n:Int)=(((cL n 0 lo:Nat):Int),((cL n n hi:Nat):Int)):=by
 have h1:¬(1<0):=by lia
 unfold Builtin.Slice.sliceAdjust;simp only[h1,de];refine Prod.ext ?_ ?_
 ·cases lo with
  | none=>rfl
  | some v=>exact zB v n 0
 ·cases hi with
  | none=>rfl
  | some v=>exact zB v n n
def xY(i j:Nat):Builtin.Slice.slicePlaces (i:Int) (j:Int) 1=j-i:=by
 unfold Builtin.Slice.slicePlaces;have h1:1>0:=by lia
 simp only[h1,ef,Int.ediv_one];split<;>lia
def nX(p:IsPart v o)(h:Q o s):wpAny (model prog w) A (Builtin.Slice.slicePartIndex v) Q E s:=by
 cases p with
 | none=>exact slicePart_none h
 | int i t=>exact slicePart_int h
def gu{vl vu:Value}{lo hi:Option Int}{n:Nat}{Q:Int×Int×Nat->Shared->Prop}(hs:s.heap.IsSliceOf sl vl vu .none)(pl:IsPart vl lo)(pu:IsPart vu hi)
  (h:Q (((cL n 0 lo:Nat):Int),1,cL n n hi-cL n 0 lo) s):wpAny (model prog w) A (Builtin.Slice.sliceApplied (.ref sl) (pure (n:Int))) Q E s:=by
 obtain⟨os,Gz,Ts,jg⟩:=id hs;unfold Builtin.Slice.sliceApplied Builtin.Slice.sliceFields;refine af (af (bu Gz jg rfl (af (bu Gz jg rfl (af (bu Gz jg rfl (ag ?_)))))));refine af (slicePart_none ?_);rw[if_neg (by decide)]
 refine af (nX pl (af (nX pu (af (ag ?_)))));show wpAny _ _ (match Builtin.Slice.sliceAdjust lo hi 1 (n:Int)with | (lo,hi)=>pure (lo,(1:Int),Builtin.Slice.slicePlaces lo hi 1)) _ _ s
 rw[xX lo hi n];show wpAny _ _ (pure (((cL n 0 lo:Nat):Int),(1:Int),Builtin.Slice.slicePlaces ((cL n 0 lo:Nat):Int) ((cL n n hi:Nat):Int) 1)) _ _ s;rw[xY];exact ag h
def DG(xs:Array Value)(i k:Nat):((List.range k).filterMap fun(m:Nat)=>xs[((i:Int)+(m:Int)*1).toNat]?).toArray=((xs.toList.drop i).take k).toArray:=by
 have e:(fun(m:Nat)=>xs[(i+(m:Int)*1).toNat]?)=λm=>xs[i+m]?:=by
  grind
 rw[e];have:=pick_run xs i k;rw[List.filterMap_map]at this;have e2:((λx=>xs[x]?) ∘ λx=>i+x)=λm=>xs[i+m]?:=rfl
 rw[e2]at this;rw[this]
def ko{items:Array Value}{vl vu:Value}{lo hi:Option Int}{Q:Value->Shared->Prop}(ht:IsTup s.heap t items)(hs:s.heap.IsSliceOf sl vl vu .none)(pl:IsPart vl lo)(pu:IsPart vu hi)
  (hw:¬(cL items.size 0 lo=0/\cL items.size items.size hi=items.size))
  (h:Q (.ref s.heap.objs.size) {s with heap:=s.heap.push {cls:=.type "tuple",data:=.seq ((items.toList.drop (cL items.size 0 lo)).take (cL items.size items.size hi-cL items.size 0 lo)).toArray}})
  (hsz:items.size<=sizeLine):wpAny (model prog w) A (getItem (.ref t) (.ref sl)) Q E s:=by
 have zC:sizeOk (.seq ((items.toList.drop (cL items.size 0 lo)).take (cL items.size items.size hi-cL items.size 0 lo)).toArray):=by
  show((items.toList.drop (cL items.size 0 lo)).take (cL items.size items.size hi-cL items.size 0 lo)).toArray.size<=sizeLine;rw[bO,lA,xp,lr]
  lia
 have hj:cL items.size items.size hi<=items.size:=L4 _ _ (ar _) hi;obtain⟨os,Gz,Ts,jg⟩:=id hs;have YG:s.TypeIs (.ref sl) "slice":=⟨os,Gz,Ts⟩;unfold getItem
 try with_reducible refine bX ?_
 first | refine af (ag ?_) | skip
 refine af (wpAny_sequenceKey ht.typeIs (by decide) ?_)
 refine af (dJ ht.typeIs lg
  (dt lg ht.typeIs entry_tuple_getitem ?_ (args_tuple_getitem _ _)))
 show wpAny _ _ (Builtin.Tuple.tupleItemsOf (.ref t) >>= _) _ _ s;refine af (tupleItemsOf_ ht ?_);refine af (jG YG ?_);rw[if_pos (by decide)]
 refine af (gu hs pl pu ?_);have UL:¬((((cL items.size 0 lo:Nat):Int)==0&&(1:Int)==1&&(cL items.size items.size hi-cL items.size 0 lo)==items.size)=true):=by
  grind
 show wpAny _ _ (if(((cL items.size 0 lo:Nat):Int)==0&&(1:Int)==1&&(cL items.size items.size hi-cL items.size 0 lo)==items.size)=true then _ else _) _ _ s
 rw[if_neg UL,DG]
 first
  | exact af (m:=Builtin.Tuple.tupleExact _) (jC (ag ⟨_,rfl,ag h⟩) zC)
  | exact af (m:=Builtin.Tuple.tupleExact _) (jC (af (ag (ag ⟨_,rfl,ag h⟩))) zC)
  | exact af (af (m:=Builtin.Tuple.tupleExact _) (jC (ag (ag ⟨_,rfl,ag h⟩)) zC))
  | exact af (af (m:=Builtin.Tuple.tupleExact _) (jC (ag ⟨_,rfl,ag h⟩) zC))
end
end HT
namespace L2
open PySem PySem.Spec PyProof.Rows
abbrev TO:=St->Hp->(Option Int->Hp->Prop)->Prop
def PO(X:Cx)(e:Option Expr)(t:TO):Prop :=
 ∀(ae:List (Addr×Obj)) (s:Shared) (σ:St) (H:Hp) (Q:Option Int->Hp->Prop),Inv X ae σ H s->t σ H Q ->
  wpAny (model X.prog X.w) X.A (evalPart e X.env) (λu s'=>∃o H',Inv X ae σ H' s'/\IsPart u o/\Q o H') X.xe s
def Hx:TO:=λ_ H Q=>Q none H
def Qj(t:TE):TO:=λσ H Q=>t σ H λx H1=>∃i,x=.int i/\Q (some i) H1
def xZ:∀{us:List Value},Vals (ns.map V.int) us->IntsAre us ns:=by
 induction ns with
 | nil=>intro us r;rw[eW]at r;cases r;exact .nil
 | cons n ns ih =>
  intro us r;rw[aO]at r;cases r with
  | cons r1 r2 =>
   obtain⟨t,e⟩:=r1;subst e;exact .cons n t (ih r2)
section
variable {X:Cx} {e:Expr} {te:TE} {lo hi:Option Expr} {tl th:TO} {pos p2:Pos}
def Hy:PO X none Hx:=by
 intro ae s σ H Q I h;rw[evalPart_none];exact ag ⟨none,H,I,.none,h⟩
def Hz(h:PE X e te):PO X (some e) (Qj te):=by
 intro ae s σ H Q I hw;rw[evalPart_some];refine thn (h ae s σ H _ I hw) λu s1 ⟨x,H1,I1,r1,q1⟩=>?_
 obtain⟨i,rfl,q⟩:=q1;obtain⟨t,rfl⟩:=r1;exact⟨some i,H1,I1,.int i t,q⟩
def Tt(X:Cx)(r:V->Option Int->Option Int->Hp->VK->Prop):Prop :=
 ∀(ae:List (Addr×Obj)) (s:Shared) (σ:St) (H:Hp) (x:V) (v vl vu:Value) (lo hi:Option Int) (sl:Addr) (Q:VK),Inv X ae σ H s->RelV x v->s.heap.IsSliceOf sl vl vu .none->IsPart vl lo->IsPart vu hi->r x lo hi H Q ->
  ∃T id,typeLookup (.type T) "__getitem__"=pure (some (.builtin id))/\s.TypeIs v T/\wpAny (model X.prog X.w) X.A (getItem v (.ref sl)) (EP X ae σ Q) X.xe s
def W2(r:V->Option Int->Option Int->Hp->VK->Prop)(te:TE)(tl th:TO):TE:=λσ H Q=>te σ H λx H1=>tl σ H1 λl H2=>th σ H2 λu H3=>r x l u H3 Q
def DH{r:V->Option Int->Option Int->Hp->VK->Prop}(hr:Tt X r)(he:PE X e te)(hl:PO X lo tl)(hu:PO X hi th):PE X (.Subscript e (.Slice lo hi none p2) pos) (W2 r te tl th):=by
 intro ae s σ H Q I h;refine Subscript_ (thn (he ae s σ H _ I h) λv s1 ⟨x,H1,I1,r1,q1⟩=>?_)
 refine wpAny_Slice (thn (hl ae s1 σ H1 _ I1 q1) λvl s2 ⟨l,H2,I2,pl,q2⟩=>thn (hu ae s2 σ H2 _ I2 q2) λvu s3 ⟨u,H3,I3,pu,q3⟩=>?_)
 rw[evalPart_none];refine ag ?_;have I4:Inv X ae σ H3 {s3 with heap:=s3.heap.push {cls:=.type "slice",data:=.fields #[vl,vu,.none]}}:=I3.kept λb ob q=>aj _ q
 obtain⟨T,id,hT,ht,hg⟩:=hr ae {s3 with heap:=s3.heap.push {cls:=.type "slice",data:=.fields #[vl,vu,.none]}} σ H3 x v vl vu l u s3.heap.objs.size Q I4 r1 (Heap.IsSliceOf.new ..) pl pu q3
 show wpAny (model X.prog X.w) X.A (subscriptTail e (.Slice lo hi none p2) v (.ref s3.heap.objs.size)) (EP X ae σ Q) X.xe {s3 with heap:=s3.heap.push {cls:=.type "slice",data:=.fields #[vl,vu,.none]}}
 exact lK ht hT hg (by with_unfolding_all rfl)
def uT(xs:List V)(lo hi:Option Int):List V:=(xs.drop (HT.cL xs.length 0 lo)).take (HT.cL xs.length xs.length hi-HT.cL xs.length 0 lo)
def mj(xs:List V)(lo hi:Option Int):(uT xs lo hi).length<=xs.length:=by
 unfold uT;rw[lA,xp]
 lia
def UM(K:W.Frag):V->Option Int->Option Int->Hp->VK->Prop:=λx lo hi H Q=>∃a xs,x=.ref a/\fA K H a xs /\
 ¬(HT.cL xs.length 0 lo=0/\HT.cL xs.length xs.length hi=xs.length)/\∀p,H p=none->Q (.ref p) (bZ H p (.aq (uT xs lo hi)))
def L5:Tt X (UM X.K):=by
 intro ae s σ H x v vl vu lo hi sl Q I rx hs pl pu h;obtain⟨a,xs,rfl,hx,hw,q⟩:=h;cases rx;obtain⟨ai,r,ht,hz⟩:=I.tuple hx;have cX:ai.toArray.size=xs.length:=by rw[bO];exact r.length.symm
 refine⟨"tuple",_,lg.lookup,ht.typeIs,?_⟩;refine HT.ko ht hs pl pu (by grind) ?_ (by grind)
 rw[cX];refine⟨.ref s.heap.objs.size,_,I.laid (λb ob q=>aj _ q) (ar _) ?_,rfl,q _ (I.hok.fresh (ar _))⟩
 exact⟨aD (mj xs lo hi) hz,_,(r.drop (HT.cL xs.length 0 lo)).take (HT.cL xs.length xs.length hi-HT.cL xs.length 0 lo),mB.new _ _⟩
def Qk(K:W.Frag):R2:=λx y H Q=>∃a b xs ys,x=.ref a/\y=.ref b/\fA K H a xs/\fA K H b ys/\xs≠[]/\xs.length+ys.length<=sizeLine /\
 (ys=[]->Q (.ref a) H)/\(ys≠[]->∀p,H p=none->Q (.ref p) (bZ H p (.aq (xs++ys))))
def Vals.kq(r:Vals xs us):us=[]↔xs=[]:=by
 cases r with
 | nil=>simp
 | cons _ _=>simp
def HA:OpR X (binaryOp .Add) (Qk X.K):=by
 intro ae s σ H x y v u Q I rx ry h;obtain⟨a,b,xs,ys,rfl,rfl,ha,hb,hx,hz,q1,q2⟩:=h;cases rx;cases ry;obtain⟨ai,r1,p1,_⟩:=I.tuple ha;obtain⟨bY,r2,p2,_⟩:=I.tuple hb;refine HT.zz p1 p2 (λz=>hx (r1.kq.mp z)) (λz=>⟨.ref a,H,I,rfl,q1 (r2.kq.mp z)⟩) (λz=>?_) (by rw[<-r1.length,<-r2.length];exact hz)
 refine⟨.ref s.heap.objs.size,_,I.laid (λb ob q=>aj _ q) (ar _) ?_,rfl,q2 (λw=>z (r2.kq.mpr w)) _ (I.hok.fresh (ar _))⟩
 exact⟨by grind,_,r1.append r2,mB.new _ _⟩
end
def GA(n:Nat)(i:Int):Option Nat:=if 0<=i then(if i<n then some i.toNat else none)else if -(n:Int)<=i then some (i+n).toNat else none
def nY{α:Type}(xs:List α)(i:Int):Option α:=(GA xs.length i).bind λj=>xs[j]?
def zD(h:GA n i=some j):seqIndex? i n=some j/\j<n /\ -(n:Int)<=i/\i<n:=by
 unfold GA at h;by_cases h0:0<=i
 ·rw[if_pos h0]at h;by_cases h1:i<n
  ·rw[if_pos h1]at h;have e:=bt h;exact⟨by rw[seqIndex_of h0 h1,e],by lia,by lia,h1⟩
  ·grind
 ·rw[if_neg h0]at h;by_cases h1:-n<=i
  ·rw[if_pos h1]at h;have e:=bt h;exact⟨by rw[seqIndex_neg (by lia) h1,e],by lia,h1,by lia⟩
  ·grind
def sV{α:Type}{xs:List α}{i:Int}{v:α}(h:nY xs i=some v):∃j,seqIndex? i xs.length=some j/\xs[j]?=some v/\j<xs.length /\ -(xs.length:Int)<=i/\i<xs.length:=by
 unfold nY at h;cases e:GA xs.length i with
 | none=>rw[e]at h;cases h
 | some j =>
  rw[e]at h;obtain⟨h1,h2,h3,h4⟩:=zD e;exact⟨j,h1,h,h2,h3,h4⟩
def atI_nat{α:Type}{xs:List α}{j:Nat}{v:α}(h:xs[j]?=some v):nY xs (j:Int)=some v:=by
 have hj:=(dI.mp h).1;have e:GA xs.length j=some j:=by
  unfold GA;rw[if_pos (by lia),if_pos (by lia)];simp
 unfold nY;rw[e];exact h
def kr(b:Expr):Prop:=∀o i,subscripted b false o i=operate [o,i] (getItem o i)
def O3(X:Cx)(r:R2):Prop :=
 ∀(value slice:Expr) (ae:List (Addr×Obj)) (s:Shared) (σ:St) (H:Hp) (x y:V) (v u:Value) (Q:VK),Inv X ae σ H s->RelV x v->RelV y u->r x y H Q ->
  subscripted slice false v u=operate [v,u] (getItem v u)->wpAny (model X.prog X.w) X.A (subscriptTail value slice v u) (EP X ae σ Q) X.xe s
def L6(X:Cx)(id:String)(r:V->List V->Hp->VK->Prop):Prop :=
 ∀(ae:List (Addr×Obj)) (s:Shared) (σ:St) (H:Hp) (x:V) (xs:List V) (v:Value) (us:List Value) (Q:VK),Inv X ae σ H s->RelV x v->Vals xs us->r x xs H Q ->
  wpAny (model X.prog X.w) X.A (call (.builtin id) (v::us)) (EP X ae σ Q) X.xe s
section
variable {X:Cx} {a b:Expr} {ta tb:TE} {pos:Pos}
def DI(hr:O3 X r)(ha:PE X a ta)(hb:PE X b tb)(hs:kr b):PE X (.Subscript a b pos) (LJ r ta tb):=by
 intro ae s σ H Q I h;exact Subscript_ (Hh ha hb I h λv u s2 x y H2 I2 rx ry q=>hr a b ae s2 σ H2 x y v u Q I2 rx ry q (hs _ _))
def UN(K:W.Frag):R2:=λx y H Q=>∃p xs i v,x=.ref p/\y=.int i/\sS K H p xs/\nY xs i=some v/\Q v H
def UO(K:W.Frag):R2:=λx y H Q=>∃p xs i v,x=.ref p/\y=.int i/\fA K H p xs/\nY xs i=some v/\Q v H
def UP:R2:=λx y H Q=>∃z i c,x=.str z/\y=.int i/\z.length<=sizeLine/\nY z.cps.toList i=some c/\Q (.str ⟨#[c]⟩) H
def HB:O3 X (UN X.K):=by
 intro value slice ae s σ H x y v u Q I rx ry h hs;obtain⟨p,xs,i,z,rfl,rfl,hq,he,q⟩:=h;cases rx;obtain⟨t,rfl⟩:=ry;obtain⟨ai,r,pl,hz⟩:=I.list hq;obtain⟨j,h1,h2,h3,h4,h5⟩:=sV he;obtain⟨w,ew,HC⟩:=r.get h2;have hl:=r.length;have hn:=jJ;have i8:EP X ae σ Q w s:=⟨z,H,I,HC,q⟩;by_cases h0:0<=i
 ·have hj:i.toNat=j:=by
   rw[seqIndex_of h0 h5]at h1;exact bt h1
  exact item_listR pl.isList h0 (by lia) (by grind) i8 hs
 ·have hj:(i+(ai.toArray.size:Int)).toNat=j:=by
   rw[seqIndex_neg (by lia) h4]at h1
   rw[bO,<-hl];exact bt h1
  exact subscriptTail_builtinR pl.isList.typeIs slot_list_getitem.lookup
   (wpAny_getItem_list_neg pl.isList (by lia) (by grind) (by lia) (by grind) ⟨rfl,i8⟩) hs
def L7:O3 X (UO X.K):=by
 intro value slice ae s σ H x y v u Q I rx ry h hs;obtain⟨p,xs,i,z,rfl,rfl,hq,he,q⟩:=h;cases rx;obtain⟨t,rfl⟩:=ry;obtain⟨ai,r,pl,hz⟩:=I.tuple hq;obtain⟨j,h1,h2,h3,h4,h5⟩:=sV he;obtain⟨w,ew,HC⟩:=r.get h2;have hl:=r.length;have hn:=jJ;have i8:EP X ae σ Q w s:=⟨z,H,I,HC,q⟩;exact subscriptTail_builtinR pl.typeIs slot_tuple_getitem.lookup
  (getItem_tuple pl (by lia) (by lia) (by rw[bO,<-hl];exact h1) (by grind) ⟨rfl,i8⟩) hs
def L8:O3 X UP:=by
 intro value slice ae s σ H x y v u Q I rx ry h hs;obtain⟨z,i,c,rfl,rfl,hz,he,q⟩:=h;obtain⟨t,rfl⟩:=rx;obtain⟨t',rfl⟩:=ry;obtain⟨j,h1,h2,h3,h4,h5⟩:=sV he;have hl:z.cps.toList.length=z.length:=by simp[Str.length]
 rw[hl]at h1 h4 h5;have hn:=jJ;exact lK (typeIs_str s z t) slot_str_getitem.lookup (getItem_str (by
  grind) (by grind) ⟨.str ⟨#[c]⟩,H,I.tok _,⟨_,rfl⟩,q⟩) hs
def ya(ai:List Value)(n j:Nat)(u:Value):Obj.mapSeq (·.setIfInBounds j u) {cls:=.type "list",data:=.seq ai.toArray n}={cls:=.type "list",data:=.seq (ai.set j u).toArray n}:=by
 simp[Obj.mapSeq]
def Inv.lst{ae:List (Addr×Obj)}{σ:St}{H:Hp}{s:Shared}{p:Addr}{xs:List V}(I:Inv X ae σ H s)(h:H p=some (.lst xs)) :
  ∃(ai:List Value) (n:Nat),Vals xs ai/\s.heap.get? p=some {cls:=.type "list",data:=.seq ai.toArray n}/\xs.length<=sizeLine:=by
 obtain⟨z,ai,n,r,e⟩:=I.hok p _ h;exact⟨ai,n,r,e,z⟩
def Inv.L9{ae:List (Addr×Obj)}{σ:St}{H:Hp}{s:Shared}{p:Addr}{xs ys:List V}{ai mC:List Value}{n n':Nat}{f:Obj->Obj}(I:Inv X ae σ H s)(h:H p=some (.lst xs))
  (ho:s.heap.get? p=some {cls:=.type "list",data:=.seq ai.toArray n}) (hf:f {cls:=.type "list",data:=.seq ai.toArray n}={cls:=.type "list",data:=.seq mC.toArray n'}) (r:Vals ys mC) (hz:ys.length<=sizeLine) (t:Nat) :
  Inv X ae σ (bZ H p (.lst ys)) {s with heap:=s.heap.update p f,toks:=t}:=by
 have e:(s.heap.update p f).get? p=some {cls:=.type "list",data:=.seq mC.toArray n'}:=by
  rw[iz f ho (by rw[hf]<;>rfl),hf]
 refine I.write (by rw[h];trivial) (.inl rfl) (λb u hb q=>(ix _ _ (bA hb)).trans q) ⟨_,e⟩ ?_
 exact⟨hz,mC,n',r,e⟩
def Ql:V->V->V->Hp->(Hp->Prop)->Prop:=λo i v H Q=>∃p xs k j,o=.ref p/\i=.int k/\H p=some (.lst xs)/\GA xs.length k=some j/\Q (bZ H p (.lst (xs.set j v)))
def DJ:Ds X Ql:=by
 intro ae s σ H o i v ov iv u Q I ro ri rv h;obtain⟨p,xs,k,j,rfl,rfl,hp,hj,q⟩:=h;cases ro;obtain⟨t,rfl⟩:=ri;obtain⟨ai,n,r,ho,hz⟩:=I.lst hp;obtain⟨h1,h2,h3,h4⟩:=zD hj;have hl:=r.length;have hn:=jJ;have I':Inv X ae σ (bZ H p (.lst (xs.set j v))) {s with heap:=s.heap.update p (Obj.mapSeq (·.setIfInBounds j u))} :=
  I.L9 hp ho (ya ai n j u) (r.set rv j) (by grind) s.toks
 by_cases h0:0<=k
 ·have hk:k.toNat=j:=by
   rw[seqIndex_of h0 h4]at h1;exact bt h1
  exact W.ki_setAt ho h0 (by lia) (by grind) (by grind)
 ·have hk:(k+(ai.toArray.size:Int)).toNat=j:=by
   rw[seqIndex_neg (by lia) h3]at h1
   rw[bO,<-hl];exact bt h1
  exact W.ki_setBack ho (by lia) (by grind) (by lia) (by grind)
def sW(lo hi:Option Int)(n:Nat):(sliceBounds lo hi none n).1=((HT.cL n 0 lo:Nat):Int)/\(sliceBounds lo hi none n).2.1=((HT.cL n n hi:Nat):Int)/\(sliceBounds lo hi none n).2.2=1:=by
 refine⟨?_,?_,rfl⟩
 ·cases lo with
  | none=>simp[sliceBounds,HT.cL]
  | some i =>
   simp only[sliceBounds,HT.cL,xl,show 1>0 by decide,ef]
   by_cases h:i<0
   ·grind
   ·grind
 ·cases hi with
  | none=>simp[sliceBounds,HT.cL]
  | some i =>
   simp only[sliceBounds,HT.cL,xl,show 1>0 by decide,ef]
   by_cases h:i<0
   ·grind
   ·grind
def pP(ai:List Value)(lo hi:Option Int):slicePick ai.toArray lo hi none=((ai.drop (HT.cL ai.length 0 lo)).take (HT.cL ai.length ai.length hi-HT.cL ai.length 0 lo)).toArray:=by
 obtain⟨h1,h2,h3⟩:=sW lo hi ai.toArray.size;unfold slicePick;rw[h1,h2,h3];simp only[sliceRange_one,pick_run,bO]<;>rfl
def UQ(K:W.Frag):V->Option Int->Option Int->Hp->VK->Prop:=λx lo hi H Q=>∃a xs,x=.ref a/\sS K H a xs/\∀p,H p=none->Q (.ref p) (bZ H p (.lst (uT xs lo hi)))
def HE:Tt X (UQ X.K):=by
 intro ae s σ H x v vl vu lo hi sl Q I rx hs pl pu h;obtain⟨a,xs,rfl,hx,q⟩:=h;cases rx;obtain⟨ai,r,ht,hz⟩:=I.list hx;have cX:=r.length;refine⟨"list",_,slot_list_getitem.lookup,ht.isList.typeIs,?_⟩;refine wpAny_getItem_list_slice ht.isList hs pl pu .none (by simp) ?_ (by grind)
 rw[pP,<-cX];refine⟨.ref s.heap.objs.size,_,I.laid (λb ob q=>aj _ q) (ar _) ?_,rfl,q _ (I.hok.fresh (ar _))⟩
 exact⟨aD (mj xs lo hi) hz,_,0,(r.drop (HT.cL xs.length 0 lo)).take (HT.cL xs.length xs.length hi-HT.cL xs.length 0 lo),aY _ rfl⟩
def ku:jr X (.builtin "len") (λxs H Q=>∃p ys,xs=[.ref p]/\(sS X.K H p ys\/fA X.K H p ys)/\Q (.int ys.length) H):=by
 intro ae s σ H xs us Q I r h;obtain⟨p,ys,rfl,hq,q⟩:=h;obtain⟨u,rfl,rx⟩:=ia r;cases rx;have hn:=jJ;rcases hq with hq | hq
 ·obtain⟨ai,r',pl,hz⟩:=I.list hq;have cX:=r'.length;exact Calls.call_len_list pl.isList (by grind) ⟨.int ys.length,H,I.tok _,⟨s.toks+1,by grind⟩,q⟩
 ·obtain⟨ai,r',pl,hz⟩:=I.tuple hq;have cX:=r'.length;exact len_tuple pl (by grind) ⟨.int ys.length,H,I.tok _,⟨s.toks+1,by grind⟩,q⟩
def sX:jr X (.builtin "len") (λxs H Q=>∃z,xs=[.str z]/\z.length<=sizeLine/\Q (.int z.length) H):=by
 intro ae s σ H xs us Q I r h;obtain⟨z,rfl,hz,q⟩:=h;obtain⟨u,rfl,t,rfl⟩:=ia r;have hn:=jJ;exact len_str (by lia) ⟨.int z.length,H,I.tok _,⟨_,rfl⟩,q⟩
def js:jr X (.type "tuple") (λxs H Q=>∃p ys,xs=[.ref p]/\((sS X.K H p ys/\∀l,H l=none->Q (.ref l) (bZ H l (.aq ys)))\/(fA X.K H p ys/\Q (.ref p) H))):=by
 intro ae s σ H xs us Q I r h;obtain⟨p,ys,rfl,h⟩:=h;obtain⟨u,rfl,rx⟩:=ia r;cases rx;rcases h with⟨hq,q⟩ | ⟨hq,q⟩
 ·obtain⟨ai,r',pl,hz⟩:=I.list hq;have cX:=r'.length;refine call_tuple_list pl.isList (λh' kp=>?_) (by grind)
  have I1:=I.kept (t':=s.toks) kp;have I2:Inv X ae σ (bZ H h'.objs.size (.aq ys)) {s with heap:=h'.push {cls:=.type "tuple",data:=.seq ai.toArray}} :=
   I1.laid (λb o e=>aj _ e) (ar _) (⟨hz,ai,r',mB.new _ _⟩)
  exact⟨.ref h'.objs.size,_,I2,rfl,q _ (I1.hok.fresh (ar _))⟩
 ·obtain⟨ai,r',pl,hz⟩:=I.tuple hq;exact call_tuple_same pl ⟨.ref p,H,I,rfl,q⟩
def tyV(K:W.Frag)(T:String)(x:V)(H:Hp):Prop:=match x with
 | .str _=>T="str"
 | .int _=>T="int"
 | .ref p=>(T="list"/\∃xs,sS K H p xs)\/(T="tuple"/\∃o,K.lookup p=some o/\o.cls=.type "tuple"/\o.dict=none) \/
   (T="dict"/\((∃kvs,H p=some (.dK kvs))\/∃kvs,H p=some (.dT kvs)))\/(T="set"/\∃S n,H p=some (.set S n))
 | _=>False
def DK{ae:List (Addr×Obj)}{σ:St}{H:Hp}{s:Shared}{T:String}{x:V}{v:Value}(I:Inv X ae σ H s)(r:RelV x v)(ty:tyV X.K T x H) :
  s.TypeIs v T/\∀a,v=.ref a->∃ob,s.heap.get? a=some ob/\ob.dict=none:=by
 cases x with
 | str z =>
  obtain⟨t,rfl⟩:=r;cases(ty);exact⟨typeIs_str s z t,λ_ e=>nomatch e⟩
 | int i =>
  obtain⟨t,rfl⟩:=r;cases(ty);exact⟨nI s i t,λ_ e=>nomatch e⟩
 | ref p =>
  cases r;rcases ty with⟨rfl,xs,hq⟩ | ⟨rfl,o,hk,hc,hd⟩ | ⟨rfl,hk⟩ | ⟨rfl,S,n,hk⟩
  ·obtain⟨ai,_,pl,_⟩:=I.list hq;refine⟨pl.isList.typeIs,λa e=>?_⟩
   cases e;obtain⟨o,n,e,c,hd,_⟩:=pl;exact⟨o,e,hd⟩
  ·refine⟨⟨o,I.nN p o hk,hc⟩,λa e=>?_⟩
   cases e;exact⟨o,I.nN _ o hk,hd⟩
  ·have z:∃o,s.heap.get? p=some o/\o.ExactDict:=by
    rcases hk with⟨kvs,hk⟩ | ⟨kvs,hk⟩
    ·obtain⟨_,_,_,_,o,_,_,e,ex,_⟩:=I.hok p _ hk;exact⟨o,e,ex⟩
    ·obtain⟨_,_,o,_,_,e,ex,_⟩:=(I.hok p _ hk);exact⟨o,e,ex⟩
   obtain⟨o,e,ex⟩:=z;refine⟨⟨o,e,ex.1⟩,λa e2=>?_⟩
   cases e2;exact⟨o,e,ex.2.1⟩
  ·obtain⟨o,_,_,_,e,ex,_⟩:=I.hok p _ hk;refine⟨⟨o,e,ex.1⟩,λa e2=>?_⟩
   cases e2;exact⟨o,e,ex.2.1⟩
 | _=>exact False.elim ty
def Qm(K:W.Frag)(T:String)(r:V->List V->Hp->VK->Prop)(to:TE):TE:=λσ H Q=>to σ H λx H1=>tyV K T x H1/\r x [] H1 Q
def W3(K:W.Frag)(T:String)(r:V->List V->Hp->VK->Prop)(to:TE)(t:TA):TE:=λσ H Q=>to σ H λx H1=>tyV K T x H1/\t σ H1 λxs H2=>r x xs H2 Q
variable {o e:Expr} {es:List Expr} {to:TE} {t:TA} {name:Str} {kh fR:Pos} {T id:String} {r:V->List V->Hp->VK->Prop}
def DL(pa:PlainAttrs T)(slot:Slot T name id)(UR:typeOf (.builtin id)=pure (.type "method_descriptor"))(hm:L6 X id r)(ho:PE X o to)
  (fY:attributeBase o name X.env (eval o X.env)=eval o X.env:=by rfl) (fq:(kh.endLine==fR.line)=true:=by rfl):PE X (.Call (.Attribute o name kh) [] [] fR) (Qm X.K T r to):=by
 intro ae s σ H Q I h;refine wpAny_Call_method0_late fY fq (thn (ho ae s σ H _ I h) λv s1 z9=>?_)
 obtain⟨x,H1,I1,r1,ty,q1⟩:=z9;obtain⟨h1,h2⟩:=DK I1 r1 ty;exact⟨T,id,pa,slot,UR,h1,h2,Calls.callWith_builtin rfl (PySem.evalArgs_none (hm ae s1 σ H1 x [] v [] Q I1 r1 .nil q1))⟩
def nZ(pa:PlainAttrs T)(slot:Slot T name id)(UR:typeOf (.builtin id)=pure (.type "method_descriptor"))(hm:L6 X id r)(ho:PE X o to)(ha:PA X (e::es) t)
  (fY:attributeBase o name X.env (eval o X.env)=eval o X.env:=by rfl)
  (pQ:((backTo fR (starEach (e::es) X.env)).all (λx=>!x.1)&&(backToKw fR (keywordEach [] X.env)).all (λx=>x.1.isSome)
   && decide ((e::es).length+([]:List Keyword).length+(if([]:List Keyword).isEmpty then 0 else 1)<30))=true:=by rfl)
  (fq:(kh.endLine==fR.line)=true:=by rfl) (hs:starEach (e::es) X.env=(false,eval e X.env)::starEach es X.env:=by rfl) (US:(backTo fR (starEach es X.env)).any (·.1)=false:=by rfl) :
  PE X (.Call (.Attribute o name kh) (e::es) [] fR) (W3 X.K T r to t):=by
 intro ae s σ H Q I h;refine wpAny_Call_method_late fY pQ fq rfl (thn (ho ae s σ H _ I h) λv s1 z9=>?_)
 obtain⟨x,H1,I1,r1,ty,q1⟩:=z9;obtain⟨h1,h2⟩:=DK I1 r1 ty;refine⟨T,id,pa,slot,UR,h1,h2,?_⟩;have hA:=ha fR ae s1 σ H1 _ I1 q1;rw[hs]at hA ⊢;refine Calls.callWith_builtin (by grind) (Calls.evalArgs_plain ?_)
 exact thn hA (by rintro us s2 ⟨vs,H2,I2,r2,q2⟩;exact hm ae s2 σ H2 x vs v us Q I2 r1 r2 q2)
end
def Tu(X:Cx)(id:String)(r:V->List V->Hp->VK->Prop):Prop :=
 ∀(ae:List (Addr×Obj)) (s:Shared) (σ:St) (H:Hp) (x:V) (xs:List V) (v:Value) (us:List Value) (Q:VK),Inv X ae σ H s->RelV x v->Vals xs us->r x xs H Q ->
  wpAny (model X.prog X.w) X.A (call (.builtin id) (v::us)) (EP X ae σ Q) X.xe s
theorem Vals.one:∀{x:V} {us:List Value},Vals [x] us->∃u,us=[u]/\RelV x u
 | _,_,.cons r .nil=>⟨_,rfl,r⟩
def Vals.two{x y:V}{us:List Value}(h:Vals [x,y] us):∃u v,us=[u,v]/\RelV x u/\RelV y v:=by
 cases h with
 | cons r h=>cases h with
  | cons q h=>cases h;exact⟨_,_,rfl,r,q⟩
theorem Vals.zero:∀{us:List Value},Vals [] us->us=[]
 | _,.nil=>rfl
theorem Vals.eraseIdx:∀{xs:List V} {us:List Value} (i:Nat),Vals xs us->Vals (xs.eraseIdx i) (us.eraseIdx i)
 | _,_,_,.nil=>.nil
 | _,_,0,.cons _ t=>t
 | _,_,i+1,.cons r t=>.cons r (Vals.eraseIdx i t)
def Vals.reverse(h:Vals xs us):Vals xs.reverse us.reverse:=by
 induction h with
 | nil=>exact .nil
 | cons r t ih=>rw[r9,r9];exact Vals.append ih (.cons r .nil)
section
variable {X:Cx} {ae:List (Addr×Obj)} {σ:St} {H:Hp} {s:Shared} {l b:Addr} {xs ys zs:List V}
def Inv.HF{ai mC:List Value}{n:Nat}{f:Array Value->Array Value}{t':Nat}(I:Inv X ae σ H s)(hH:H l=some (.lst xs))
  (e:s.heap.get? l=some {cls:=.type "list",data:=.seq ai.toArray n}) (hf:f ai.toArray=mC.toArray) (hv:Vals ys mC) (hz:ys.length<=sizeLine) :
  Inv X ae σ (bZ H l (.lst ys)) {s with heap:=s.heap.update l (Obj.mapSeq f),toks:=t'}:=by
 have q:=PySem.IsL.update e f;rw[hf]at q;refine I.write (by rw[hH];exact trivial) (.inl rfl) (λb' u hb hu=>(ix s.heap (Obj.mapSeq f) (bA hb)).trans hu) ⟨_,q⟩ ?_
 exact⟨hz,mC,_,hv,q⟩
def Inv.Ma(I:Inv X ae σ H s)(hv:Vals ys ai)(hz:ys.length<=sizeLine) :
  Inv X ae σ (bZ H s.heap.objs.size (.lst ys)) {s with heap:=s.heap.push {cls:=.type "list",data:=.seq ai.toArray},toks:=t'} :=
 I.laid (λ_ _ q=>aj _ q) (ar _) ⟨hz,ai,0,hv,aY _ rfl⟩
def Inv.fresh(I:Inv X ae σ H s):H s.heap.objs.size=none:=I.hok.fresh (ar _)
def Inv.iM(I:Inv X ae σ H s)(hH:H l=some (.lst xs)):xs.length<=sizeLine/\∃(ai:List Value) (n:Nat),Vals xs ai/\xs.length=ai.length/\s.heap.get? l=some {cls:=.type "list",data:=.seq ai.toArray n}:=by
 obtain⟨z,ai,n,r,e⟩:=I.hok l _ hH;exact⟨z,ai,n,r,r.length,e⟩
def uU(h:n<=sizeLine):Builtin.List.listTooLong n=false:=by
 unfold Builtin.List.listTooLong;exact aP (by lia)
end
section
variable {X:Cx}
def zE:V->List V->Hp->VK->Prop:=λx vs H Q=>∃l xs y,x=.ref l/\vs=[y]/\H l=some (.lst xs)/\xs.length<sizeLine/\Q .aN (bZ H l (.lst (xs++[y])))
def A9:Tu X "list.append" zE:=by
 intro ae s σ H x vs v us Q I rx rv h;obtain⟨l,xs,y,rfl,rfl,hH,hz,q⟩:=h;cases rx;obtain⟨u,rfl,ru⟩:=rv.one;obtain⟨z,ai,n,r,hl,e⟩:=I.iM hH;refine dw F.slot_list_append ⟨_,e,rfl⟩ F.entry_list_append (F.args_list_append_2 _ _) (PySem.list_append l ai.toArray n u (by grind)) ⟨e,?_⟩
 refine⟨.aN,_,I.HF hH e (by simp) (r.append (.cons ru .nil)) ?_,rfl,q⟩
 rw[dM,List.length_singleton]
 lia
def uV:V->List V->Hp->VK->Prop:=λx vs H Q=>∃l xs,x=.ref l/\vs=[]/\H l=some (.lst xs)/\Q .aN (bZ H l (.lst xs.reverse))
def yb:Tu X "list.reverse" uV:=by
 intro ae s σ H x vs v us Q I rx rv h;obtain⟨l,xs,rfl,rfl,hH,q⟩:=h;cases rx;have UT:=rv.zero;subst UT;obtain⟨z,ai,n,r,hl,e⟩:=I.iM hH;refine dw F.slot_list_reverse ⟨_,e,rfl⟩ F.entry_list_reverse (F.args_list_reverse_1 _) (AutoSeq1.list_reverse_list_0 l ai.toArray n (by grind)) ⟨e,?_⟩
 refine⟨.aN,_,I.HF hH e (by simp) r.reverse ?_,rfl,q⟩
 rw[List.length_reverse]
 lia
end
end L2
namespace W4
open PySem PySem.W PySem.Calls PyProof.Rows
def mE:∀(ns:List Int) (vs:List Value),WellAll P h vs (ns.map WData.int)->IntsAre vs ns:=by
 intro ns;induction ns with
 | nil =>
  intro vs w;rw[eW]at w;cases w;exact .nil
 | cons n ns ih =>
  intro vs w;rw[aO]at w;cases w with
  | cons a b =>
   cases a;exact .cons _ _ (ih _ b)
def Ba{l:OpenLaw}(hn:l.most=some n) 
  (HG:l.row.toRowW.claim.pre args=true) (UU:WellAll P h Qn args) :
  ∃a vs ns,Qn=[Value.ref a]/\args=[WData.list (ns.map WData.int)]/\h.get? a=some {cls:=.type "list",data:=.seq vs.toArray}/\IntsAre vs ns/\ns.length<=n:=by
 have YH:=(pre_splitW HG).1;have hc:l.pre.holds [] {args:=args}=true:=(pre_splitW HG).2
 obtain⟨d,r,rfl,h1,h2⟩:=hasAllW_cons YH;obtain rfl:=hasAllW_nil h2;obtain⟨xs,rfl,h3⟩:=hasW_list h1;obtain⟨ns,rfl⟩:=items_int h3;have cX:ns.length<=n:=by
  unfold OpenLaw.pre at hc;have h4:(WTm.not (.lt (.lit (.int n)) (.len (.arg 0)))).holds [] {args:=[.list (ns.map .int)]}=true:=by
   have h4:=(holds_andW hc).1;rw[hn]at h4;exact h4
  have h5:=condW_of h4 (w_not (w_lt w_lit (w_len_list (w_arg rfl))));rw[ak]at h5;refine xu λq=>?_
  have q':n<(ns.length:Nat):=by lia
  first
   | (rw[aG q']at h5;exact absurd h5 (by decide))
   | (simp at h5;lia)
 cases UU with
 | cons w1 w2 =>
  cases w2;cases w1 with
  | list ho DM=>exact⟨_,_,ns,rfl,rfl,ho,mE ns _ DM,cX⟩
def Bb(l:OpenLaw)(args:List WData):l.row.toRowW.claim.post args (.bool true) args=true :=
 postW_of
  (show WShape.has [] (.bool true) .bool=true by first | rfl | decide | simp[WShape.has,WShape.arms,WShape.armsAll])
  (w_eq_bool (w_res rfl) w_lit) rfl
def uW{l:OpenLaw}{n:Nat}{loose:List Str}{XP:(Str->Option Value)->Heap->Prop}{YP:World->Heap->Prop}{d:DefRec}
  (hn:l.most=some n) (UW:d.params.defaults=[])
  (call:∀(w:World) (s₀ s₁:Shared) (mg mb:Str->Option Value) (fa:Addr) (o:Obj) (pm cd doc:Value) (a:Addr) (vs:List Value) (ns:List Int),
   Ground q loose [] XP w s₀ mg mb s₁.heap->YP w s₁.heap ->
   s₁.heap.get? fa=some o->o.data=.func (docDef d.name d.params d.body d.scope pm cd doc)->s₁.heap.CodeRec cd d.name->mg d.name=some (.ref fa) ->
   s₁.heap.get? a=some {cls:=.type "list",data:=.seq vs.toArray}->IntsAre vs ns->ns.length<=n->s₁.gens=#[] ->
   codeAny (model l.prog w) callerA (.call (.ref fa) ⟨[.ref a],[]⟩) (λr s'=>r=.ok (.ret (.bool true))/\OldK s₁.heap s'.heap/\s'.os=s₁.os/\AllBare s'.gens) s₁) :
  WalkO q loose XP YP l.row.toRowW d [] (λf vs=>PySem.call f vs):=by
 intro w s₀ s₁ mg mb G Y fa o pm cd doc dV kV ho hd Cz hD zF hg args Qn as HG YI hrd UU hlo;obtain rfl:dV=.none:=Dflts.none hD UW;obtain rfl:kV=.none:=Dflts.noKw hD;obtain⟨a,vs,ns,rfl,rfl,DN,DO,cX⟩:=Ba hn HG UU;refine enter_call (lJ (call w s₀ s₁ mg mb fa o pm cd doc a vs ns G Y ho (fd_plain hd) Cz zF DN DO cX hg) λr s' hq=>?_)
 obtain⟨rfl,h2,h3,h4⟩:=hq;exact⟨.inl ⟨.bool true,.bool true,[],rfl,λ_=>rfl,.bool true,Bb l _,λ_=>⟨List.Pairwise.nil,λ_ hm=>(nomatch hm)⟩⟩,h2,h3,h4⟩
end W4
namespace L2
open PySem PySem.Spec PyProof.Rows
theorem qA:∀{vs:List Value} {ns:List Int},IntsAre vs ns->Vals (ns.map V.int) vs
 | _,_,.nil=>.nil
 | _,_,.cons n t h=>.cons ⟨t,rfl⟩ (qA h)
def Bc{P:Program}{w:World}{K:W.Frag}{mg mb:Str->Option Value}{CX:CU}{k:Nat}{fa a:Addr}{fd:FuncData}{x:Str}{sp:Sp}{s₁:Shared}{vs:List Value}{ns:List Int}{tabs:List (Addr×Str)}
  (KX:K.In s₁.heap) (HH:s₁.heap.Ns mainGlobals mg) (hb:s₁.heap.Ns builtinsNs mb) (Tv:∀x:Str,x≠"__name__"->mb x=bootBuiltins x) (yc:s₁.heap.NoLimit) (hg:s₁.gens=#[])
  (hT:∀b q,tabs.lookup b=some q->s₁.heap.get? b=some {cls:=.none,data:=.fields #[]}/\isCodeTable s₁.heap b/\K.lookup b=none) (hTI:∀H:Hp,(∀b q,tabs.lookup b=some q->H b=some (.fQ q))->nM K H)
  (ha:s₁.heap.get? a=some {cls:=.type "list",data:=.seq vs.toArray}) (hi:IntsAre vs ns) (hl:ns.length<=sizeLine) (hr:dP k callerA)
  (F:∀base:Heap,K.In base->base.Ns mainGlobals mg->FnOk P w K mg base CX k fa fd [x] sp) (Qo:∀(s:Shared) (u:Value),BindsTo s fd ⟨[u],[]⟩ [(x,u)])
  (O2:∀H:Hp,gq K H a (ns.map V.int)->sp [.ref a] H (λv _=>v=.bl true) λ_ _ _=>False) (YJ:∀H e s',CX [] H s₁ (λ_ _ _=>False) e s'->False) :
  codeAny (model P w) callerA (.call (.ref fa) ⟨[.ref a],[]⟩) (λr s'=>r=.ok (.ret (.bool true))/\OldK s₁.heap s'.heap/\s'.os=s₁.os/\AllBare s'.gens) s₁:=by
 have rv:=qA hi;have jK:=hi.length
 let oa:Obj:={cls:=.type "list",data:=.seq vs.toArray}
 let H:Hp:=λb=>if b=a/\K.lookup a=none then some (.uC oa (.lst (ns.map V.int)))else(tabs.lookup b).map HO.fQ
 have UX:∀b,H b=if b=a/\K.lookup a=none then some (.uC oa (.lst (ns.map V.int)))else(tabs.lookup b).map HO.fQ:=λ_=>rfl
 have YK:∀b q,tabs.lookup b=some q->H b=some (.fQ q):=λb q e=>by
  grind
 have hH:∀b u,H b=some u->(b=a/\K.lookup a=none/\u=.uC oa (.lst (ns.map V.int)))\/∃q,tabs.lookup b=some q/\u=.fQ q:=λb u e=>by
  rw[UX]at e;by_cases h:b=a/\K.lookup a=none
  ·grind
  ·rw[if_neg h]at e;cases z:tabs.lookup b with
   | none=>rw[z]at e;cases e
   | some q=>rw[z]at e;cases e;exact .inr ⟨q,rfl,rfl⟩
 have hS:gq K H a (ns.map V.int):=by
  cases hk:K.lookup a with
  | some o =>
   have e:=KX a o hk;rw[ha]at e;cases e;exact .inr ⟨vs,_,hk,by grind,rv⟩
  | none=>exact .inl (.inr ⟨oa,by grind⟩)
 have hok:j7 P w H s₁.heap:=λb u e=>by
  rcases hH b u e with⟨rfl,_,rfl⟩ | ⟨q,hq,rfl⟩
  ·exact⟨ha,by grind,vs,_,rv,ha⟩
  ·exact⟨#[],(hT b q hq).1,trivial,λpos cv z=>by cases z⟩
 have YL:∀{b:Addr} {o:Obj} {es:Array DictEntry} {ep:Nat},s₁.heap.get? b=some o->o.data=.dict es ep->H b=none:=λ{b o es ep} e d=>by
  cases q:H b with
  | none=>rfl
  | some u =>
   rcases hH b u q with⟨rfl,_,_⟩ | ⟨t,ht,_⟩
   ·grind
   ·grind
 have Tw:∀{b:Addr} {m:Str->Option Value},s₁.heap.Ns b m->(uK s₁.heap H).Ns b m:=λ{b m} ⟨o,es,ep,e,d,r⟩=>⟨o,es,ep,hidT_get e (YL e d),d,r⟩
 have W5:K.In (uK s₁.heap H):=λb o e=>hidT_get (KX b o e) (by
  cases q:H b with
  | none=>rfl
  | some u =>
   rcases hH b u q with⟨rfl,z,_⟩ | ⟨t,ht,_⟩
   ·grind
   ·rw[(hT b t ht).2.2]at e;cases e)
 have hM:Mod K mg (uK s₁.heap H):=⟨W5,Tw HH,⟨mb,Tw hb,Tv⟩,let ⟨mc,h1,h2⟩:=yc;⟨mc,Tw h1,h2⟩⟩
 have e0:Env0 P w K mg (uK s₁.heap H) callerA [] s₁ H:=⟨rfl,hM,λb o e=>of_hidT e,iK (AZ _ _),trivial,λb hb=>absurd (show b∈([]:List Addr)from hb) (by simp),hok,.of_eq hg,hTI H YK⟩
 refine lJ ((F _ W5 (Tw HH)).run callerA [] s₁ H ⟨[.ref a],[]⟩ [.ref a] [.ref a] _ _ hr e0 (Qo s₁ (.ref a)) (.cons rfl .nil) (O2 H hS)) λr s' h=>?_
 cases r with
 | error e=>exact(YJ H e s' h).elim
 | ok fl =>
  cases fl with
  | next=>exact False.elim h
  | brk=>exact False.elim h
  | cont=>exact False.elim h
  | ret u =>
   obtain⟨v,H',os,bare,un,Qp,r',q⟩:=h;have q':=q;subst q';obtain rfl:u=Value.bool true:=r';have YM:∀b:Addr,b∉j8 []:=λb z=>absurd (show b∈([]:List Addr)from z) (by simp)
   refine⟨rfl,⟨λb o e=>?_,λb o e=>un.there b o e (by simp)⟩,os,bare⟩
   cases q:H b with
   | none=>exact .inl (un.keep b o e q (YM b) (by simp))
   | some u =>
    rcases hH b u q with⟨rfl,_,rfl⟩ | ⟨t,ht,rfl⟩
    ·obtain⟨e2,_⟩:=Qp b _ (un.frzs b _ _ q);rw[ha]at e;cases e;exact .inl e2
    ·obtain⟨h1,h2,_⟩:=hT b t ht;obtain⟨ps,e2,_⟩:=(Qp b _ (un.tbls b _ q));rw[h1]at e;cases e;exact .inr (.inl ⟨h2,rfl,#[],ps,rfl,by grind⟩)
abbrev E0:XK:=λ_ _ _=>False
def bU(H H':Hp):Prop:=∀b o,H b=some o->H' b=some o
def bU.refl(H:Hp):bU H H:=λ_ _ h=>h
def bU.trans(a:bU H H1)(b:bU H1 H2):bU H H2:=λc o h=>b c o (a c o h)
def bU.free(e:bU H H')(h:H' l=Option.none):H l=Option.none:=by
 cases q:H l with
 | none=>rfl
 | some o =>
  rw[e l o q]at h;cases h
def bU.seq{K:W.Frag}{H H':Hp}{a:Addr}{xs:List V}(e:bU H H')(h:sS K H a xs):sS K H' a xs:=by
 rcases h with(h | ⟨o,h⟩) | h
 ·exact .inl (.inl (e _ _ h))
 ·exact .inl (.inr ⟨o,e _ _ h⟩)
 ·exact .inr h
section
variable {κ:Type} [DecidableEq κ]
def fS(kvs:List (κ×V))(k:κ):Option V:=(kvs.find? λkv=>decide (kv.1=k)).map (·.2)
def putK(kvs:List (κ×V))(k:κ)(v:V):List (κ×V) :=
 if(kvs.any λkv=>decide (kv.1=k))=true then kvs.map (λkv=>if kv.1=k then(kv.1,v)else kv)else kvs++[(k,v)]
def kx{p:κ×V}{r:List (κ×V)}{k:κ}(e:p.1=k):fS (p::r) k=some p.2:=by simp[fS,nD,e]
def kz{p:κ×V}{r:List (κ×V)}{k:κ}(e:¬p.1=k):fS (p::r) k=fS r k:=by simp[fS,nD,e]
theorem n0(k:κ):∀kvs:List (κ×V),(kvs.any λkv=>decide (kv.1=k))=(fS kvs k).isSome
 | []=>rfl
 | p::r=>by
  rw[lG];by_cases e:p.1=k
  ·simp only[kx e,aG e,Bool.true_or,xc]
  ·rw[kz e,aP e,Bool.false_or];exact n0 k r
def DP{kvs:List (κ×V)}{k:κ}(v:V)(h:fS kvs k=none):putK kvs k v=kvs++[(k,v)]:=by
 unfold putK;rw[n0,h];exact if_neg (by decide)
def sP.qB{o:Option V}{u:Option Value}(r:sP o u):o.isSome=u.isSome:=by
 cases o with
 | none=>cases u with
  | none=>rfl
  | some _=>exact(show False from r).elim
 | some _=>cases u with
  | none=>exact(show False from r).elim
  | some _=>rfl
def KV.val{kvs:List (κ×V)}{vs:List (κ×Value)}(r:KV kvs vs)(k:κ):sP (fS kvs k) (valueAt vs k):=by
 unfold KV at r;induction r with
 | nil=>exact True.intro
 | @cons p q ps qs h t ih =>
  obtain⟨h1,h2⟩:=h;by_cases e:p.1=k
  ·have e':q.1=k:=by grind
   have b:valueAt (q::qs) k=some q.2:=by simp[valueAt,nD,e']
   rw[kx e,b];exact h2
  ·have e':¬q.1=k:=by grind
   have b:valueAt (q::qs) k=valueAt qs k:=by simp[valueAt,nD,e']
   rw[kz e,b];exact ih
def KV.any{kvs:List (κ×V)}{vs:List (κ×Value)}(r:KV kvs vs)(k:κ):(kvs.any λkv=>decide (kv.1=k))=vs.any λkv=>decide (kv.1=k):=by
 unfold KV at r;induction r with
 | nil=>rfl
 | cons h t ih=>rw[lG,lG,ih,h.1]
def KV.UY{kvs:List (κ×V)}{vs:List (κ×Value)}(r:KV kvs vs)(k:κ){y:V}{u:Value}(ry:RelV y u) :
  KV (kvs.map λkv=>if kv.1=k then(kv.1,y)else kv) (vs.map λkv=>if kv.1=k then(kv.1,u)else kv):=by
 unfold KV at r ⊢;induction r with
 | nil=>exact .nil
 | @cons p q ps qs h t ih =>
  rw[aO,aO];refine .cons ?_ ih;obtain⟨h1,h2⟩:=h;by_cases e:p.1=k
  ·grind
  ·grind
def KV.put{kvs:List (κ×V)}{vs:List (κ×Value)}(r:KV kvs vs)(k:κ){y:V}{u:Value}(ry:RelV y u):KV (putK kvs k y) (stored vs k u):=by
 unfold putK stored;rw[r.any k];by_cases e:(vs.any λkv=>decide (kv.1=k))=true
 ·rw[if_pos e,if_pos e];exact r.UY k ry
 ·rw[if_neg e,if_neg e];exact Paired.snoc r ⟨rfl,ry⟩
theorem KV.length{kvs:List (κ×V)}{vs:List (κ×Value)}(r:KV kvs vs):kvs.length=vs.length:=gM r
end
def mm{P:Program}{w:World}{k:cz}{u:Value}(r:RelV (kV k) u):(br P w).is k u=true:=by
 cases k with
 | inl i=>obtain⟨t,e⟩:=(show ∃t,u=Value.int i t from r);subst e;exact uH P w i t
 | inr x=>obtain⟨t,e⟩:=(show ∃t,u=Value.str x t from r);subst e;exact uI P w x t
theorem qC{P:Program}{w:World}:∀{ks:List cz} {us:List Value},Vals (ks.map kV) us->ItemsAre (br P w) ks us
 | [],_,r=>by rw[eW]at r;cases r;exact .nil
 | k::ks,_,r=>by
  rw[aO]at r;cases r with
  | cons h t=>exact .cons (mm h) (qC t)
section
variable {P:Program} {w:World} {H:Hp} {h:Heap} {a:Addr}
def Ka{u:HO}(ok:j7 P w H h)(e:Rd H a u):eL P w H h a u:=e.ok ok
def zG{kvs:List (cz×V)}(ok:j7 P w H h)(e:Rd H a (.dK kvs)):kvs.length<=sizeLine/\(a==sysModules)=false/\∃vs,KV kvs vs/\h.DictOf (br P w) a vs :=
 show eL P w H h a (.dK kvs)from Ka ok e
def DQ{kvs:List (cz×V)}(ok:j7 P w H h)(e:H a=some (.dK kvs)):kvs.length<=sizeLine/\(a==sysModules)=false/\∃vs,KV kvs vs/\h.DictOf (br P w) a vs:=zG ok (.inl e)
end
section
variable {X:Cx} {ae:List (Addr×Obj)} {σ:St} {H:Hp} {s:Shared} {a b:Addr} {k:List cz} {v:V} {r:Value} {A:Around} {E:Value->Shared->Prop} {xs:List (List cz×Addr×Value)}
def key_is(I:Inv X ae σ H s)(e:fA X.K H a (k.map kV)):(tupleKind (br X.prog X.w)).is s.heap k a:=by
 obtain⟨ai,r,⟨o,h1,h2,n,h3⟩,_⟩:=I.tuple e;exact⟨o,ai.toArray,n,h1,h2,h3,by simpa using qC r⟩
def qD(I:Inv X ae σ H s)(e:Rd H a (.dT xs))(hk:ej X.K H xs):xs.length<=sizeLine/\(a==sysModules)=false/\s.heap.DictOfH (tupleKind (br X.prog X.w)) a xs:=by
 obtain⟨z,y,o,es,ep,h1,h2,h3,h4,h5⟩:=(show eL X.prog X.w H s.heap a (.dT xs)from Ka I.hok e)
 exact⟨z,y,o,es,ep,h1,h2,h3,h4,λx hx=>key_is I (hk x hx),h5⟩
def Qq{Q:Value->Shared->Prop}(hu:A.units+1<cLine)(I:Inv X ae σ H s)(e:Rd H a (.dT xs))(hk:ej X.K H xs)(eb:fA X.K H b (k.map kV))(h:∀s',Inv X ae σ H s'->Q (.bool (atKey xs k).isSome) s') :
  wpAny (model X.prog X.w) A (compareOp .In (.ref b) (.ref a)) Q E s:=by
 obtain⟨_,hd,dd⟩:=qD I e hk;exact wpAny_in_heap (nr hu) (key_is I eb) hd dd (h _ (I.tok _))
def Qr{Q:Value->Shared->Prop}(hu:A.units+1<cLine)(I:Inv X ae σ H s)(e:Rd H a (.dT xs))(hk:ej X.K H xs)(eb:fA X.K H b (k.map kV)) (h:∀s',Inv X ae σ H s'->Q (.bool (!(atKey xs k).isSome)) s') :
  wpAny (model X.prog X.w) A (compareOp .NotIn (.ref b) (.ref a)) Q E s:=by
 obtain⟨_,hd,dd⟩:=qD I e hk;exact wpAny_notIn_heap (nr hu) (key_is I eb) hd dd (h _ (I.tok _))
def Qs{Q:Value->Shared->Prop}{p:Addr×Value}(hu:A.units+1<cLine)(I:Inv X ae σ H s)(e:Rd H a (.dT xs))(hk:ej X.K H xs)(eb:fA X.K H b (k.map kV))(hp:atKey xs k=some p)(h:∀s',Inv X ae σ H s'->Q p.2 s') :
  wpAny (model X.prog X.w) A (getItem (.ref a) (.ref b)) Q E s:=by
 obtain⟨_,hd,dd⟩:=qD I e hk;exact wpAny_getItem_heap (nr hu) (key_is I eb) dd hp (h _ (I.tok _))
def yd{κ:Type} [DecidableEq κ] (xs:List (κ×Addr×Value)) (k:κ) (a:Addr) (v:Value):(storedH xs k a v).length<=xs.length+1:=by
 unfold storedH;split
 ·grind
 ·grind
def Mb{Q:Unit->Shared->Prop}(hu:A.units+1<cLine)(I:Inv X ae σ H s)(e:H a=some (.dT xs))(hk:ej X.K H xs)(eb:fA X.K H b (k.map kV))(hl:xs.length<sizeLine)
  (h:∀s',Inv X ae σ (bZ H a (.dT (storedH xs k b r))) s'->Q () s'):wpAny (model X.prog X.w) A (setItem (.ref a) (.ref b) r) Q E s:=by
 obtain⟨_,hd,dd⟩:=qD I (.inl e) hk;refine wpAny_setItem_heap (hsz:=sL hl) (nr hu) (key_is I eb) dd λh' Mc hs=>h _ ?_
 obtain⟨q,es,ep,hq,h2,h3,h4,_,h5⟩:=Mc;exact I.write (x:=a) (e:=a) (by rw[e];exact True.intro) (.inl rfl) (λc q' hc z=>(hs.2 c hc).trans z) ⟨q,hq⟩ ⟨(by have:=yd xs k b r;lia),hd,q,es,ep,hq,h2,h3,h4,h5⟩
def gv(I:Inv X ae σ H s):sysModules<s.heap.objs.size:=gO (by decide) (show mainGlobals<s.heap.objs.size from(I.mod.glob.keeps I.bk).lt)
def Kb(o:HO):TE:=λ_ H Q=>∀p,H p=none->Q (.ref p) (bZ H p o)
def HI{pos:Pos}:PE X (.Dict [] [] pos) (Kb (.dT [])):=λae s σ H Q I h =>
 wpAny_Dict_empty ⟨.ref s.heap.objs.size,_,I.laid (a:=s.heap.objs.size) (o:=.dT []) (t':=s.toks) (λ_ _ q=>aj _ q) (ar _)
  ⟨gk _,bW.mpr (bA (aJ (gv I))),_,#[],0,aY _ rfl,⟨rfl,rfl,rfl⟩,rfl,rfl,lF⟩,rfl,h _ (I.hok.fresh (ar _))⟩
def Be{κ:Type} [DecidableEq κ] (xs:List (κ×Addr×Value)) (k:κ):(atKey xs k).isSome=(xs.map (·.1)).any λj=>decide (j=k):=by
 unfold atKey;rw[Option.isSome_map,nH,List.isSome_find?];rfl
end
def DR(mg:Str->Option Value)(base:Heap):Prop:=∃bm o,mg "__builtins__"=some (.ref bm)/\bm≠builtinsNs/\bm≠mainGlobals/\base.get? bm=some o/\o.cls=.type "module"/\o.dict=some builtinsNs/\o.data=.plain
end L2
namespace L2.U
open PySem PySem.Spec PyProof.Rows
def nw{α:Sort u}(a:α):∃x,x=a:=⟨_,rfl⟩
abbrev PV.lst (ps:List PV):PV:=.nd .lst ps
structure Gr (F F':Fz):Prop where
 s:bU F.F F'.F
 m:∀(n:Nat) (a:Addr),F.μ[n]?=some a->F'.μ[n]?=some a
def Gr.refl(F:Fz):Gr F F:=⟨bU.refl _,λ_ _ h=>h⟩
def Gr.trans(a:Gr F F1)(b:Gr F1 F2):Gr F F2:=⟨a.s.trans b.s,λn c h=>b.m n c (a.m n c h)⟩
def aU{K:W.Frag}(e:bU H H')(h:fA K H a xs):fA K H' a xs:=by
 rcases h with(h | ⟨o,h⟩) | h
 ·exact .inl (.inl (e _ _ h))
 ·exact .inl (.inr ⟨o,e _ _ h⟩)
 ·exact .inr h
def HJ(e:bU H H')(h:Rd H a u):Rd H' a u:=h.imp (e _ _) (by rintro⟨o,q⟩;exact⟨o,e _ _ q⟩)
def gw{K:W.Frag}(e:bU H H')(h:gq K H a xs):gq K H' a xs:=h.imp (HJ e) id
def _root_.L2.gq.of{K:W.Frag}(h:H a=some (.lst xs)):gq K H a xs:=.inl (.inl h)
section
variable {K:W.Frag} {F F':Fz}
def jI.to(h:jI K G H a x k vs)(g:bU G G')(e:∀o,H a=some o->H' a=some o)(hy:y=true->x=true):jI K G' H' a y k vs:=by
 have keys:∀{xs:List (List cz×Addr×Value)},ej K G xs->ej K G' xs:=λhk z hz=>aU g (hk z hz)
 match k,h with
 | .aq,⟨h1,h2⟩ =>
  refine⟨?_,?_⟩
  ·grind
  ·rcases h2 with(h2 | ⟨o,h2⟩) | h2
   ·exact .inl (.inl (e _ h2))
   ·exact .inl (.inr ⟨o,e _ h2⟩)
   ·exact .inr h2
 | .lst,h =>
  cases y with
  | true=>rw[hy rfl]at h;exact e _ h
  | false =>
   cases x with
   | true=>exact gq.of (e _ h)
   | false =>
    rcases(h)with(h | ⟨o,h⟩) | h
    ·exact .inl (.inl (e _ h))
    ·exact .inl (.inr ⟨o,e _ h⟩)
    ·exact .inr h
 | .ins C ns,⟨Ca,dx,fs,h1,h2,h3,h4,h5⟩=>exact⟨Ca,dx,fs,h1,h2,h3,e _ h4,h5⟩
 | .eJ false ks,⟨kvs,h1,h2⟩=>exact⟨kvs,e _ h1,h2⟩
 | .eJ true ks,⟨xs,h1,h2,h3⟩=>exact⟨xs,e _ h1,keys h2,h3⟩
mutual
theorem bc.mono(e:Gr F F'):∀{p:PV} {v:V},bc K F p v->bc K F' p v
 | .aN,_,h=>by simpa only[bc]using h
 | .bl _,_,h=>by simpa only[bc]using h
 | .int _,_,h=>by simpa only[bc]using h
 | .str _,_,h=>by simpa only[bc]using h
 | .fn _,_,h=>by simpa only[bc]using h
 | .ref n,_,h=>by
  simp only[bc]at h ⊢;obtain⟨a,h1,h2⟩:=h;exact⟨a,e.m _ _ h1,h2⟩
 | .nd k ps,_,h=>by
  simp only[bc]at h ⊢;obtain⟨a,vs,h1,h2,h3⟩:=h;exact⟨a,vs,h1,h2.to e.s (λo q=>e.s _ _ q) id,ao.mono e h3⟩
theorem ao.mono(e:Gr F F'):∀{ps:List PV} {vs:List V},ao K F ps vs->ao K F' ps vs
 | [],_,h=>by simpa only[ao]using h
 | _::_,_,h=>by
  simp only[ao]at h ⊢;obtain⟨v,r,h1,h2,h3⟩:=h;exact⟨v,r,h1,h2.mono e,ao.mono e h3⟩
end
def ao.bB(h:ao K F (p::ps) vs):∃v r,vs=v::r/\bc K F p v/\ao K F ps r:=by
 simpa only[ao]using h
def ao.bL(h:ao K F [] vs):vs=[]:=by simpa only[ao]using h
theorem n4:∀{ps:List PV} {vs:List V},ao K F ps vs↔Paired (bc K F) ps vs
 | [],vs=>⟨λh=>by rw[h.bL];exact .nil,λh=>by cases h;exact .nil⟩
 | p::ps,vs=>⟨λh=>by obtain⟨v,r,rfl,h1,h2⟩:=h.bB;exact .cons h1 (n4.mp h2),λh=>by cases h with | cons h1 h2=>exact .cons h1 (n4.mpr h2)⟩
def ao.length(h:ao K F ps vs):ps.length=vs.length:=gM (n4.mp h)
theorem ao.append:∀{ps qs:List PV} {vs ws:List V},ao K F ps vs->ao K F qs ws->ao K F (ps++qs) (vs++ws)
 | [],_,_,_,h,t=>by rw[h.bL];exact t
 | _::_,_,_,_,h,t=>by
  obtain⟨v,r,rfl,h1,h2⟩:=h.bB;exact .cons h1 (h2.append t)
theorem ao.get:∀{ps:List PV} {vs:List V} {i:Nat} {p:PV},ao K F ps vs->ps[i]?=some p->∃v,vs[i]?=some v/\bc K F p v
 | [],_,_,_,_,e=>by cases e
 | _::_,_,0,_,h,e=>by
  obtain⟨v,r,rfl,h1,_⟩:=h.bB;cases e;exact⟨v,rfl,h1⟩
 | _::_,_,_+1,_,h,e=>by
  obtain⟨v,r,rfl,_,h2⟩:=h.bB;exact h2.get e
theorem ao.take:∀{ps:List PV} {vs:List V} (n:Nat),ao K F ps vs->ao K F (ps.take n) (vs.take n)
 | _,_,0,_=>by simp only[List.take_zero];exact .nil
 | [],_,_+1,h=>by rw[h.bL];simp only[List.take_nil];exact .nil
 | _::_,_,n+1,h=>by
  obtain⟨v,r,rfl,h1,h2⟩:=h.bB;exact .cons h1 (h2.take n)
theorem ao.drop:∀{ps:List PV} {vs:List V} (n:Nat),ao K F ps vs->ao K F (ps.drop n) (vs.drop n)
 | _,_,0,h=>h
 | [],_,_+1,h=>by rw[h.bL];simp only[List.drop_nil];exact .nil
 | _::_,_,n+1,h=>by
  obtain⟨v,r,rfl,_,h2⟩:=h.bB;exact h2.drop n
theorem ao.set(r:bc K F p v):∀{ps:List PV} {vs:List V} (i:Nat),ao K F ps vs->ao K F (ps.set i p) (vs.set i v)
 | [],_,_,h=>by rw[h.bL];exact .nil
 | _::_,_,0,h=>by
  obtain⟨v,r',rfl,_,h2⟩:=h.bB;exact .cons r h2
 | _::_,_,i+1,h=>by
  obtain⟨v,r',rfl,h1,h2⟩:=h.bB;exact .cons h1 (h2.set r i)
theorem ao.reverse:∀{ps:List PV} {vs:List V},ao K F ps vs->ao K F ps.reverse vs.reverse
 | [],_,h=>by rw[h.bL];exact .nil
 | _::_,_,h=>by
  obtain⟨v,r,rfl,h1,h2⟩:=h.bB;rw[r9,r9];exact h2.reverse.append (.cons h1 .nil)
def cY:bc K F (.ref n) v↔∃a,F.μ[n]?=some a/\v=.ref a:=by simp only[bc]
def lO:bc K F (.fn x) v↔∃a,v=.ref a/\W.nsIn K mainGlobals x=some (some (.ref a)):=by simp only[bc]
def cw:bc K F (.lst ps) v↔∃a vs,v=.ref a/\gq K F.F a vs/\ao K F ps vs:=gS
end
structure ah where
 k:Kd
 ps:List PV
structure bT where
 ρ:List (Option PV)
 h:List ah
def live(c:ah):Bool:=match c.k with | .aq=>false | _=>true
structure jL (K:W.Frag) (aa:Hp) (ab F:Fz) (h:List ah) (H:Hp):Prop where
 sub:bU F.F H
 keep:bU aa H
 base:Gr ab F
 fresh:∀a o,F.F a=some o->ab.F a=some o\/aa a=none
 new:∀(n:Nat) (a:Addr),F.μ[n]?=some a->aa a=none/\∃o,H a=some o
 hl:h.length=F.μ.length
 nd:F.μ.Nodup
 cell:∀(n:Nat) (c:ah) (a:Addr),h[n]?=some c->F.μ[n]?=some a->live c=true->F.F a=none/\∃vs,jI K F.F H a true c.k vs/\ao K F c.ps vs
structure Lc (K:W.Frag) (F:Fz) (ρ:List (Option PV)) (σ:St):Prop where
 av:∀(i:Nat) (p:PV),ρ[i]?=some (some p)->∃v,σ[i]?=some (some v)/\bc K F p v
 len:ρ.length=σ.length
structure Rep (K:W.Frag) (aa:Hp) (ab F:Fz) (st:bT) (σ:St) (H:Hp):Prop where
 c:jL K aa ab F st.h H
 l:Lc K F st.ρ σ
def dh(h:H p=none):bU H (bZ H p o):=λb u q=>by rw[aI (cu q h)];exact q
section
variable {K:W.Frag} {aa H H':Hp} {ab F F':Fz} {h:List ah} {st:bT} {σ:St}
def Lc.mono(L:Lc K F ρ σ)(e:Gr F F'):Lc K F' ρ σ:=⟨λi p z=>let ⟨v,h1,h2⟩:=L.av i p z;⟨v,h1,h2.mono e⟩,L.len⟩
def jL.after(R:jL K aa ab F h H)(e:bU H H')(f:bU F.F F'.F)(m:F'.μ=F.μ)(s:bU F'.F H')(n:∀a o,F'.F a=some o->F.F a=some o\/H a=none):jL K aa ab F' h H' where
 sub:=s
 keep:=R.keep.trans e
 base:=R.base.trans ⟨f,λ_ _ q=>by rw[m];exact q⟩
 fresh:=λa o q=>by
  rcases n a o q with z | z
  ·exact R.fresh a o z
  ·exact .inr (R.keep.free z)
 new:=λn a q=>by rw[m]at q;obtain⟨h1,o,h2⟩:=R.new n a q;exact⟨h1,o,e _ _ h2⟩
 hl:=by rw[m];exact R.hl
 nd:=by rw[m];exact R.nd
 cell:=λi c a hc ha hk=>by
  rw[m]at ha;obtain⟨h1,vs,h2,h3⟩:=R.cell i c a hc ha hk;refine⟨?_,vs,h2.to f (λo q=>e _ _ q) id,h3.mono ⟨f,λ_ _ q=>by rw[m];exact q⟩⟩
  obtain⟨_,o,ho⟩:=R.new i a ha;cases q:F'.F a with
  | none=>rfl
  | some u =>
   rcases n a u q with z | z
   ·rw[h1]at z;cases z
   ·rw[ho]at z;cases z
def Rep.after(R:Rep K aa ab F st σ H)(e:bU H H')(f:bU F.F F'.F)(m:F'.μ=F.μ)(s:bU F'.F H')(n:∀a o,F'.F a=some o->F.F a=some o\/H a=none):Rep K aa ab F' st σ H' :=
 ⟨R.c.after e f m s n,R.l.mono ⟨f,λ_ _ q=>by grind⟩⟩
def Rep.sub(R:Rep K aa ab F st σ H):bU F.F H:=R.c.sub
def Rep.laid(R:Rep K aa ab F st σ H)(o:HO)(hp:H p=none):Rep K aa ab ⟨bZ F.F p o,F.μ⟩ st σ (bZ H p o)/\Gr F ⟨bZ F.F p o,F.μ⟩:=by
 have fp:=R.sub.free hp;refine⟨R.after (dh hp) (dh fp) rfl (λb u q=>?_) (λb u q=>?_),dh fp,λ_ _ q=>q⟩
 ·by_cases hb:b=p
  ·subst hb;rw[show(Fz.mk (bZ F.F b o) F.μ).F b=bZ F.F b o b from rfl,au]at q;rw[au];exact q
  ·rw[show(Fz.mk (bZ F.F p o) F.μ).F b=bZ F.F p o b from rfl,aI hb]at q;rw[aI hb];exact R.sub _ _ q
 ·by_cases hb:b=p
  ·grind
  ·rw[show(Fz.mk (bZ F.F p o) F.μ).F b=bZ F.F p o b from rfl,aI hb]at q;exact .inl q
def jL.alloc(R:jL K aa ab F h H)(hp:H p=none)(hn:jI K F.F (bZ H p o) p true c.k vs)(hb:ao K F c.ps vs) :
  jL K aa ab ⟨F.F,F.μ++[p]⟩ (h++[c]) (bZ H p o)/\Gr F ⟨F.F,F.μ++[p]⟩/\(F.μ++[p])[h.length]?=some p:=by
 have g:Gr F ⟨F.F,F.μ++[p]⟩:=⟨bU.refl _,λn a q=>by
  grind⟩
 have W6:∀n a,(F.μ++[p])[n]?=some a->F.μ[n]?=some a\/n=F.μ.length/\a=p:=λn a q=>by
  grind
 have no:∀n a,F.μ[n]?=some a->a≠p:=λn a q z=>by
  subst z;obtain⟨_,o,ho⟩:=R.new n a q;rw[hp]at ho;cases ho
 refine⟨⟨λb u q=>by rw[aI (cu (R.sub _ _ q) hp)];exact R.sub _ _ q,R.keep.trans (dh hp),R.base.trans g,R.fresh,λn a q=>?_,by simp[R.hl],?_,λn d a hd ha hk=>?_⟩,g,by rw[R.hl];simp⟩
 ·rcases W6 n a q with z | ⟨_,rfl⟩
  ·obtain⟨h1,u,h2⟩:=R.new n a z;exact⟨h1,u,dh hp _ _ h2⟩
  ·exact⟨R.keep.free hp,o,au⟩
 ·rw[xi];refine⟨R.nd,by simp,λa ha b hb z=>?_⟩
  obtain⟨n,hn⟩:=rS.mp ha;rw[iB]at hb;exact no n a hn (z.trans hb)
 ·rcases W6 n a ha with z | ⟨rfl,rfl⟩
  ·rw[m7 (by rw[R.hl];exact(dI.mp z).1)]at hd
   obtain⟨h1,ws,h2,h3⟩:=R.cell n d a hd z hk;exact⟨h1,ws,h2.to (bU.refl _) (λu q=>dh hp _ _ q) id,h3.mono g⟩
  ·rw[<-R.hl,CN (ar _),Nat.sub_self]at hd;cases hd;exact⟨R.sub.free hp,vs,hn,hb.mono g⟩
def jL.write(R:jL K aa ab F h H)(hc:h[n]?=some c)(hl:live c=true)(ha:F.μ[n]?=some a)(hn:jI K F.F (bZ H a o) a true d.k vs)(hb:ao K F d.ps vs) :
  jL K aa ab F (h.set n d) (bZ H a o):=by
 obtain⟨hF,_⟩:=R.cell n c a hc ha hl;refine⟨λb u q=>by rw[aI (λz=>by grind)];exact R.sub _ _ q,λb u q=>?_,R.base,R.fresh,λm b q=>?_,by rw[sx];exact R.hl,R.nd,λm e b he iu hk=>?_⟩
 ·rw[aI (λz=>by subst z;rw[(R.new n b ha).1]at q;cases q)];exact R.keep _ _ q
 ·obtain⟨h1,u,h2⟩:=R.new m b q;refine⟨h1,?_⟩;by_cases hb:b=a
  ·subst hb;exact⟨o,au⟩
  ·exact⟨u,by rw[aI hb];exact h2⟩
 ·by_cases hm:n=m
  ·grind
  ·rw[jy hm]at he;obtain⟨h1,ws,h2,h3⟩:=R.cell m e b he iu hk;have ne:b≠a:=λz=>by
    subst z;obtain⟨l1,e1⟩:=dI.mp iu;obtain⟨l2,e2⟩:=dI.mp ha;exact hm ((List.getElem_inj R.nd).mp (e2.trans e1.symm))
   exact⟨h1,ws,h2.to (bU.refl _) (λu q=>by rw[aI ne];exact q) id,h3⟩
end
def _root_.L2.PE.imp(h:PE X e t)(hi:∀σ H Q,t' σ H Q->t σ H Q):PE X e t':=λae s σ H Q I hw=>h ae s σ H Q I (hi _ _ _ hw)
def _root_.L2.PT.imp(h:PT X e t)(hi:∀σ H Q,t' σ H Q->t σ H Q):PT X e t':=λae s σ H Q I hw=>h ae s σ H Q I (hi _ _ _ hw)
def _root_.L2.PW.imp(h:PW X e t)(hi:∀σ H Q,t' σ H Q->t σ H Q):PW X e t':=λw ae s σ H Q I hw=>h w ae s σ H Q I (hi _ _ _ hw)
def _root_.L2.PA.imp(h:PA X e t)(hi:∀σ H Q,t' σ H Q->t σ H Q):PA X e t':=λpos ae s σ H Q I hw=>h pos ae s σ H Q I (hi _ _ _ hw)
def _root_.L2.PS.imp{st:Stmt}(h:PS X st t)(hi:∀D σ H,t' D σ H->t D σ H):PS X st t':=λae s σ H D I hw=>h ae s σ H D I (hi _ _ _ hw)
def _root_.L2.PSs.imp{st:List Stmt}(h:PSs X st t)(hi:∀D σ H,t' D σ H->t D σ H):PSs X st t':=λae s σ H D I hw=>h ae s σ H D I (hi _ _ _ hw)
def _root_.L2.PG.imp(h:PG X e t)(hi:∀v σ H Q,t' v σ H Q->t v σ H Q):PG X e t':=λae s σ H v u Q I r hw=>h ae s σ H v u Q I r (hi _ _ _ _ hw)
def _root_.L2.PGs.imp(h:PGs X e t)(hi:∀v σ H Q,t' v σ H Q->t v σ H Q):PGs X e t':=λae s σ H v u Q I r hw=>h ae s σ H v u Q I r (hi _ _ _ _ hw)
def _root_.L2.PI.imp(h:PI X tg e t)(hi:∀σ H Q,t' σ H Q->t σ H Q):PI X tg e t':=λae s σ H R I hw=>h ae s σ H R I (hi _ _ _ hw)
inductive Rs (α:Type) where
 | ok (a:α) | ex (m:Bool) (C:Str)
abbrev Gx(α:Type):=bT->Option (Rs α×bT)
def Qt{α β:Type}(k:α->Gx β):Rs α×bT->Option (Rs β×bT)
 | (.ok a,st)=>k a st
 | (.ex m C,st)=>some (.ex m C,st)
def bnd{α β:Type}(f:Gx α)(k:α->Gx β):Gx β:=λst=>(f st).bind (Qt k)
def bV{α:Type}(a:α):Gx α:=λst=>some (.ok a,st)
def hp{α:Type}(g:List ah->Option α):Gx α:=λst=>(g st.h).map λa=>(.ok a,st)
def fy{α:Type}(o:Option α):Gx α:=λst=>o.map λa=>(.ok a,st)
def Dm(H H':Hp):Prop:=∀b o,H b=some o->∃o',H' b=some o'
def kc(P:Program)(w:World):CU:=λaB H s E e s'=>∃a cls a0 B H',e=.ref a/\s'.os=s.os/\AllBare s'.gens/\Un (j8 aB) [] H H' s.heap s'.heap/\j7 P w H' s'.heap/\Dm H H'/\E cls none H' /\
 Heap.FlyingW B aB a cls a0 s'.heap/\(∀b o,H' b=some o->∃ob,B.get? b=some ob)/\∀b ob,s.heap.get? b=some ob->H b=none->b∉j8 aB->B.get? b=some ob
def DS:xW (kc P w) X E0:=(by rintro _ _ _ _ _ _ _ ⟨_,_,_,_,_,_,_,_,_,_,_,h,_⟩;exact h.elim)
def DT(X:Cx)(aa:Hp)(ab F:Fz)(C:Str)(st:bT):Bool->Prop
 | true=>∀F' bh H' ae s h1 a cls vs,Rep X.K aa ab F' st bh H'->Gr F F'->Inv X ae bh H' s->ClsAt X.K C cls->Heap.MadeExcOf s.heap h1 a cls vs->X.xe (.ref a) {s with heap:=h1}
 | false=>∀bh ae H1 s1 e s',Inv X ae bh H1 s1->kc X.prog X.w X.stack H1 s1 (λcls _ H2=>ClsAt X.K C cls/\∃F',Rep X.K aa ab F' st bh H2/\Gr F F') e s'->X.xe e s'
section
variable {X:Cx} {aa H:Hp} {ab F F1:Fz} {st aL:bT} {σ:St} {α β γ δ:Type}
def DT.mono(h:DT X aa ab F C st m)(s:Gr F F1):DT X aa ab F1 C st m:=by
 cases m with
 | true=>exact λF' bh H' ae s1 h1 a cls vs R z=>h F' bh H' ae s1 h1 a cls vs R (s.trans z)
 | false =>
  rintro bh ae H1 s1 e s' I ⟨a,cls,a0,B,H',h1,h2,h3,h4,h5,h6,⟨c,F',R,z⟩,h8⟩
  exact h bh ae H1 s1 e s' I ⟨a,cls,a0,B,H',h1,h2,h3,h4,h5,h6,⟨c,F',R,s.trans z⟩,h8⟩
def DU(X:Cx)(aa:Hp)(ab F:Fz)(P:α->bT->Prop):Rs α×bT->Prop
 | (.ok a,st)=>P a st
 | (.ex m C,st)=>DT X aa ab F C st m
def At(X:Cx)(aa:Hp)(ab F:Fz)(st:bT)(f:Gx α)(P:α->bT->Prop):Prop:=∃r,f st=some r/\DU X aa ab F P r
def DU.imp(h:DU X aa ab F P r)(g:Gr F F1)(i:∀a bK,P a bK->P' a bK):DU X aa ab F1 P' r:=by
 match r,h with
 | (.ok a,st),h=>exact i a st h
 | (.ex m C,st),h=>exact DT.mono h g
def At.imp(h:At X aa ab F st f P)(g:Gr F F1)(i:∀a bK,P a bK->P' a bK):At X aa ab F1 st f P' :=
 let ⟨r,h1,h2⟩:=h;⟨r,h1,h2.imp g i⟩
def aE(h:o.bind f=some b):∃a,o=some a/\f a=some b:=by
 cases o with
 | none=>cases h
 | some a=>exact⟨a,rfl,h⟩
def aM(h:o.map f=some b):∃a,o=some a/\f a=b:=by
 simp_all
def At.bnd(h:At X aa ab F st (bnd f k) P):At X aa ab F st f (λa aL=>At X aa ab F aL (k a) P):=by
 obtain⟨r,h1,h2⟩:=h;obtain⟨q,e1,e2⟩:=aE h1;refine⟨q,e1,?_⟩
 match q,e2 with
 | (.ok a,s1),e2=>exact⟨r,e2,h2⟩
 | (.ex m C,s1),e2=>cases e2;exact h2
def At.bV(h:At X aa ab F st (bV a) P):P a st:=by
 obtain⟨r,h1,h2⟩:=h;cases h1;exact h2
def At.hp(h:At X aa ab F st (hp g) P):∃a,g st.h=some a/\P a st:=by
 obtain⟨r,h1,h2⟩:=h;obtain⟨a,e1,e2⟩:=aM h1;subst e2;exact⟨a,e1,h2⟩
def At.fy(h:At X aa ab F st (fy g) P):∃a,g=some a/\P a st:=by
 obtain⟨r,h1,h2⟩:=h;obtain⟨a,e1,e2⟩:=aM h1;subst e2;exact⟨a,e1,h2⟩
def Tx(X:Cx)(aa:Hp)(ab:Fz)(rl:Fz->α->β->Prop)(F:Fz)(st:bT)(f:Gx α)(σ:St)(Q:β->Hp->Prop):Prop :=
 At X aa ab F st f λa bK=>∀b H' F',Rep X.K aa ab F' bK σ H'->Gr F F'->rl F' a b->Q b H'
def tX(X:Cx)(aa:Hp)(ab:Fz)(rl:Fz->α->β->Prop)(f:Gx α):St->Hp->(β->Hp->Prop)->Prop:=λσ H Q=>∃F st,Rep X.K aa ab F st σ H/\Tx X aa ab rl F st f σ Q
def Tx.mono(h:Tx X aa ab rl F st f σ Q)(g:Gr F F1)(i:∀b H',Q b H'->Q' b H'):Tx X aa ab rl F1 st f σ Q' :=
 At.imp h g λa bK q b H' F' R s r=>i _ _ (q b H' F' R (g.trans s) r)
def Tx.bnd(h:Tx X aa ab YN F st (bnd f k) σ Q)
  (i:∀a b F1 aL H1,Rep X.K aa ab F1 aL σ H1->Gr F F1->rl F1 a b->Tx X aa ab YN F1 aL (k a) σ Q->Q' b H1):Tx X aa ab rl F st f σ Q' :=
 At.imp (At.bnd h) (Gr.refl F) λa aL q b H1 F1 R1 g1 r1=>i a b F1 aL H1 R1 g1 r1 (Tx.mono (q) g1 λ_ _ z=>z)
def Tx.bV(h:Tx X aa ab rl F st (bV a) σ Q):∀b H' F',Rep X.K aa ab F' st σ H'->Gr F F'->rl F' a b->Q b H':=At.bV h
def Tx.hp(h:Tx X aa ab rl F st (hp g) σ Q):∃a,g st.h=some a/\∀b H' F',Rep X.K aa ab F' st σ H'->Gr F F'->rl F' a b->Q b H':=At.hp h
def Tx.fy(h:Tx X aa ab rl F st (fy g) σ Q):∃a,g=some a/\∀b H' F',Rep X.K aa ab F' st σ H'->Gr F F'->rl F' a b->Q b H':=At.fy h
end
abbrev rB:Fz->Bool->Bool->Prop:=λ_ a b=>a=b
abbrev tE(X:Cx)(aa:Hp)(ab:Fz)(f:Gx PV):TE:=tX X aa ab (bc X.K) f
abbrev tT(X:Cx)(aa:Hp)(ab:Fz)(f:Gx Bool):TT:=tX X aa ab rB f
abbrev tA(X:Cx)(aa:Hp)(ab:Fz)(f:Gx (List PV)):TA:=tX X aa ab (ao X.K) f
section
variable {X:Cx} {aa:Hp} {ab:Fz} {a b c e:Expr} {es rest:List Expr} {fa fb fc:Gx PV} {ga gb:Gx Bool} {ts:Gx (List PV)} {pos:Pos}
def rd(i:Nat):Gx PV:=λst=>(st.ρ[i]?).join.map λp=>(.ok p,st)
def Kc(i:Nat)(h:PE X (.Name x pos) (Lq i)):PE X (.Name x pos) (tE X aa ab (rd i)):=h.imp <| by
 rintro σ H Q ⟨F,st,R,r,h1,h2⟩
 obtain⟨p,e1,e2⟩:=aM h1;subst e2;cases z:st.ρ[i]? with
 | none=>rw[z]at e1;cases e1
 | some o =>
  rw[z]at e1;cases o with
  | none=>cases e1
  | some p' =>
   cases e1;obtain⟨v,h3,h4⟩:=R.l.av i p z;exact⟨v,h3,h2 v H F R (Gr.refl F) h4⟩
def uX(h:PE X e (tC v))(hb:∀F,bc X.K F p v):PE X e (tE X aa ab (bV p)):=h.imp (by rintro σ H Q ⟨F,st,R,q⟩;exact q.bV v H F R (Gr.refl F) (hb F))
def Qu{j pos}:PE X (.Constant (.int i) j pos) (tE X aa ab (bV (.int i))):=uX Lr λ_=>aw.mpr rfl
def UZ{j pos}:PE X (.Constant (.bool i) j pos) (tE X aa ab (bV (.bl i))):=uX PL λ_=>aR.mpr rfl
def Qv{j pos}:PE X (.Constant .none j pos) (tE X aa ab (bV .aN)):=uX Ls λ_=>cj.mpr rfl
def Qw{j pos}:PE X (.Constant (.str i) j pos) (tE X aa ab (bV (.str i))):=uX Lu λ_=>bf.mpr rfl
abbrev G2:=List ah->PV->PV->Option PV
def rT(K:W.Frag)(g:G2):R2:=λx y H Q=>∃aa ab F st τ pa pb p,g st.h pa pb=some p/\Rep K aa ab F st τ H/\bc K F pa x/\bc K F pb y/\∀v H' F',Rep K aa ab F' st τ H'->Gr F F'->bc K F' p v->Q v H'
abbrev pE(X:Cx)(f:Value->Value->Sem Value)(g:G2):Prop:=OpR X f (rT X.K g)
def op2(g:G2)(fa fb:Gx PV):Gx PV:=bnd fa λx=>bnd fb λy=>hp λh=>g h x y
def mR(h:tE X aa ab (op2 g fa fb) σ H Q):LJ (rT X.K g) (tE X aa ab fa) (tE X aa ab fb) σ H Q:=by
 obtain⟨F,st,R,h⟩:=h;refine⟨F,st,R,h.bnd λp v F1 aL H1 R1 g1 b1 h1=>⟨F1,aL,R1,h1.bnd λq w F2 dk H2 R2 g2 b2 h2=>?_⟩⟩
 obtain⟨o,e,z⟩:=h2.hp;exact⟨aa,ab,F2,dk,σ,p,q,o,e,R2,b1.mono g2,b2,z⟩
def U0(ho:pE X (binaryOp op) g)(ha:PE X a (tE X aa ab fa))(hb:PE X b (tE X aa ab fb)):PE X (.BinOp a op b pos) (tE X aa ab (op2 g fa fb)):=(J7 ho ha hb).imp λ_ _ _ h=>mR h
def Qx(ho:pE X (compareOp op) g)(ha:PE X a (tE X aa ab fa))(hb:PE X b (tE X aa ab fb))(hm:behindInMarks op b=false):PE X (.Compare a [op] [b] pos) (tE X aa ab (op2 g fa fb)):=(zt ho ha hb hm).imp λ_ _ _ h=>mR h
def uY:PV->Option Bool | .bl b=>some b | _=>none
def jM{b:Bool}(h:uY p=some b):p=.bl b:=by
 cases p<;>first | (cases h;rfl) | cases h
def toB(f:Gx PV):Gx Bool:=bnd f λp=>fy (uY p)
def toB_imp(h:tT X aa ab (toB fa) σ H Q):tE X aa ab fa σ H λv H1=>∃k,v=.bl k/\Q k H1:=by
 obtain⟨F,st,R,h⟩:=h;refine⟨F,st,R,h.bnd λp v F1 aL H1 R1 g1 b1 h1=>?_⟩
 obtain⟨k,e,z⟩:=h1.fy;rw[jM e]at b1;exact⟨k,aR.mp b1,z k H1 F1 R1 (Gr.refl _) rfl⟩
def Qy(ho:pE X (compareOp op) g)(ha:PE X a (tE X aa ab fa))(hb:PE X b (tE X aa ab fb))(hm:behindInMarks op b=false):PT X (.Compare a [op] [b] pos) (tT X aa ab (toB (op2 g fa fb))) :=
 (zu ho ha hb hm).imp λ_ _ _ h=>mR (toB_imp h)
def chain(g g':G2)(fa fb fc:Gx PV):Gx PV:=bnd fa λx=>bnd fb λy=>bnd (hp λh=>(g h x y).bind uY) λk=>if k=true then bnd fc λz=>hp λh=>g' h y z else bV (.bl false)
def qE(h:tE X aa ab (chain g g' fa fb fc) σ H Q):xP (rT X.K g) (rT X.K g') (tE X aa ab fa) (tE X aa ab fb) (tE X aa ab fc) σ H Q:=by
 obtain⟨F,st,R,h⟩:=h;refine⟨F,st,R,h.bnd λp v F1 aL H1 R1 g1 b1 h1=>⟨F1,aL,R1,h1.bnd λq w F2 dk H2 R2 g2 b2 h2=>?_⟩⟩
 obtain⟨k,e,z⟩:=At.hp (At.bnd h2);obtain⟨o,e1,e2⟩:=aE e;rw[jM e2]at e1;refine⟨aa,ab,F2,dk,σ,p,q,_,e1,R2,b1.mono g2,b2,λu H3 F3 R3 g3 b3=>⟨k,aR.mp b3,?_⟩⟩
 cases k with
 | true =>
  have z:Tx X aa ab (bc X.K) F2 dk (bnd fc λz=>hp λh=>g' h q z) σ Q:=z
  refine⟨F3,dk,R3,(z.mono g3 λ_ _ y=>y).bnd λt o F4 GB H4 R4 g4 b4 h4=>?_⟩
  obtain⟨o,e,z⟩:=h4.hp;exact⟨aa,ab,F4,GB,σ,q,t,o,e,R4,b2.mono (g3.trans g4),b4,z⟩
 | false=>exact Tx.bV z _ H3 F3 R3 g3 (aR.mpr rfl)
def HK(ho:pE X (compareOp op) g)(nO:pE X (compareOp ux) g')(ha:PE X a (tE X aa ab fa))(hb:PE X b (tE X aa ab fb))(hc:PE X c (tE X aa ab fc))
  (hm:lastMarks [op,ux] [b,c]=false):PE X (.Compare a [op,ux] [b,c] pos) (tE X aa ab (chain g g' fa fb fc)):=(Dz ho nO ha hb hc hm).imp λ_ _ _ h=>qE h
end
def c9(h:List ah):PV->Option (Kd×List PV)
 | .nd k ps=>some (k,ps)
 | .ref n=>(h[n]?).bind λc=>if live c=true then some (c.k,c.ps)else none
 | _=>none
def bE{α:Type}{c:Prop} [Decidable c] {x:Option α} {y:α} (h:(if c then x else none)=some y):c/\x=some y:=by
 grind
def ax{α:Type}{c:Prop} [Decidable c] {x y:α} (h:(if c then some x else none)=some y):c/\x=y:=by
 grind
section
variable {K:W.Frag} {aa H:Hp} {ab F:Fz} {st:bT} {σ:St}
def Rep.at(R:Rep K aa ab F st σ H){p:PV}{k:Kd}{ps:List PV}{v:V}(e:c9 st.h p=some (k,ps))(b:bc K F p v):∃a vs,v=.ref a/\jI K F.F H a false k vs/\ao K F ps vs:=by
 cases p with
 | nd k' uy =>
  cases e;obtain⟨a,vs,h1,h2,h3⟩:=gS.mp b;exact⟨a,vs,h1,h2.to (bU.refl _) (λo q=>R.sub _ _ q) id,h3⟩
 | ref n =>
  obtain⟨c,e1,e2⟩:=aE e;obtain⟨hl,e3⟩:=ax e2;cases e3;obtain⟨a,h1,h2⟩:=cY.mp b;obtain⟨_,vs,h3,h4⟩:=R.c.cell n c a e1 h1 hl;exact⟨a,vs,h2,h3.to (bU.refl _) (λo q=>q) (λz=>by cases z),h4⟩
 | _=>cases e
def DV(h:List ah)(p:PV):Option (List PV):=match c9 h p with
 | some (.aq,ps)=>some ps
 | some (.lst,ps)=>some ps
 | _=>none
def Rep.seq(R:Rep K aa ab F st σ H){p:PV}{ps:List PV}{v:V}(e:DV st.h p=some ps)(b:bc K F p v):∃a vs,v=.ref a/\(fA K H a vs\/gq K H a vs)/\ao K F ps vs:=by
 unfold DV at e;split at e
 ·rename_i z;cases e;obtain⟨a,vs,h1,h2,h3⟩:=R.at z b;exact⟨a,vs,h1,.inl h2.2,h3⟩
 ·rename_i z;cases e;obtain⟨a,vs,h1,h2,h3⟩:=R.at z b;exact⟨a,vs,h1,.inr h2,h3⟩
 ·cases e
def Bf(h:List ah):PV->Option Bool
 | .aN=>some false
 | .bl b=>some b
 | .int i=>some (i != 0)
 | p=>match c9 h p with
  | some (.aq,ps)=>some !ps.isEmpty
  | some (.lst,ps)=>some !ps.isEmpty
  | some (.eJ false _,ps)=>some !ps.isEmpty
  | _=>none
def n5{ps:List PV}{vs:List V}(h:ao K F ps vs):ps.isEmpty=vs.isEmpty:=by
 cases ps with
 | nil=>rw[h.bL];rfl
 | cons p ps=>obtain⟨v,r,rfl,_,_⟩:=h.bB;rfl
def Rep.W7(R:Rep K aa ab F st σ H){p:PV}{k:Bool}{v:V}(e:Bf st.h p=some k)(b:bc K F p v):Ho K v H k:=by
 have more:(match c9 st.h p with
  | some (.aq,ps)=>some !ps.isEmpty
  | some (.lst,ps)=>some !ps.isEmpty
  | some (.eJ false _,ps)=>some !ps.isEmpty
  | _=>none)=some k->Ho K v H k:=λe=>by
  split at e
  ·rename_i z;cases e;obtain⟨a,vs,rfl,h2,h3⟩:=R.at z b;exact .inr (.inl ⟨vs,h2.2,by rw[n5 h3]⟩)
  ·rename_i z;cases e;obtain⟨a,vs,rfl,h2,h3⟩:=R.at z b;exact .inl ⟨vs,gq.sq h2,by rw[n5 h3]⟩
  ·rename_i z;cases e;obtain⟨a,vs,rfl,⟨kvs,h2,_,h4⟩,h3⟩:=R.at z b;refine .inr (.inr ⟨kvs,h2,?_⟩);rw[n5 h3,<-h4,List.isEmpty_map]
  ·cases e
 cases p with
 | aN=>rw[cj.mp b];exact(bt e).symm
 | bl c=>rw[aR.mp b];exact(bt e).symm
 | int i=>rw[aw.mp b];exact(bt e).symm
 | str x=>exact more e
 | ref n=>exact more e
 | fn x=>exact more e
 | nd k ps=>exact more e
end
section
variable {X:Cx} {aa:Hp} {ab:Fz} {a b c e:Expr} {es rest:List Expr} {fa fb fc:Gx PV} {ga gb:Gx Bool} {ts:Gx (List PV)} {pos:Pos}
def uZ(f:Gx PV):Gx Bool:=bnd f λp=>hp λh=>Bf h p
def Qz(h:PE X e (tE X aa ab fa))(he:∀hZ,isTrue e X.env hZ=(do let v <-hZ;standAt e.pos;holding [v] (truthy v))):PT X e (tT X aa ab (uZ fa)) :=
 (DC h he).imp λσ H Q ⟨F,st,R,h⟩=>⟨F,st,R,h.bnd λp v F1 aL H1 R1 g1 b1 h1=>by
  obtain⟨k,e,z⟩:=h1.hp;exact⟨k,R1.W7 e b1,z k H1 F1 R1 (Gr.refl _) rfl⟩⟩
def HL{op ux:CmpOp}{g g':G2}(ho:pE X (compareOp op) g)(nO:pE X (compareOp ux) g')(ha:PE X a (tE X aa ab fa))(hb:PE X b (tE X aa ab fb))(hc:PE X c (tE X aa ab fc))
  (hm:lastMarks [op,ux] [b,c]=false):PT X (.Compare a [op,ux] [b,c] pos) (tT X aa ab (toB (chain g g' fa fb fc))):=(DA ho nO ha hb hc hm).imp λ_ _ _ h=>qE (toB_imp h)
def jh{α:Type}(gc:Gx Bool)(f g:Gx α):Gx α:=bnd gc λx=>if x=true then f else g
def sY{α β:Type}{rl:Fz->α->β->Prop}{f g:Gx α}{σ:St}{H:Hp}{Q:β->Hp->Prop}(h:tX X aa ab rl (jh ga f g) σ H Q):tT X aa ab ga σ H λc H1=>if c=true then tX X aa ab rl f σ H1 Q else tX X aa ab rl g σ H1 Q:=by
 obtain⟨F,st,R,h⟩:=h;refine⟨F,st,R,h.bnd λx y F1 aL H1 R1 g1 b1 h1=>?_⟩
 cases b1;cases x with
 | true=>exact⟨F1,aL,R1,h1⟩
 | false=>exact⟨F1,aL,R1,h1⟩
def sZ{α β:Type}{rl:Fz->α->β->Prop}{a:α}{b:β}{σ:St}{H:Hp}{Q:β->Hp->Prop}(h:tX X aa ab rl (bV a) σ H Q)(hb:∀F,rl F a b):Q b H:=by
 obtain⟨F,st,R,h⟩:=h;exact h.bV b H F R (Gr.refl _) (hb F)
def u0{P P' Q Q':Prop}{c:Bool}(h:if c=true then P else Q)(h1:P->P')(h2:Q->Q'):if c=true then P' else Q':=by
 grind
def zH{α β:Type}{rl:Fz->α->β->Prop}{f:Gx α}{σ:St}{H:Hp}{Q Q':β->Hp->Prop}(h:tX X aa ab rl f σ H Q)(i:∀b H',Q b H'->Q' b H'):tX X aa ab rl f σ H Q':=let ⟨F,st,R,h⟩:=h;⟨F,st,R,h.mono (Gr.refl _) i⟩
def QA(ha:PT X a (tT X aa ab ga))(hb:PW X (.BoolOp .And (b::rest) pos) (tT X aa ab gb)):PW X (.BoolOp .And (a::b::rest) pos) (tT X aa ab (jh ga gb (bV false))) :=
 (Lw ha hb).imp λσ H Q h=>zH (sY h) λ_ _ z=>u0 z id λz=>sZ z λ_=>rfl
def U1(ha:PT X a (tT X aa ab ga))(hb:PW X (.BoolOp .Or (b::rest) pos) (tT X aa ab gb)):PW X (.BoolOp .Or (a::b::rest) pos) (tT X aa ab (jh ga (bV true) gb)) :=
 (PM ha hb).imp λσ H Q h=>zH (sY h) λ_ _ z=>u0 z (λz=>sZ z λ_=>rfl) id
def ye(f:Gx Bool):Gx Bool:=bnd f λx=>bV !x
def QB(ha:PT X a (tT X aa ab ga)):PT X (.UnaryOp .Not a pos) (tT X aa ab (ye ga)):=(Lx ha).imp λσ H Q ⟨F,st,R,h⟩=>⟨F,st,R,h.bnd λx y F1 aL H1 R1 g1 b1 h1=>by
 cases b1;exact h1.bV _ H1 F1 R1 (Gr.refl _) rfl⟩
def HM(fa fb:Gx PV):Gx PV:=bnd fa λx=>bnd (hp λh=>Bf h x) λk=>if k=true then fb else bV x
def Tz(fa fb:Gx PV):Gx PV:=bnd fa λx=>bnd (hp λh=>Bf h x) λk=>if k=true then bV x else fb
def DW{f g:PV->Gx PV}{ae:List (Addr×Obj)}{s:Shared}{σ:St}{H:Hp}{Q:VK}(ha:PE X a (tE X aa ab fa))(I:Inv X ae σ H s)
  (h:tE X aa ab (bnd fa λx=>bnd (hp λh=>Bf h x) λk=>if k=true then f x else g x) σ H Q) :
  wpAny (model X.prog X.w) X.A (eval a X.env) (λv s1=>wpAny (model X.prog X.w) X.A (truthy v) (λk s2=>∃p xv F1 aL H1,Inv X ae σ H1 s2/\RelV xv v/\Rep X.K aa ab F1 aL σ H1/\bc X.K F1 p xv/\Tx X aa ab (bc X.K) F1 aL (if k=true then f p else g p) σ Q) X.xe s1) X.xe s:=by
 obtain⟨F,st,R,h⟩:=h;refine thn (ha ae s σ H (λv H1=>∃F1 aL p,Rep X.K aa ab F1 aL σ H1/\bc X.K F1 p v/\Tx X aa ab (bc X.K) F1 aL (bnd (hp λh=>Bf h p) λk=>if k=true then f p else g p) σ Q) I
  ⟨F,st,R,h.bnd λp v F1 aL H1 R1 g1 b1 h1=>⟨F1,aL,p,R1,b1,h1⟩⟩) λv s1 ⟨xv,H1,I1,r1,F1,aL,p,R1,b1,h1⟩=>?_
 obtain⟨k,e,z⟩:=At.hp (At.bnd h1);exact thn (DB ae s1 σ H1 xv v (λk' H'=>k'=k/\H'=H1) I1 r1 ⟨k,R1.W7 e b1,rfl,rfl⟩) <| by
  rintro c s2 ⟨H2,I2,ec,eh⟩
  subst ec eh;exact⟨p,xv,F1,aL,H2,I2,r1,R1,b1,z⟩
def U2(ha:PE X a (tE X aa ab fa))(hb:PE X (.BoolOp .Or (b::rest) pos) (tE X aa ab fb)):PE X (.BoolOp .Or (a::b::rest) pos) (tE X aa ab (Tz fa fb)):=λae s σ H Q I h =>
 BoolOp_or (thn (DW ha I h) λv s1 z=>thn z <| by
  rintro k s2 ⟨p,xv,F1,aL,H1,I1,r1,R1,b1,z⟩
  cases k with
  | true=>exact⟨xv,H1,I1,r1,Tx.bV (z) _ H1 F1 R1 (Gr.refl _) b1⟩
  | false=>exact hb ae s2 σ H1 Q I1 ⟨F1,aL,R1,z⟩)
def QC(ha:PE X a (tE X aa ab fa))(hb:PE X (.BoolOp .And (b::rest) pos) (tE X aa ab fb)):PE X (.BoolOp .And (a::b::rest) pos) (tE X aa ab (HM fa fb)):=λae s σ H Q I h =>
 BoolOp_and (thn (DW ha I h) λv s1 z=>thn z <| by
  rintro k s2 ⟨p,xv,F1,aL,H1,I1,r1,R1,b1,z⟩
  cases k with
  | false=>exact⟨xv,H1,I1,r1,Tx.bV (z) _ H1 F1 R1 (Gr.refl _) b1⟩
  | true=>exact hb ae s2 σ H1 Q I1 ⟨F1,aL,R1,z⟩)
def Md(fa:Gx PV):Gx PV:=bnd (toB fa) λx=>bV (.bl !x)
def QD(ha:PE X a (tE X aa ab fa)):PE X (.UnaryOp .Not a pos) (tE X aa ab (Md fa)):=(Ly ha).imp λσ H Q ⟨F,st,R,h⟩ =>
 toB_imp ⟨F,st,R,h.bnd λx y F1 aL H1 R1 g1 b1 h1=>by
  cases b1;exact h1.bV _ H1 F1 R1 (Gr.refl _) (aR.mpr rfl)⟩
def U3(hc:PT X c (tT X aa ab ga))(ha:PE X a (tE X aa ab fa))(hb:PE X b (tE X aa ab fb)):PE X (.IfExp c a b pos) (tE X aa ab (jh ga fa fb)):=(Dn hc ha hb).imp λ_ _ _ h=>sY h
def fu(f:Gx PV)(g:Gx (List PV)):Gx (List PV):=bnd f λx=>bnd g λxs=>bV (x::xs)
def QE:PA X [] (tA X aa ab (bV [])):=nW.imp λσ H Q h=>sZ h λ_=>.nil
def Me(ha:PE X e (tE X aa ab fa))(hr:PA X es (tA X aa ab ts))(hs:starEach (e::es) X.env=(false,eval e X.env)::starEach es X.env:=by rfl):PA X (e::es) (tA X aa ab (fu fa ts)) :=
 (fX ha hr hs).imp (by rintro σ H Q ⟨F,st,R,h⟩;exact⟨F,st,R,h.bnd λp v F1 aL H1 R1 g1 b1 h1=>⟨F1,aL,R1,h1.bnd λps vs F2 dk H2 R2 g2 b2 h2=>h2.bV _ H2 F2 R2 (Gr.refl _) (.cons (b1.mono g2) b2)⟩⟩)
def iN:Nat:=4000000
def cQ{n:Nat}(h:n<=iN):n<=sizeLine:=aD h (by decide)
def small(ps:List PV)(p:PV):Option PV:=if ps.length<=iN then some p else none
def O4(k:Kd)(ts:Gx (List PV)):Gx PV:=bnd ts λps=>fy (small ps (.nd k ps))
def QF{x1}(h:PA X es (tA X aa ab ts)):PE X (.Tuple es x1 pos) (tE X aa ab (O4 .aq ts)):=(LZ h).imp λσ H Q ⟨F,st,R,h⟩=>⟨F,st,R,h.bnd λps vs F1 aL H1 R1 g1 b1 h1=>by
 obtain⟨p,e,z⟩:=h1.fy;obtain⟨hl,rfl⟩:=ax e;refine⟨cQ (by rw[<-b1.length];exact hl),λa hn=>?_⟩
 obtain⟨R2,s2⟩:=R1.laid (.aq vs) hn;exact z _ _ _ R2 s2 (bg.mpr ⟨a,vs,rfl,fA.of au,b1.mono s2⟩)⟩
def QG(h:PA X es (tA X aa ab ts)):PE X (.List es pos) (tE X aa ab (O4 .lst ts)):=(DE h).imp λσ H Q ⟨F,st,R,h⟩=>⟨F,st,R,h.bnd λps vs F1 aL H1 R1 g1 b1 h1=>by
 obtain⟨p,e,z⟩:=h1.fy;obtain⟨hl,rfl⟩:=ax e;refine⟨cQ (by rw[<-b1.length];exact hl),λa hn=>?_⟩
 obtain⟨R2,s2⟩:=R1.laid (.lst vs) hn;exact z _ _ _ R2 s2 (cw.mpr ⟨a,vs,rfl,gq.of au,b1.mono s2⟩)⟩
def ik(c:ah):Gx PV:=λst=>some (.ok (.ref st.h.length),⟨st.ρ,st.h++[c]⟩)
def Tx.ik{c:ah}{F:Fz}{st:bT}{σ:St}{H:Hp}{Q:VK}{p:Addr}{o:HO}{vs:List V}(h:Tx X aa ab (bc X.K) F st (ik c) σ Q)(R:Rep X.K aa ab F st σ H)(hp:H p=none)
  (hn:jI X.K F.F (bZ H p o) p true c.k vs) (hb:ao X.K F c.ps vs):Q (.ref p) (bZ H p o):=by
 obtain⟨r,h1,h2⟩:=h;cases h1;obtain⟨C,g,hm⟩:=R.c.alloc hp hn hb;exact h2 _ _ _ ⟨C,R.l.mono g⟩ g (cY.mpr ⟨p,hm,rfl⟩)
def Mf(ts:Gx (List PV)):Gx PV:=bnd ts λps=>bnd (fy (small ps .aN)) λ_=>ik ⟨.lst,ps⟩
def Mg(h:PA X es (tA X aa ab ts)):PE X (.List es pos) (tE X aa ab (Mf ts)):=(DE h).imp λσ H Q ⟨F,st,R,h⟩=>⟨F,st,R,h.bnd λps vs F1 aL H1 R1 g1 b1 h1=>by
 obtain⟨p,e,z⟩:=At.fy (At.bnd h1);obtain⟨hl,rfl⟩:=ax e;exact⟨cQ (by rw[<-b1.length];exact hl),λa hn=>Tx.ik z R1 hn au b1⟩⟩
end
inductive ek where
 | nx | bk | ct | rt (p:PV)
def u3(X:Cx)(aa:Hp)(ab F:Fz)(D:uN):ek->bT->Prop
 | .nx,st=>∀F' bh H',Rep X.K aa ab F' st bh H'->Gr F F'->D.nx bh H'
 | .bk,st=>∀F' bh H',Rep X.K aa ab F' st bh H'->Gr F F'->D.bk bh H'
 | .ct,st=>∀F' bh H',Rep X.K aa ab F' st bh H'->Gr F F'->D.ct bh H'
 | .rt p,st=>∀v F' H',jL X.K aa ab F' st.h H'->Gr F F'->bc X.K F' p v->D.rt v H'
def Sa(X:Cx)(aa:Hp)(ab F:Fz)(D:uN)(st:bT)(f:Gx ek):Prop:=At X aa ab F st f (u3 X aa ab F D)
def tS(X:Cx)(aa:Hp)(ab:Fz)(f:Gx ek):TS:=λD σ H=>∃F st,Rep X.K aa ab F st σ H/\Sa X aa ab F D st f
section
variable {X:Cx} {aa:Hp} {ab F F1:Fz} {D:uN} {st:bT} {α β:Type}
theorem u3.mono(g:Gr F F1):∀(o:ek) (st:bT),u3 X aa ab F D o st->u3 X aa ab F1 D o st
 | .nx,_,h=>λF' bh H' R z=>h F' bh H' R (g.trans z)
 | .bk,_,h=>λF' bh H' R z=>h F' bh H' R (g.trans z)
 | .ct,_,h=>λF' bh H' R z=>h F' bh H' R (g.trans z)
 | .rt _,_,h=>λv F' H' R z=>h v F' H' R (g.trans z)
def Sa.mono(h:Sa X aa ab F D st f)(g:Gr F F1):Sa X aa ab F1 D st f:=At.imp h g (u3.mono g)
def Sa.bnd(h:Sa X aa ab F D st (bnd f k))
  (i:∀a b F1 aL H1,Rep X.K aa ab F1 aL σ H1->Gr F F1->rl F1 a b->Sa X aa ab F1 D aL (k a)->Q b H1):Tx X aa ab rl F st f σ Q :=
 At.imp (At.bnd h) (Gr.refl F) λa aL q b H1 F1 R1 g1 r1=>i a b F1 aL H1 R1 g1 r1 (Sa.mono q g1)
end
section
variable {X:Cx} {aa:Hp} {ab:Fz} {a b c e tg iter:Expr} {es:List Expr} {fe:Gx PV} {gc:Gx Bool} {pos:Pos} {s:Stmt} {ss body:List Stmt} {f g fb:Gx ek}
def YO(g:Gx ek):ek->Gx ek
 | .nx=>g
 | .bk=>bV .bk
 | .ct=>bV .ct
 | .rt p=>bV (.rt p)
def s9(f g:Gx ek):Gx ek:=bnd f (YO g)
def Mh:PSs X [] (tS X aa ab (bV .nx)):=G6.imp (by rintro D σ H ⟨F,st,R,h⟩;exact At.bV h F σ H R (Gr.refl F))
def HN(h1:PS X s (tS X aa ab f))(h2:PSs X ss (tS X aa ab g)):PSs X (s::ss) (tS X aa ab (s9 f g)):=(Dp h1 h2).imp λD σ H ⟨F,st,R,h⟩ =>
 ⟨F,st,R,At.imp (At.bnd h) (Gr.refl F) λo aL q=>match o,q with
  | .nx,q=>λF1 gT H1 R1 g1=>⟨F1,aL,R1,Sa.mono q g1⟩
  | .bk,q=>λF' bh H'=>At.bV q F' bh H'
  | .ct,q=>λF' bh H'=>At.bV q F' bh H'
  | .rt p,q=>λv F' H'=>At.bV q v F' H'⟩
def Mi(h1:PS X s (tS X aa ab f)):PSs X [s] (tS X aa ab f):=G7 h1
def Mj:PS X (.Pass pos) (tS X aa ab (bV .nx)):=G8.imp (by rintro D σ H ⟨F,st,R,h⟩;exact At.bV h F σ H R (Gr.refl F))
def HP:PS X (.Break pos) (tS X aa ab (bV .bk)):=Dq.imp (by rintro D σ H ⟨F,st,R,h⟩;exact At.bV h F σ H R (Gr.refl F))
def Ml:PS X (.Continue pos) (tS X aa ab (bV .ct)):=uO.imp (by rintro D σ H ⟨F,st,R,h⟩;exact At.bV h F σ H R (Gr.refl F))
def Bg(fe:Gx PV):Gx ek:=bnd fe λp=>bV (.rt p)
def Ke(he:PE X e (tE X aa ab fe)):PS X (.Return (some e) pos) (tS X aa ab (Bg fe)):=(LA he).imp (by rintro D σ H ⟨F,st,R,h⟩;exact⟨F,st,R,h.bnd λp v F1 aL H1 R1 g1 b1 h1=>At.bV h1 v F1 H1 R1.c (Gr.refl _) b1⟩)
def Mm:PS X (.Return none pos) (tS X aa ab (bV (.rt .aN))):=Ha.imp (by rintro D σ H ⟨F,st,R,h⟩;exact At.bV h _ F H R.c (Gr.refl _) (cj.mpr rfl))
def U4(hc:PT X c (tT X aa ab gc))(ha:PSs X p (tS X aa ab f))(hb:PSs X r (tS X aa ab g)):PS X (.If c p r pos) (tS X aa ab (jh gc f g)) :=
 (PX hc ha hb).imp λD σ H ⟨F,st,R,h⟩=>⟨F,st,R,h.bnd λx y F1 aL H1 R1 g1 b1 h1=>by
  cases b1;cases x with
  | true=>exact⟨F1,aL,R1,h1⟩
  | false=>exact⟨F1,aL,R1,h1⟩⟩
def DX(fe:Gx PV):Gx ek:=bnd fe λ_=>bV .nx
def Mn(he:PE X e (tE X aa ab fe))(hs:swapsWith e none pos.line X.env=pure false:=by rfl):PS X (.Expr e pos) (tS X aa ab (DX fe)):=(G9 he hs).imp λD σ H ⟨F,st,R,h⟩ =>
 ⟨F,st,R,h.bnd λp v F1 aL H1 R1 g1 b1 h1=>At.bV h1 F1 σ H1 R1 (Gr.refl _)⟩
abbrev Tg:=PV->bT->Option bT
abbrev O5:=List PV->bT->Option bT
def tG(K:W.Frag)(aa:Hp)(ab:Fz)(g:Tg):TG:=λv σ H Q=>∃F st p bK,Rep K aa ab F st σ H/\bc K F p v/\g p st=some bK/\∀bh H' F',Rep K aa ab F' bK bh H'->Gr F F'->Q bh H'
def QH(K:W.Frag)(aa:Hp)(ab:Fz)(g:O5):J6:=λvs σ H Q=>∃F st ps bK,Rep K aa ab F st σ H/\ao K F ps vs/\g ps st=some bK/\∀bh H' F',Rep K aa ab F' bK bh H'->Gr F F'->Q bh H'
def di(i:Nat):Tg:=λp st=>if i<st.ρ.length then some ⟨st.ρ.set i (some p),st.h⟩else none
def Lc.set{K:W.Frag}(L:Lc K F ρ σ)(hi:i<ρ.length)(hb:bc K F p v):Lc K F (ρ.set i (some p)) (σ.set i (some v)) where
 av:=λj q e=>by
  by_cases h:i=j
  ·subst h;rw[rQ hi]at e;cases e;exact⟨v,rQ (by rw[<-L.len];exact hi),hb⟩
  ·rw[jy h]at e;rw[jy h];exact L.av j q e
 len:=by rw[sx,sx];exact L.len
def Mo(i:Nat)(h:PG X (.Name x pos) (gName i)):PG X (.Name x pos) (tG X.K aa ab (di i)):=h.imp <| by
 rintro v σ H Q ⟨F,st,p,bK,R,hb,hf,q⟩
 obtain⟨hi,rfl⟩:=ax hf;exact q _ _ _ ⟨R.c,R.l.set hi hb⟩ (Gr.refl F)
def td:O5:=λps st=>match ps with | []=>some st | _=>none
def fZ(g:Tg)(r:O5):O5:=λps st=>match ps with | p::ps=>(g p st).bind λbK=>r ps bK | []=>none
def Mp:PGs X [] (QH X.K aa ab td):=Hc.imp <| by
 rintro vs σ H Q ⟨F,st,ps,bK,R,hb,hf,q⟩
 cases ps with
 | nil=>cases hf;exact⟨hb.bL,q _ _ _ R (Gr.refl F)⟩
 | cons _ _=>cases hf
def HQ(h1:PG X e (tG X.K aa ab t))(h2:PGs X es (QH X.K aa ab u))(hs:(assignEach (e::es) X.env).map (·.2)=assign e X.env::(assignEach es X.env).map (·.2):=by rfl) :
  PGs X (e::es) (QH X.K aa ab (fZ t u)):=(Dt h1 h2 hs).imp <| by
 rintro vs σ H Q ⟨F,st,ps,bK,R,hb,hf,q⟩
 cases ps with
 | nil=>cases hf
 | cons p ps =>
  obtain⟨v,r,rfl,b1,b2⟩:=hb.bB;obtain⟨aL,e1,e2⟩:=aE hf;exact⟨v,r,rfl,F,st,p,aL,R,b1,e1,λgT H1 F1 R1 s1=>⟨F1,aL,ps,bK,R1,b2.mono s1,e2,λzo H2 F2 R2 s2=>q zo H2 F2 R2 (s1.trans s2)⟩⟩
def _root_.L2.Inv.kA{s:Shared}{a:Addr}(I:Inv X ae σ H s)(h:gq X.K H a xs):∃(ai:List Value) (n:Nat),Vals xs ai/\s.heap.get? a=some {cls:=.type "list",data:=.seq ai.toArray n}/\xs.length<=sizeLine:=by
 rcases h with h | ⟨ai,n,e,z,r⟩
 ·obtain⟨z,ai,n,r,e⟩:=h.ok I.hok;exact⟨ai,n,r,e,z⟩
 ·exact⟨ai,n,r,I.nN a _ e,by rw[r.length];exact z⟩
def Mq{es:List Expr}{k:Nat}{t:J6}{n:Nat}(hc:X.calm=true)(h:PGs X es t)
 (hn:(assignEach es X.env).length=n:=by rfl) (j9:(assignEach es X.env).findIdx? (·.1)=none:=by rfl):PG X (.Tuple es k pos) (λv σ H Q=>∃a xs,v=.ref a/\gq X.K H a xs/\xs.length=n/\t xs σ H Q):=by
 intro ae s σ H v u Q I r hw;obtain⟨a,xs,e1,hq,hl,hw⟩:=hw;subst e1;cases r;obtain⟨ai,m,rv,e,hz⟩:=I.kA hq;rw[PyProof.Rows.assign_Tuple];refine af (sJ ?_);unfold unpack;rw[show(assignEach es X.env).length=ai.toArray.size by simp[hn,<-hl,rv.length],j9]
 refine af (bX (W.kun_itemsOf (I.ok.hd hc) ⟨_,e,rfl,_,rfl⟩ λh' hx=>?_))
 have I1:=I.kept (t':=s.toks) λb o e=>hx b o (aJ (ay e)) e
 exact h ae _ σ H xs _ Q I1 (by grind) hw
def pU(n:Nat)(t:O5):Tg:=λp st=>match p with | .nd .aq ps=>if ps.length=n then t ps st else none | .nd .lst ps=>if ps.length=n then t ps st else none | _=>none
def QI(hc:X.calm=true)(h:PGs X es (QH X.K aa ab t))(hn:(assignEach es X.env).length=n:=by rfl)(j9:(assignEach es X.env).findIdx? (·.1)=none:=by rfl) :
  PG X (.Tuple es k pos) (tG X.K aa ab (pU n t)):=by
 rintro ae s σ H v u Q I r ⟨F,st,p,bK,R,hb,hf,q⟩
 unfold pU at hf;split at hf
 ·obtain⟨hl,hf⟩:=bE hf;obtain⟨a,vs,rfl,hs,tf⟩:=bg.mp hb;exact LB hc h hn j9 ae s σ H _ u Q I r ⟨a,vs,rfl,aU R.sub hs,by rw[<-tf.length];exact hl,F,st,_,bK,R,tf,hf,q⟩
 ·obtain⟨hl,hf⟩:=bE hf;obtain⟨a,vs,rfl,hs,tf⟩:=cw.mp hb;exact Mq hc h hn j9 ae s σ H _ u Q I r ⟨a,vs,rfl,gw R.sub hs,by rw[<-tf.length];exact hl,F,st,_,bK,R,tf,hf,q⟩
 ·cases hf
def stp(g:bT->Option bT):Gx ek:=λst=>(g st).map λbK=>(.ok .nx,bK)
def Sa.stp{st:bT}{g:bT->Option bT}(h:Sa X aa ab F D st (stp g)):∃bK,g st=some bK/\∀F' bh H',Rep X.K aa ab F' bK bh H'->Gr F F'->D.nx bh H':=by
 obtain⟨r,h1,h2⟩:=h;obtain⟨bK,e1,e2⟩:=aM h1;subst e2;exact⟨bK,e1,h2⟩
def n6(fe:Gx PV)(g:Tg):Gx ek:=bnd fe λp=>stp (g p)
def HR{g:Tg}(h:tS X aa ab (n6 fe g) D σ H):He (tE X aa ab fe) (tG X.K aa ab g) D σ H:=by
 obtain⟨F,st,R,h⟩:=h;refine⟨F,st,R,h.bnd λp v F1 aL H1 R1 g1 b1 h1=>?_⟩
 obtain⟨bK,e,z⟩:=h1.stp;exact⟨F1,aL,p,bK,R1,b1,e,λzo H2 F2 R2 s2=>z F2 zo H2 R2 s2⟩
def QJ{g:Tg}(he:PE X e (tE X aa ab fe))(hg:PG X tg (tG X.K aa ab g))(hs:swapsWithSole [tg] e pos.line X.env=pure false:=by rfl)(hw:swappedStores [tg] e X.env=pure none:=by rfl)
  (h1:(assignEach [tg] X.env).map (·.2)=[assign tg X.env]:=by rfl):PS X (.Assign [tg] e pos) (tS X aa ab (n6 fe g)):=(Du he hg hs hw h1).imp λ_ _ _ h=>HR h
def Walk(K:W.Frag)(F:Fz)(ps:List PV)(J:It):Prop:=∀(aa:Hp) (ab F':Fz) (st:bT) (σ:St) (H:Hp),Rep K aa ab F' st σ H->Gr F F'->∀i:Nat,
 (∀p,ps[i]?=some p->J.go i H/\∀x H',J.yld i H x H'->∃DY,Rep K aa ab DY st σ H'/\Gr F' DY/\bc K DY p x)/\(ps[i]?=none->J.stop i H)
abbrev tI(X:Cx)(aa:Hp)(ab:Fz)(f:Gx (List PV)):TI:=tX X aa ab (Walk X.K) f
def u4(r:Gx ek):ek->Gx ek
 | .nx=>r
 | .ct=>r
 | .bk=>bV .nx
 | .rt p=>bV (.rt p)
def eY(g:Tg)(body:Gx ek):List PV->Gx ek
 | []=>bV .nx
 | p::ps=>bnd (stp (g p)) λ_=>bnd body (u4 (eY g body ps))
def Sa.nQ{st:bT}(N:St->Hp->Prop)(hN:∀F1 aL gT H1,Rep X.K aa ab F1 aL gT H1->Gr F F1->Sa X aa ab F1 D aL r->N gT H1)(h:Sa X aa ab F D st (U.bnd fb (u4 r))):Sa X aa ab F {D with nx:=N,ct:=N,bk:=D.nx} st fb :=
 At.imp (At.bnd h) (Gr.refl F) λo aL q=>match o,q with
  | .nx,q=>λF1 gT H1 R1 g1=>hN F1 aL gT H1 R1 g1 (Sa.mono q g1)
  | .ct,q=>λF1 gT H1 R1 g1=>hN F1 aL gT H1 R1 g1 (Sa.mono q g1)
  | .bk,q=>λF' bh H'=>At.bV q F' bh H'
  | .rt p,q=>λv F' H'=>At.bV q v F' H'
def lP(gc:Gx Bool)(body:Gx ek):Nat->Gx ek
 | 0=>λ_=>none
 | n+1=>bnd gc λc=>if c=true then bnd body (u4 (lP gc body n))else bV .nx
def HS(n:Nat)(hp:PassesOwn (model X.prog X.w) X.A X.env X.xe)(hc:PT X c (tT X aa ab gc))(hb:PSs X body (tS X aa ab fb)):PS X (.While c body [] pos) (tS X aa ab (lP gc fb n)) :=
 (Dv hp hc hb).imp <| by
 rintro D σ H ⟨F,st,R,h⟩
 refine⟨λm bh H'=>∃F' bK,Rep X.K aa ab F' bK bh H'/\Sa X aa ab F' D bK (lP gc fb m),⟨n,F,st,R,h⟩,λm bh H' ⟨F',bK,R',h'⟩=>?_⟩
 cases m with
 | zero=>obtain⟨r,e,_⟩:=h';cases e
 | succ m =>
  refine⟨F',bK,R',Sa.bnd h' λx y F1 aL H1 R1 g1 b1 h1=>?_⟩
  cases b1;cases x with
  | false=>exact At.bV h1 F1 bh H1 R1 (Gr.refl _)
  | true=>exact⟨λzo H2=>∃F2 dk,Rep X.K aa ab F2 dk zo H2/\Sa X aa ab F2 D dk (lP gc fb m),λzo H2 n2=>⟨m,lC m,n2⟩,F1,aL,R1,Sa.nQ _ (λF4 GB Kf H4 R4 g4 z=>⟨F4,GB,R4,z⟩) h1⟩
end
def sizeOk(n:Nat)(p:PV):Option PV:=if n<=iN then some p else none
def iO(h:sizeOk n p=some q):n<=sizeLine/\p=q:=by
 obtain⟨h1,h2⟩:=ax h;exact⟨cQ h1,h2⟩
def lQ(h:List ah)(p:PV):Option (List PV):=match c9 h p with | some (.lst,ps)=>some ps | _=>none
def cZ(e:lQ h p=some ps):c9 h p=some (.lst,ps):=by
 unfold lQ at e;split at e
 ·grind
 ·cases e
def kB:G2:=λh p q=>match p,q with
 | .int i,.int j=>some (.int (i+j))
 | .str x,.str y=>sizeOk (x.length+y.length) (.str (x++y))
 | .nd .aq xs,.nd .aq ys=>sizeOk (xs.length+ys.length) (.aq (xs++ys))
 | p,q=>(lQ h p).bind λxs=>(lQ h q).bind λys=>sizeOk (xs.length+ys.length) (.lst (xs++ys))
def mF(c:Int->Int->Bool)(f:Int->Int->PV):G2:=λ_ p q=>match p,q with
 | .int i,.int j=>if c i j=true then some (f i j)else none
 | _,_=>none
def pV:Int:=18446744073709551616
def QK:G2:=mF (λ_ _=>true) λi j=>.int (i-j)
def Mr:G2:=mF (λi j=>decide ((-pV<i/\i<pV)\/(-pV<j/\j<pV))) λi j=>.int (i*j)
def u5:G2:=mF (λ_ j=>decide (0<j/\j<1073741824)) λi j=>.int (i/j)
def fT:G2:=mF (λ_ j=>decide (0<j)) λi j=>.int (i%j)
def Bh:G2:=mF (λi j=>decide (0<=j/\j<=1000/\i.natAbs<1000)) λi j=>.int (i^j.toNat)
def W8:G2:=mF (λ_ _=>true) λi j=>.bl (decide (i<j))
def W9:G2:=mF (λ_ _=>true) λi j=>.bl (decide (i<=j))
def Xa:G2:=mF (λ_ _=>true) λi j=>.bl (decide (j<=i))
section
variable {X:Cx}
def u6{ws:List Value}(ht:IsTup s.heap t ([]:List Value).toArray)(hb:IsTup s.heap b ws.toArray)(h1:Q (.ref b) s):wpAny (model prog w) A (binaryOp .Add (.ref t) (.ref b)) Q E s:=by
 obtain⟨⟨cls,dd,data,sl⟩,ho,hc,n,hd⟩:=id ht;obtain⟨⟨UK,Tp,Qg,Tq⟩,L3,Qh,n2,Qi⟩:=id hb;simp only at hc hd Qh Qi;subst hc hd Qh Qi;exact concat_meets ⟨_,ho,rfl⟩ ⟨_,L3,rfl⟩ xq seq_tuple_add wV wQ (wM _ _) (tuple_addW0 t b _ ws.toArray n n2 dd Tp sl Tq (by simp)) ⟨ho,L3,h1⟩
def HU:pE X (binaryOp .Add) kB:=by
 rintro ae s σ H x y v u Q I rx ry ⟨aa,ab,F,st,τ,pa,pb,p,e,R,ba,bb,k⟩
 unfold kB at e;split at e
 ·cases e;rw[aw.mp ba]at rx;rw[aw.mp bb]at ry;exact LM ae s σ H _ _ v u Q I rx ry ⟨_,_,rfl,rfl,k _ H F R (Gr.refl F) (aw.mpr rfl)⟩
 ·obtain⟨hz,rfl⟩:=iO e;rw[bf.mp ba]at rx;rw[bf.mp bb]at ry;exact xR ae s σ H _ _ v u Q I rx ry ⟨_,_,rfl,rfl,hz,k _ H F R (Gr.refl F) (bf.mpr rfl)⟩
 ·rename_i xs ys;obtain⟨hz,rfl⟩:=iO e;obtain⟨a,vs,rfl,ha,eM⟩:=bg.mp ba;obtain⟨b,ws,rfl,hb,GD⟩:=bg.mp bb;have Ms:=aU R.sub ha;have iu:=aU R.sub hb;cases xs with
  | nil =>
   rw[eM.bL]at Ms;cases rx;cases ry;obtain⟨ai,r1,p1,_⟩:=I.tuple Ms;obtain⟨bY,r2,p2,_⟩:=I.tuple iu;cases r1;exact u6 p1 p2 ⟨.ref b,H,I,rfl,k _ H F R (Gr.refl F) (bg.mpr ⟨b,ws,rfl,hb,GD⟩)⟩
  | cons x0 xr =>
   refine HA ae s σ H _ _ v u Q I rx ry ⟨a,b,vs,ws,rfl,rfl,Ms,iu,?_,by rw[<-eM.length,<-GD.length];exact hz,λz=>?_,λz q hq=>?_⟩
   ·intro z;have:=eM.length;rw[z]at this;cases this
   ·subst z;have hy:=rM GD.length;subst hy;rw[gj]at k;exact k _ H F R (Gr.refl F) (bg.mpr ⟨a,vs,rfl,ha,eM⟩)
   ·obtain⟨R2,s2⟩:=R.laid (.aq (vs++ws)) hq;exact k _ _ _ R2 s2 (bg.mpr ⟨q,_,rfl,fA.of au,(eM.append GD).mono s2⟩)
 ·obtain⟨xs,e1,e⟩:=aE e;obtain⟨ys,e2,e⟩:=aE e;obtain⟨hz,rfl⟩:=iO e;obtain⟨a,vs,rfl,ha,eM⟩:=R.at (cZ e1) ba;obtain⟨b,ws,rfl,hb,GD⟩:=R.at (cZ e2) bb;cases rx;cases ry;obtain⟨ai,n,r,e1,z1⟩:=I.kA ha;obtain⟨bY,n2,r2,e2,z2⟩:=I.kA hb;have hl:=r.length;have TC:=r2.length;have YQ:vs.length+ws.length<=sizeLine:=by rw[<-eM.length,<-GD.length];exact hz
  refine PySem.P.add_list e1 e2 ?_ (by grind)
  have ea:ai.toArray++bY.toArray=(ai++bY).toArray:=by simp
  rw[ea];obtain⟨R2,s2⟩:=R.laid (.lst (vs++ws)) I.fresh;exact⟨.ref _,_,I.Ma (r.append r2) (by grind),rfl,k _ _ _ R2 s2 (cw.mpr ⟨_,_,rfl,gq.of au,(eM.append GD).mono s2⟩)⟩
def eG(ho:OpR X f (rI C h))(hc:∀i j,c i j=true->C i j)(hg:∀i j F,bc X.K F (g i j) (h i j)):pE X f (mF c g):=by
 rintro ae s σ H x y v u Q I rx ry ⟨aa,ab,F,st,τ,pa,pb,p,e,R,ba,bb,k⟩
 unfold mF at e;split at e
 ·obtain⟨h1,rfl⟩:=ax e;rw[aw.mp ba]at rx;rw[aw.mp bb]at ry;exact ho ae s σ H _ _ v u Q I rx ry ⟨_,_,rfl,rfl,hc _ _ h1,k _ H F R (Gr.refl F) (hg _ _ F)⟩
 ·cases e
def qF(ho:OpR X f (Gy h)):OpR X f (rI (λ_ _=>True) h):=(by rintro ae s σ H x y v u Q I rx ry ⟨i,j,h1,h2,_,q⟩;exact ho ae s σ H x y v u Q I rx ry ⟨i,j,h1,h2,q⟩)
end
def Mt:Operator->Option G2
 | .Add=>some kB
 | .Sub=>some QK
 | .Mult=>some Mr
 | .FloorDiv=>some u5
 | .Mod=>some fT
 | .Pow=>some Bh
 | _=>none
def zI(h:Mt op=some g):pE X (binaryOp op) g:=by
 unfold Mt at h;split at h<;>cases h
 ·exact HU
 ·exact eG (qF LN) (by grind) λ_ _ _=>aw.mpr rfl
 ·exact eG LO (λi j e=>show(-pV<i/\i<pV)\/(-pV<j/\j<pV)from eS e) λ_ _ _=>aw.mpr rfl
 ·exact eG Hk (λ_ j e=>show 0<j/\j<1073741824 from eS e) λ_ _ _=>aw.mpr rfl
 ·exact eG LP (λ_ _ e=>eS e) λ_ _ _=>aw.mpr rfl
 ·exact eG LQ (λ_ _ e=>let ⟨h1,h2,h3⟩:=eS e;⟨h1,by lia,gO h3 (by decide)⟩) λ_ _ _=>aw.mpr rfl
inductive Tr where
 | aN | bl (b:Bool) | int (i:Int) | str (x:Str) | aq (xs:List Tr) | lst (xs:List Tr)
mutual
def eqT:Tr->Tr->Bool
 | .aN,.aN=>true
 | .bl a,.bl b=>a==b
 | .bl a,.int b=>(if a then 1 else 0)==b
 | .int a,.bl b=>a==(if b then 1 else 0)
 | .int a,.int b=>a==b
 | .str a,.str b=>a==b
 | .aq xs,.aq ys=>kC xs ys
 | .lst xs,.lst ys=>kC xs ys
 | _,_=>false
def kC:List Tr->List Tr->Bool
 | [],[]=>true
 | x::xs,y::ys=>eqT x y&&kC xs ys
 | _,_=>false
end
mutual
def dep:Tr->Nat
 | .aq xs=>ji xs+1
 | .lst xs=>ji xs+1
 | _=>0
def ji:List Tr->Nat
 | []=>0
 | x::xs=>max (dep x) (ji xs)
end
mutual
theorem n8:∀p:Tr,eqT p p=true
 | .aN=>rfl
 | .bl b=>gh b
 | .int b=>gh b
 | .str b=>gh b
 | .aq xs=>lR xs
 | .lst xs=>lR xs
theorem lR:∀ps:List Tr,kC ps ps=true
 | []=>rfl
 | x::xs=>nj.mpr ⟨n8 x,lR xs⟩
end
theorem kD:∀{xs ys:List Tr},xs.length≠ys.length->kC xs ys=false
 | [],[],h=>absurd rfl h
 | [],_::_,_=>rfl
 | _::_,[],_=>rfl
 | x::xs,y::ys,h=>by show(eqT x y&&kC xs ys)=false;rw[kD (by simpa using h),du]
def n9(xs ys:List Tr)(j:Nat):Bool:=match xs[j]?,ys[j]? with
 | some x,some y=>eqT x y
 | _,_=>true
theorem kE:∀{xs ys:List Tr},xs.length=ys.length->(List.range xs.length).all (n9 xs ys)=kC xs ys
 | [],[],_=>rfl
 | [],_::_,h=>by cases h
 | _::_,[],h=>by cases h
 | x::xs,y::ys,h=>by
  have ih:=kE (by simpa using h)
  rw[cF,List.range_succ_eq_map,fE,List.all_map];have e0:n9 (x::xs) (y::ys) 0=eqT x y:=rfl;have e1:(n9 (x::xs) (y::ys) ∘ Nat.succ)=n9 xs ys:=by
   funext j
   simp[n9,Function.comp]
  rw[e0,e1,ih];rfl
def zJ(h1:xs.length=m)(h2:ys.length=n):((List.range (min m n)).all (n9 xs ys)&&(m==n))=kC xs ys:=by
 subst h1 h2;by_cases h:xs.length=ys.length
 ·rw[<-h,Nat.min_self,kE h];simp
 ·rw[kD h];simp[h]
mutual
def cx(s:Shared):Tr->Value->Prop
 | .aN,u=>u=.none
 | .bl b,u=>u=.bool b
 | .int i,u=>∃t,u=.int i t
 | .str x,u=>∃t,u=.str x t
 | .aq ts,u=>∃a ai,u=.ref a/\s.heap.IsTuple a ai.toArray/\bC s ts ai
 | .lst ts,u=>∃a ai,u=.ref a/\s.heap.IsList a ai.toArray/\bC s ts ai
def bC(s:Shared):List Tr->List Value->Prop
 | [],us=>us=[]
 | t::ts,us=>∃u r,us=u::r/\cx s t u/\bC s ts r
end
section
variable {A:Around} {s:Shared}
theorem bC.len:∀{ts:List Tr} {us:List Value},bC s ts us->ts.length=us.length
 | [],_,h=>by simp only[bC]at h;rw[h];rfl
 | _::_,_,h=>by
  simp only[bC]at h;obtain⟨u,r,rfl,_,h⟩:=h;simp[bC.len h]
def i9(h1:s.heap.IsTuple a x)(h2:s.heap.IsTuple a y):x=y:=by
 obtain⟨o,e,_,n,d⟩:=h1;obtain⟨o',e',_,n',d'⟩:=h2;rw[e]at e';cases e';rw[d]at d';cases d';rfl
def km(h1:s.heap.IsList a x)(h2:s.heap.IsList a y):x=y:=by
 obtain⟨o,e,_,n,d⟩:=h1;obtain⟨o',e',_,n',d'⟩:=h2;rw[e]at e';cases e';rw[d]at d';cases d';rfl
def og(h1:s.heap.IsTuple a x)(h2:s.heap.IsList a y):False:=by
 obtain⟨o,e,c,n,d⟩:=h1;obtain⟨o',e',c',n',d'⟩:=h2;rw[e]at e';cases e';rw[c]at c';simp at c'
mutual
theorem cx.inj:∀{p q:Tr} {u:Value},cx s p u->cx s q u->p=q
 | .aN,q,u,h,h'=>by cases q<;>simp_all [cx]
 | .bl b,q,u,h,h'=>by cases q<;>simp_all [cx]
 | .int b,q,u,h,h'=>by
  simp only[cx]at h;obtain⟨t,rfl⟩:=h;cases q<;>simp_all [cx]
 | .str b,q,u,h,h'=>by
  simp only[cx]at h;obtain⟨t,rfl⟩:=h;cases q<;>simp_all [cx]
 | .aq xs,q,u,h,h'=>by
  simp only[cx]at h;obtain⟨a,ai,rfl,h1,h2⟩:=h;cases q with
  | aq ys =>
   simp only[cx]at h';obtain⟨b,QL,e,g1,g2⟩:=h';cases e;have:=i9 h1 g1;have e:ai=QL:=by simpa using this
   subst e;rw[bC.inj h2 g2]
  | lst ys =>
   simp only[cx]at h';obtain⟨b,QL,e,g1,g2⟩:=h';cases e;exact(og h1 g1).elim
  | _=>simp[cx]at h'
 | .lst xs,q,u,h,h'=>by
  simp only[cx]at h;obtain⟨a,ai,rfl,h1,h2⟩:=h;cases q with
  | lst ys =>
   simp only[cx]at h';obtain⟨b,QL,e,g1,g2⟩:=h';cases e;have:=km h1 g1;have e:ai=QL:=by simpa using this
   subst e;rw[bC.inj h2 g2]
  | aq ys =>
   simp only[cx]at h';obtain⟨b,QL,e,g1,g2⟩:=h';cases e;exact(og g1 h1).elim
  | _=>simp[cx]at h'
theorem bC.inj:∀{ps qs:List Tr} {us:List Value},bC s ps us->bC s qs us->ps=qs
 | [],qs,us,h,h'=>by
  simp only[bC]at h;subst h;cases qs with
  | nil=>rfl
  | cons _ _=>simp[bC]at h'
 | p::ps,qs,us,h,h'=>by
  simp only[bC]at h;obtain⟨u,r,rfl,h1,h2⟩:=h;cases qs with
  | nil=>simp[bC]at h'
  | cons q qs =>
   simp only[bC]at h';obtain⟨u',r',e,g1,g2⟩:=h';cases e;rw[cx.inj h1 g1,bC.inj h2 g2]
end
def oh(h:b=c)(r:SeqAt.RcAt A s u w b):SeqAt.RcAt A s u w c:=h▸r
def jN(h:b = !c)(r:SeqAt.RcNeAt A s u w b):SeqAt.RcNeAt A s u w (!c):=h▸r
def zK(hf:∀x t,u≠.float x t)(h:SeqAt.RcAt A s u w b)(hb:u=w->b=true):SeqAt.EqAt A s u w b:=λprog v E Q hq=>by
 unfold eqBool;refine bX ?_;refine wpAny_ite_split (λz=>?_) (λ_=>?_)
 ·rw[hb (aH z)]at hq;exact af (gm (ag hq))
 ·cases u with
  | float x t=>exact absurd rfl (hf x t)
  | _=>exact af (h prog v E _ (iC hq))
def cx.Kg(h:cx s p u):∀y t,u≠.float y t:=λy t z=>by
 subst z;cases p<;>simp[cx]at h
mutual
theorem tj:∀(p q:Tr) (A:Around) (u w:Value),cx s p u->cx s q w->A.units+dep p<cLine->SeqAt.RcAt A s u w (eqT p q)/\SeqAt.RcNeAt A s u w (!(eqT p q))
 | .aN,q,A,u,w,ha,hb,hu=>by
  have fI:A.units<cLine := ‹_›;subst ha;cases q with
  | aN=>cases hb;exact⟨.none_none,.none_none⟩
  | bl=>cases hb;exact⟨(.none_bool _),(.none_bool _)⟩
  | int=>obtain⟨t,rfl⟩:=hb;exact⟨(.none_int _ _),(.none_int _ _)⟩
  | str=>obtain⟨t,rfl⟩:=hb;exact⟨(.none_str _ _),(.none_str _ _)⟩
  | aq=>obtain⟨a,ai,rfl,pR,_⟩:=hb;exact⟨(.none_tuple pR fI),(.none_tuple pR fI)⟩
  | lst=>obtain⟨a,ai,rfl,pR,_⟩:=hb;exact⟨(.none_list pR fI),(.none_list pR fI)⟩
 | .bl k,q,A,u,w,ha,hb,hu=>by
  have fI:A.units<cLine := ‹_›;subst ha;cases q with
  | aN=>cases hb;exact⟨(.bool_none _),(.bool_none _)⟩
  | bl=>cases hb;exact⟨(.bool_bool _ _),(.bool_bool _ _)⟩
  | int=>obtain⟨t,rfl⟩:=hb;exact⟨(.bool_int _ _ _),(.bool_int _ _ _)⟩
  | str=>obtain⟨t,rfl⟩:=hb;exact⟨(.bool_str _ _ _),(.bool_str _ _ _)⟩
  | aq=>obtain⟨a,ai,rfl,pR,_⟩:=hb;exact⟨(.bool_tuple _ pR fI),(.bool_tuple _ pR fI)⟩
  | lst=>obtain⟨a,ai,rfl,pR,_⟩:=hb;exact⟨(.bool_list _ pR fI),(.bool_list _ pR fI)⟩
 | .int k,q,A,u,w,ha,hb,hu=>by
  have fI:A.units<cLine := ‹_›;obtain⟨tk,rfl⟩:=ha;cases q with
  | aN=>cases hb;exact⟨(.int_none _ _),(.int_none _ _)⟩
  | bl=>cases hb;exact⟨(.int_bool _ _ _),(.int_bool _ _ _)⟩
  | int=>obtain⟨t,rfl⟩:=hb;exact⟨(.int_int _ _ _ _),(.int_int _ _ _ _)⟩
  | str=>obtain⟨t,rfl⟩:=hb;exact⟨(.int_str _ _ _ _),(.int_str _ _ _ _)⟩
  | aq=>obtain⟨a,ai,rfl,pR,_⟩:=hb;exact⟨(.int_tuple _ _ pR fI),(.int_tuple _ _ pR fI)⟩
  | lst=>obtain⟨a,ai,rfl,pR,_⟩:=hb;exact⟨(.int_list _ _ pR fI),(.int_list _ _ pR fI)⟩
 | .str k,q,A,u,w,ha,hb,hu=>by
  have fI:A.units<cLine := ‹_›;obtain⟨tk,rfl⟩:=ha;cases q with
  | aN=>cases hb;exact⟨(.str_none _ _),(.str_none _ _)⟩
  | bl=>cases hb;exact⟨(.str_bool _ _ _),(.str_bool _ _ _)⟩
  | int=>obtain⟨t,rfl⟩:=hb;exact⟨(.str_int _ _ _ _),(.str_int _ _ _ _)⟩
  | str=>obtain⟨t,rfl⟩:=hb;exact⟨(.str_str _ _ _ _),(.str_str _ _ _ _)⟩
  | aq=>obtain⟨a,ai,rfl,pR,_⟩:=hb;exact⟨(.str_tuple _ _ pR fI),(.str_tuple _ _ pR fI)⟩
  | lst=>obtain⟨a,ai,rfl,pR,_⟩:=hb;exact⟨(.str_list _ _ pR fI),(.str_list _ _ pR fI)⟩
 | .aq xs,q,A,u,w,ha,hb,hu=>by
  have fI:A.units<cLine:=by lia
  obtain⟨al,HV,rfl,pL,tL⟩:=ha;cases q with
  | aN=>cases hb;exact⟨(.tuple_none pL fI),(.tuple_none pL fI)⟩
  | bl=>cases hb;exact⟨(.tuple_bool _ pL fI),(.tuple_bool _ pL fI)⟩
  | int=>obtain⟨t,rfl⟩:=hb;exact⟨(.tuple_int _ _ pL fI),(.tuple_int _ _ pL fI)⟩
  | str=>obtain⟨t,rfl⟩:=hb;exact⟨(.tuple_str _ _ pL fI),(.tuple_str _ _ pL fI)⟩
  | lst=>obtain⟨a,ai,rfl,pR,_⟩:=hb;exact⟨(.tuple_list pL pR fI),(.tuple_list pL pR fI)⟩
  | aq ys =>
   obtain⟨a,HW,rfl,pR,tR⟩:=hb;have e1:xs.length=HV.toArray.size:=by rw[bO,tL.len]
   have e2:ys.length=HW.toArray.size:=by rw[bO,tR.len]
   have el:=λj (h1:j<HV.toArray.size) (h2:j<HW.toArray.size)=>tm xs ys A.in1 HV HW tL tR (by rw[nz];have hu:_+(ji _+1)<_:=hu;lia) j (by simpa using h1) (by simpa using h2)
   exact⟨oh (zJ e1 e2) (.tuples pL pR fI el),jN (by rw[zJ e1 e2];rfl) (.tuples pL pR fI el)⟩
 | .lst xs,q,A,u,w,ha,hb,hu=>by
  have fI:A.units<cLine:=by lia
  obtain⟨al,HV,rfl,pL,tL⟩:=ha;cases q with
  | aN=>cases hb;exact⟨(.list_none pL fI),(.list_none pL fI)⟩
  | bl=>cases hb;exact⟨(.list_bool _ pL fI),(.list_bool _ pL fI)⟩
  | int=>obtain⟨t,rfl⟩:=hb;exact⟨(.list_int _ _ pL fI),(.list_int _ _ pL fI)⟩
  | str=>obtain⟨t,rfl⟩:=hb;exact⟨(.list_str _ _ pL fI),(.list_str _ _ pL fI)⟩
  | aq=>obtain⟨a,ai,rfl,pR,_⟩:=hb;exact⟨(.list_tuple pL pR fI),(.list_tuple pL pR fI)⟩
  | lst ys =>
   obtain⟨a,HW,rfl,pR,tR⟩:=hb;have e1:HV.toArray.size=xs.length:=by rw[bO,tL.len]
   have e2:HW.toArray.size=ys.length:=by rw[bO,tR.len]
   by_cases hl:xs.length=ys.length
   ·have sz:HV.toArray.size=HW.toArray.size:=by rw[e1,e2];exact hl
    have el:=λj (h1:j<HV.toArray.size) (h2:j<HW.toArray.size)=>tm xs ys A.in1 HV HW tL tR (by rw[nz];have hu:_+(ji _+1)<_:=hu;lia) j (by simpa using h1) (by simpa using h2)
    exact⟨oh (by rw[e1,kE hl];rfl) (.lists pL pR sz fI el),jN (by rw[e1,kE hl];rfl) (.lists pL pR sz fI el)⟩
   ·have sz:(HV.toArray.size != HW.toArray.size)=true:=by rw[e1,e2];simpa using hl
    exact⟨oh (kD hl).symm (.lists_lengths pL pR sz fI),jN (eX not (kD hl)).symm (.lists_lengths pL pR sz fI)⟩
theorem tm:∀(ps qs:List Tr) A (us zs:List Value),bC s ps us->bC s qs zs->A.units+ji ps<cLine ->
  ∀j h1 (h2:j<zs.length),SeqAt.EqAt A s us[j] zs[j] (n9 ps qs j)
 | [],qs,A,us,zs,b1,b2,hu=>λj h1 h2=>by
  simp only[bC]at b1;subst b1;cases h1
 | p::ps,qs,A,us,zs,b1,b2,hu=>λj h1 h2=>by
  simp only[bC]at b1;obtain⟨u,ur,rfl,c1,d1⟩:=b1;cases qs with
  | nil =>
   simp only[bC]at b2;subst b2;cases h2
  | cons q qs =>
   simp only[bC]at b2;obtain⟨z,zr,rfl,c2,d2⟩:=b2;have hm:A.units+dep p<cLine/\A.units+ji ps<cLine:=by
    simp only[ji]at hu
    lia
   cases j with
   | zero =>
    refine zK c1.Kg (tj p q A _ _ c1 c2 hm.1).1 λe=>?_
    simp only[List.getElem_cons_zero]at e;rw[e]at c1;rw[c1.inj c2];exact n8 q
   | succ j=>exact tm ps qs A _ _ d1 d2 hm.2 j (by simpa using h1) (by simpa using h2)
end
def Mu(b1:cx s p u)(b2:cx s q w)(hu:A.units+dep p<cLine):SeqAt.EqAt A s u w (eqT p q):=by
 refine zK b1.Kg (tj p q A _ _ b1 b2 hu).1 λz=>?_
 rw[z]at b1;rw[b1.inj b2];exact n8 q
end
def bj{α β:Type}(f:α->Option β):List α->Option (List β)
 | []=>some []
 | x::xs=>(f x).bind λy=>(bj f xs).map λys=>y::ys
def yf:Kd->List Tr->Option Tr
 | .aq,ts=>some (.aq ts)
 | .lst,ts=>some (.lst ts)
 | _,_=>none
def toT(h:List ah):Nat->PV->Option Tr
 | 0,_=>none
 | n+1,p=>match p with
  | .aN=>some .aN
  | .bl b=>some (.bl b)
  | .int i=>some (.int i)
  | .str x=>some (.str x)
  | .fn _=>none
  | p=>(c9 h p).bind λq=>(bj (toT h n) q.2).bind (yf q.1)
def cC(h:bj f (x::xs)=some ys):∃y r,f x=some y/\bj f xs=some r/\ys=y::r:=by
 obtain⟨y,h1,h2⟩:=aE h;obtain⟨r,h3,h4⟩:=aM h2;exact⟨y,r,h1,h3,h4.symm⟩
theorem tq(h:List ah):∀(n:Nat) (p:PV) (t:Tr),toT h n p=some t->dep t<=n
 | 0,_,_,e=>by cases e
 | n+1,p,t,e=>by
  have go:((c9 h p).bind λq=>(bj (toT h n) q.2).bind (yf q.1))=some t->dep t<=n+1:=λe=>by
   obtain⟨q,_,e⟩:=aE e;obtain⟨ts,e1,e2⟩:=aE e;have hd:∀ps ts,bj (toT h n) ps=some ts->ji ts<=n:=by
    intro ps;induction ps with
    | nil=>intro ts z;cases z;simp[ji]
    | cons p ps ih =>
     intro ts z;obtain⟨y,r,h1,h2,rfl⟩:=cC z;have:=tq h n p y h1;have:=ih r h2;simp only[ji];lia
   have:=hd _ _ e1;unfold yf at e2;split at e2<;>cases e2<;>simp only[dep]<;>lia
  unfold toT at e;split at e<;>first | (cases e;simp[dep];done) | (cases e;done) | exact go e
section
variable {X:Cx} {ae:List (Addr×Obj)} {σ τ:St} {s:Shared} {aa H:Hp} {ab F:Fz} {st:bT}
theorem Rep.tree(R:Rep X.K aa ab F st τ H)(I:Inv X ae σ H s):∀(n:Nat) (p:PV) (t:Tr) (v:V) (u:Value),toT st.h n p=some t->bc X.K F p v->RelV v u->cx s t u
 | 0,_,_,_,_,e,_,_=>by cases e
 | n+1,p,t,v,u,e,b,r=>by
  have go:((c9 st.h p).bind λq=>(bj (toT st.h n) q.2).bind (yf q.1))=some t->cx s t u:=λe=>by
   obtain⟨⟨k,ps⟩,e0,e⟩:=aE e;obtain⟨ts,e1,e2⟩:=aE e;obtain⟨a,vs,rfl,h2,h3⟩:=R.at e0 b;have hd:∀ps ts vs us,bj (toT st.h n) ps=some ts->ao X.K F ps vs->Vals vs us->bC s ts us:=by
    intro ps;induction ps with
    | nil=>intro ts vs us z b r;cases z;rw[b.bL]at r;cases r;simp[bC]
    | cons p ps ih =>
     intro ts vs us z b r;obtain⟨y,q,h1,h2,rfl⟩:=cC z;obtain⟨v,w,rfl,b1,b2⟩:=b.bB;cases r with
     | cons ra rr =>
      simp only[bC];exact⟨_,_,rfl,R.tree I n p y v _ h1 b1 ra,ih q w _ h2 b2 rr⟩
   cases r
   match k,e2,h2 with
   | .aq,e2,h2 =>
    cases e2;obtain⟨ai,rr,pl,_⟩:=I.tuple h2.2;simp only[cx];exact⟨a,ai,rfl,pl,hd _ _ _ _ e1 h3 rr⟩
   | .lst,e2,h2 =>
    cases e2;obtain⟨ai,rr,pl,_⟩:=I.list (gq.sq h2);simp only[cx];exact⟨a,ai,rfl,pl.isList,hd _ _ _ _ e1 h3 rr⟩
  unfold toT at e;split at e
  ·cases e;rw[cj.mp b]at r;cases r;simp[cx]
  ·cases e;rw[aR.mp b]at r;cases r;simp[cx]
  ·cases e;rw[aw.mp b]at r;obtain⟨t,rfl⟩:=r;simp[cx]
  ·cases e;rw[bf.mp b]at r;obtain⟨t,rfl⟩:=r;simp[cx]
  ·cases e
  ·exact go e
end
def cf:Nat:=1000
def U5(h:List ah)(p q:PV):Option Bool:=(toT h cf p).bind λx=>(toT h cf q).map λy=>eqT x y
def lS:G2:=λh p q=>(U5 h p q).map .bl
def yg:G2:=λh p q=>(U5 h p q).map λb=>.bl !b
def u7:PV->Bool
 | .aN=>true
 | _=>false
def U6(b:Bool):PV->Option Bool
 | .bl a=>some (a==b)
 | _=>none
def u9(h:U6 b p=some c):∃a,p=.bl a/\c=(a==b):=by
 cases p<;>cases h
 exact⟨_,rfl,rfl⟩
def HX:G2:=λ_ p q=>match q with | .aN=>some (.bl (u7 p)) | .bl b=>(U6 b p).map .bl | _=>none
def U7(h:List ah)(p:PV)(ps:List PV):Option Bool:=(toT h cf p).bind λx=>(bj (toT h cf) ps).map λys=>ys.any λy=>eqT y x
section
variable {X:Cx}
def vc(e:U5 h p q=some b):∃x y,toT h cf p=some x/\toT h cf q=some y/\b=eqT x y:=by
 obtain⟨x,e1,e⟩:=aE e;obtain⟨y,e2,e3⟩:=aM e;exact⟨x,y,e1,e2,e3.symm⟩
def Mv(hu:X.A.units+1150<cLine):pE X (compareOp .Eq) lS:=by
 rintro ae s σ H x y v u Q I rx ry ⟨aa,ab,F,st,τ,pa,pb,p,e,R,ba,bb,k⟩
 obtain⟨b,e',rfl⟩:=aM e;obtain⟨ta,tb,e1,e2,rfl⟩:=vc e';have hd:=tq _ _ _ _ e1;exact(tj ta tb X.A v u (R.tree I _ _ _ _ _ e1 ba rx) (R.tree I _ _ _ _ _ e2 bb ry) (by unfold cf at hd;lia)).1 X.prog X.w X.xe _ ⟨.bl _,H,I,rfl,k _ H F R (Gr.refl F) (aR.mpr rfl)⟩
def Mw(hu:X.A.units+1150<cLine):pE X (compareOp .NotEq) yg:=by
 rintro ae s σ H x y v u Q I rx ry ⟨aa,ab,F,st,τ,pa,pb,p,e,R,ba,bb,k⟩
 obtain⟨b,e',rfl⟩:=aM e;obtain⟨ta,tb,e1,e2,rfl⟩:=vc e';have hd:=tq _ _ _ _ e1;exact(tj ta tb X.A v u (R.tree I _ _ _ _ _ e1 ba rx) (R.tree I _ _ _ _ _ e2 bb ry) (by unfold cf at hd;lia)).2 X.prog X.w X.xe _ ⟨.bl _,H,I,rfl,k _ H F R (Gr.refl F) (aR.mpr rfl)⟩
def zL{K:W.Frag}(b:bc K F p x):decide (x=.aN)=u7 p:=by
 cases p with
 | aN=>rw[cj.mp b];rfl
 | bl _=>rw[aR.mp b];rfl
 | int _=>rw[aw.mp b];rfl
 | str _=>rw[bf.mp b];rfl
 | ref _=>obtain⟨_,_,rfl⟩:=cY.mp b;rfl
 | fn _=>obtain⟨_,rfl,_⟩:=lO.mp b;rfl
 | nd _ _=>obtain⟨_,_,rfl,_⟩:=gS.mp b;rfl
def Mx:pE X (compareOp .Is) HX:=by
 rintro ae s σ H x y v u Q I rx ry ⟨aa,ab,F,st,τ,pa,pb,p,e,R,ba,bb,k⟩
 unfold HX at e;split at e
 ·cases e;exact LU ae s σ H x y v u Q I rx ry ⟨cj.mp bb,k _ H F R (Gr.refl F) (aR.mpr (by rw[zL ba]))⟩
 ·rename_i b;obtain⟨c,e1,rfl⟩:=aM e;obtain⟨a,rfl,rfl⟩:=u9 e1;rw[aR.mp ba]at rx;rw[aR.mp bb]at ry;cases rx;cases ry;exact wpAny_is_plain rfl ⟨.bl _,H,I,(by cases a<;>cases b<;>rfl),k _ H F R (Gr.refl F) (aR.mpr rfl)⟩
 ·cases e
open Classical in
noncomputable def jj (s:Shared) (p:Tr) (u:Value):Bool:=if h:∃q,cx s q u then eqT h.choose p else false
def tu(b:cx s q u):jj s p u=eqT q p:=by
 have h:∃q,cx s q u:=⟨q,b⟩
 unfold jj;rw[dif_pos h,cx.inj h.choose_spec b]
theorem tx:∀{ts:List Tr} {us:List Value},bC s ts us->us.any (jj s p)=ts.any λy=>eqT y p
 | [],_,b=>by simp only[bC]at b;subst b;rfl
 | q::ts,_,b=>by
  simp only[bC]at b;obtain⟨u,r,rfl,c1,d1⟩:=b;rw[lG,lG,tu c1,tx d1]
theorem mS(bp:cx s p w):∀{ts:List Tr} {us:List Value},bC s ts us->A.units+ji ts<cLine->∀u∈us,SeqAt.EqAt A s u w (jj s p u)
 | [],_,b,_=>λu hu=>by simp only[bC]at b;subst b;cases hu
 | q::ts,_,b,hz=>λu hu=>by
  simp only[bC]at b;obtain⟨u',r,rfl,c1,d1⟩:=b;simp only[ji]at hz;rcases aX.mp hu with rfl | hu
  ·rw[tu c1];exact Mu c1 bp (by lia)
  ·exact mS bp d1 (by lia) u hu
theorem Rep.trees{st:bT}(R:Rep X.K aa ab F st τ H)(I:Inv X ae σ H s)(n:Nat):∀(ps:List PV) (ts:List Tr) (vs:List V) (us:List Value),bj (toT st.h n) ps=some ts->ao X.K F ps vs->Vals vs us->bC s ts us/\ji ts<=n
 | [],ts,vs,us,z,b,r=>by cases z;rw[b.bL]at r;cases r;simp[bC,ji]
 | p::ps,ts,vs,us,z,b,r=>by
  obtain⟨y,q,h1,h2,rfl⟩:=cC z;obtain⟨v,w,rfl,b1,b2⟩:=b.bB;cases r with
  | cons ra rr =>
   obtain⟨h3,h4⟩:=R.trees I n ps q w _ h2 b2 rr;have:=tq _ _ _ _ h1;simp only[ji];exact⟨⟨_,_,rfl,R.tree I n p y v _ h1 b1 ra,h3⟩,by lia⟩
def DZ(e:U7 h p ps=some b):∃x ys,toT h cf p=some x/\bj (toT h cf) ps=some ys/\b=ys.any λy=>eqT y x:=by
 obtain⟨x,e1,e⟩:=aE e;obtain⟨y,e2,e3⟩:=aM e;exact⟨x,y,e1,e2,e3.symm⟩
def D0(hu:X.A.units+1150<cLine){st:bT}(I:Inv X ae σ H s)(rx:RelV x v)(ry:RelV y u)(R:Rep X.K aa ab F st τ H)(ba:bc X.K F pa x)(bb:bc X.K F pb y)
  (es:DV st.h pb=some ps) (eb:U7 st.h pa ps=some b) :
  (Q (.bl b) H->wpAny (model X.prog X.w) X.A (compareOp .In v u) (EP X ae σ Q) X.xe s)/\(Q (.bl !b) H->wpAny (model X.prog X.w) X.A (compareOp .NotIn v u) (EP X ae σ Q) X.xe s):=by
 obtain⟨t,ts,e1,e2,rfl⟩:=DZ eb;obtain⟨a,vs,rfl,hs,hb⟩:=R.seq es bb;have tp:=R.tree I _ _ _ _ _ e1 ba rx;cases ry;rcases hs with hs | hs
 ·obtain⟨ai,r,pl,_⟩:=I.tuple hs;obtain⟨h1,h2⟩:=R.trees I _ _ _ _ _ e2 hb r;have ml:=λw (hw:w∈ai.toArray)=>mS (A:=X.A.in1) tp h1 (by rw[nz];unfold cf at h2;lia) w (by grind)
  have ea:ai.toArray.any (jj s t)=ts.any λy=>eqT y t:=by rw[show ai.toArray.any (jj s t)=ai.any (jj s t) by simp,tx h1]
  exact⟨λq=>SeqAt.in_tupleAt (jj s t) pl ml ⟨.bl _,H,I,rfl,by grind⟩,λq=>SeqAt.notIn_tupleAt (jj s t) pl ml ⟨.bl _,H,I,rfl,by grind⟩⟩
 ·obtain⟨ai,r,pl,_⟩:=I.list hs.sq;obtain⟨h1,h2⟩:=R.trees I _ _ _ _ _ e2 hb r;have ml:=λw (hw:w∈ai.toArray)=>mS (A:=X.A.in1) tp h1 (by rw[nz];unfold cf at h2;lia) w (by grind)
  have ea:ai.toArray.any (jj s t)=ts.any λy=>eqT y t:=by rw[show ai.toArray.any (jj s t)=ai.any (jj s t) by simp,tx h1]
  exact⟨λq=>SeqAt.in_listAt (jj s t) pl.isList ml ⟨.bl _,H,I,rfl,by grind⟩,λq=>SeqAt.notIn_listAt (jj s t) pl.isList ml ⟨.bl _,H,I,rfl,by grind⟩⟩
end
section
variable {K:W.Frag} {F:Fz}
def ao.nY{ps:List PV}{vs:List V}{i:Int}{p:PV}(h:ao K F ps vs)(e:L2.nY ps i=some p):∃v,L2.nY vs i=some v/\bc K F p v:=by
 unfold L2.nY at e ⊢;rw[<-h.length];cases z:GA ps.length i with
 | none=>rw[z]at e;cases e
 | some j =>
  rw[z]at e;exact h.get e
def fJ(xs:List PV)(lo hi:Option Int):List PV:=(xs.drop (HT.cL xs.length 0 lo)).take (HT.cL xs.length xs.length hi-HT.cL xs.length 0 lo)
def ao.Xb{ps:List PV}{vs:List V}(h:ao K F ps vs)(lo hi:Option Int):ao K F (fJ ps lo hi) (uT vs lo hi):=by
 unfold fJ uT;rw[h.length];exact(h.drop _).take _
def b7{p:PV}{vs:List V}(b:ao K F [p] vs):∃v,vs=[v]/\bc K F p v:=by
 obtain⟨v,r,rfl,c,d⟩:=b.bB;rw[d.bL];exact⟨v,rfl,c⟩
def kF{p q:PV}{vs:List V}(b:ao K F [p,q] vs):∃v w,vs=[v,w]/\bc K F p v/\bc K F q w:=by
 obtain⟨v,r,rfl,c,d⟩:=b.bB;obtain⟨w,rfl,e⟩:=b7 d;exact⟨v,w,rfl,c,e⟩
end
def kG{prog:Program}{w:World}{A:Around}{E:Value->Shared->Prop}{s:Shared}{t sl:Addr}{ai:Array Value}{vl vu:Value}{lo hi:Option Int}{Q:Value->Shared->Prop}(ht:IsTup s.heap t ai)(hs:s.heap.IsSliceOf sl vl vu .none)(pl:IsPart vl lo)(pu:IsPart vu hi)
  (h0:HT.cL ai.size 0 lo=0) (h1:HT.cL ai.size ai.size hi=ai.size) (h:Q (.ref t) s):wpAny (model prog w) A (getItem (.ref t) (.ref sl)) Q E s:=by
 obtain⟨os,Gz,Ts,jg⟩:=id hs;have hT:s.TypeIs (.ref sl) "slice":=⟨os,Gz,Ts⟩;unfold getItem
 try with_reducible refine bX ?_
 first | refine af (ag ?_) | skip
 refine af (wpAny_sequenceKey ht.typeIs (by decide) ?_)
 refine af (dJ ht.typeIs lg (dt lg ht.typeIs entry_tuple_getitem ?_ (args_tuple_getitem _ _)));show wpAny _ _ (Builtin.Tuple.tupleItemsOf (.ref t) >>= _) _ _ s;refine af (tupleItemsOf_ ht (af (jG hT ?_)));refine af (HT.gu hs pl pu ?_);have hc:(((HT.cL ai.size 0 lo:Nat):Int)==0&&(1:Int)==1&&(HT.cL ai.size ai.size hi-HT.cL ai.size 0 lo)==ai.size)=true:=by
  rw[h0,h1];simp
 show wpAny _ _ (if(((HT.cL ai.size 0 lo:Nat):Int)==0&&1==1&&(HT.cL ai.size ai.size hi-HT.cL ai.size 0 lo)==ai.size)=true then _ else _) _ _ s
 rw[if_pos hc];unfold Builtin.Tuple.tupleIsExact;refine af (af (jG ht.typeIs (ag ?_)));exact af (gm (ag ⟨_,rfl,ag h⟩))
def GF(h:List ah)(lo hi:Option Int)(p:PV):Option PV:=match c9 h p with
 | some (.lst,ps)=>some (.lst (fJ ps lo hi))
 | some (.aq,ps)=>some (.aq (fJ ps lo hi))
 | _=>none
section
variable {X:Cx} {aa:Hp} {ab:Fz} {a b e:Expr} {es:List Expr} {fa fb:Gx PV} {ts:Gx (List PV)} {pos p1 p2:Pos} {lo hi:Option Expr}
def YR(K:W.Frag):V->Option Int->Option Int->Hp->VK->Prop:=λx lo hi H Q=>∃aa ab F st τ pa p,GF st.h lo hi pa=some p/\Rep K aa ab F st τ H/\bc K F pa x/\∀v H' F',Rep K aa ab F' st τ H'->Gr F F'->bc K F' p v->Q v H'
def YS:Tt X (YR X.K):=by
 rintro ae s σ H x v vl vu lo hi sl Q I rx hs pl pu ⟨aa,ab,F,st,τ,pa,p,e,R,ba,k⟩
 unfold GF at e;split at e
 ·rename_i z;cases e;obtain⟨a,vs,rfl,ha,eM⟩:=R.at z ba;refine HE ae s σ H _ v vl vu lo hi sl Q I rx hs pl pu ⟨a,vs,rfl,gq.sq ha,λq hq=>?_⟩
  obtain⟨R2,s2⟩:=R.laid (.lst (uT vs lo hi)) hq;exact k _ _ _ R2 s2 (cw.mpr ⟨q,_,rfl,gq.of au,(eM.Xb lo hi).mono s2⟩)
 ·rename_i ps z;cases e;cases pa with
  | nd kk pp =>
   cases z;obtain⟨a,vs,rfl,ha,eM⟩:=bg.mp ba;by_cases hw:HT.cL vs.length 0 lo=0/\HT.cL vs.length vs.length hi=vs.length
   ·cases rx;obtain⟨ai,r,ht,hz⟩:=I.tuple (aU R.sub ha);have cX:ai.toArray.size=vs.length:=by rw[bO];exact r.length.symm
    refine⟨"tuple",_,lg.lookup,ht.typeIs,?_⟩;refine kG ht hs pl pu (by grind) (by grind) ⟨.ref a,H,I,rfl,k _ H F R (Gr.refl F) ?_⟩
    have hc:fJ ps lo hi=ps:=by
     unfold fJ;rw[eM.length,hw.1,hw.2,List.drop_zero,Nat.sub_zero,<-eM.length,se]
    rw[hc];exact ba
   ·refine L5 ae s σ H _ v vl vu lo hi sl Q I rx hs pl pu ⟨a,vs,rfl,aU R.sub ha,hw,λq hq=>?_⟩
    obtain⟨R2,s2⟩:=R.laid (.aq (uT vs lo hi)) hq;exact k _ _ _ R2 s2 (bg.mpr ⟨q,_,rfl,fA.of au,(eM.Xb lo hi).mono s2⟩)
  | ref n =>
   obtain⟨c,e1,e2⟩:=aE z;obtain⟨hl,e3⟩:=ax e2;have hk:c.k=.aq:=by grind
   unfold live at hl;rw[hk]at hl;cases hl
  | _=>cases z
 ·cases e
abbrev HY(X:Cx)(aa:Hp)(ab:Fz)(f:Gx (Option Int)):TO:=tX X aa ab (λ_ a b=>a=b) f
def _root_.L2.PO.imp{X:Cx}{e:Option Expr}{t t':TO}(h:PO X e t)(hi:∀σ H Q,t' σ H Q->t σ H Q):PO X e t':=λae s σ H Q I hw=>h ae s σ H Q I (hi _ _ _ hw)
def pW:PV->Option Int | .int i=>some i | _=>none
def eu{p:PV}{i:Int}(h:pW p=some i):p=.int i:=by
 cases p<;>first | (cases h;rfl) | cases h
def D1(fe:Gx PV):Gx (Option Int):=bnd fe λp=>fy ((pW p).map some)
def My:PO X none (HY X aa ab (bV none)):=Hy.imp λσ H Q h=>sZ h λ_=>rfl
def Mz(h:PE X e (tE X aa ab fa)):PO X (some e) (HY X aa ab (D1 fa)):=(Hz h).imp λσ H Q ⟨F,st,R,h⟩=>⟨F,st,R,h.bnd λp v F1 aL H1 R1 g1 b1 h1=>by
 obtain⟨o,e,z⟩:=h1.fy;obtain⟨i,e1,rfl⟩:=aM e;rw[eu e1]at b1;exact⟨i,aw.mp b1,z _ H1 F1 R1 (Gr.refl _) rfl⟩⟩
def cutE(fa:Gx PV)(fl fh:Gx (Option Int)):Gx PV:=bnd fa λp=>bnd fl λl=>bnd fh λr=>hp λh=>GF h l r p
def QM{fl fh:Gx (Option Int)}(ha:PE X e (tE X aa ab fa))(hl:PO X lo (HY X aa ab fl))(hh:PO X hi (HY X aa ab fh)):PE X (.Subscript e (.Slice lo hi none p2) pos) (tE X aa ab (cutE fa fl fh)):=(DH YS ha hl hh).imp λσ H Q ⟨F,st,R,h⟩ =>
 ⟨F,st,R,h.bnd λp v F1 aL H1 R1 g1 b1 h1=>⟨F1,aL,R1,h1.bnd λl l' F2 dk H2 R2 g2 b2 h2=>⟨F2,dk,R2,h2.bnd λr r' F3 Hg H3 R3 g3 b3 h3=>by
  cases b2;cases b3;obtain⟨o,e,z⟩:=h3.hp;exact⟨aa,ab,F3,Hg,σ,p,o,e,R3,b1.mono (g2.trans g3),z⟩⟩⟩⟩
abbrev GC:=List ah->List PV->Option PV
def rC(K:W.Frag)(g:GC):List V->Hp->VK->Prop:=λxs H Q=>∃aa ab F st τ ps p,g st.h ps=some p/\Rep K aa ab F st τ H/\ao K F ps xs/\∀v H' F',Rep K aa ab F' st τ H'->Gr F F'->bc K F' p v->Q v H'
abbrev yh(X:Cx)(f:Value)(g:GC):Prop:=jr X f (rC X.K g)
def yi(g:GC)(ts:Gx (List PV)):Gx PV:=bnd ts λps=>hp λh=>g h ps
def gV{g:GC}{σ:St}{H:Hp}{Q:VK}(h:tE X aa ab (yi g ts) σ H Q):UJ (rC X.K g) (tA X aa ab ts) σ H Q:=by
 obtain⟨F,st,R,h⟩:=h;refine⟨F,st,R,h.bnd λps vs F1 aL H1 R1 g1 b1 h1=>?_⟩
 obtain⟨o,e,z⟩:=h1.hp;exact⟨aa,ab,F1,aL,σ,ps,o,e,R1,b1,z⟩
def Xc(h:List ah)(p:PV):Option Nat:=match c9 h p with
 | some (.aq,ps)=>some ps.length
 | some (.lst,ps)=>some ps.length
 | some (.eJ _ ks,_)=>some ks.length
 | _=>none
def jK:GC:=λh ps=>match ps with
 | [.str z]=>if z.length<=iN then some (.int z.length)else none
 | [p]=>(Xc h p).map λn=>.int n
 | _=>none
def D2:GC:=λh ps=>match ps with
 | [.nd .aq qs]=>some (.aq qs)
 | [p]=>(lQ h p).map λqs=>.aq qs
 | _=>none
def D3:GC:=λ_ ps=>match ps with
 | [.int i]=>some (.int i)
 | [.bl b]=>some (.int (if b then 1 else 0))
 | _=>none
def HZ:GC:=λ_ ps=>match ps with
 | [.int i]=>if 0<=i/\i<1000 then some (.str (toString i))else none
 | _=>none
def D4(ps:List PV):Option (List Int):=bj pW ps
def H0:GC:=λh ps=>match ps with
 | [p]=>(lQ h p).bind λqs=>(D4 qs).map λns=>.int ns.sum
 | _=>none
def vd{A:Around}{E:Value->Shared->Prop}{s:Shared}{d:Addr}{o:Obj}{es:Array DictEntry}{ep n:Nat}{Q:Value->Shared->Prop}(hd:(d==sysModules)=false)(ho:s.heap.get? d=some o)(hc:o.ExactDict)(lT:o.data=.dict es ep)(hn:es.size=n)(QN:(n:Int)<2^63)
  (h:Q (.int n (s.toks+1)) {s with toks:=s.toks+1+1}):wpAny (model X.prog X.w) A (call (.builtin "len") [.ref d]) Q E s:=by
 have ty:s.TypeIs (.ref d) "dict":=⟨o,ho,hc.1⟩;have hm:MeetsIn X.prog X.w (Builtin.«dict.__len__» ⟨[.ref d],[]⟩) (λ_ R s'=>s'.heap.get? d=some o/\R (.ok (.ret (.int n s'.toks))) {s' with toks:=s'.toks+1}):=.of_wp <| by
  rintro A R s' ⟨nO,hR⟩
  show wpAny _ _ (dictSize d >>= _) _ _ s';refine af (af (xk nO lT (ag ?_)));refine af (wpAny_pendingCount_other hd ?_);refine wpAny_ret_mkInt ?_;rw[Nat.add_zero,hn];exact hR
 refine Calls.call_function_entry kind_len plain_len entry_len (args_len1 _) ?_;refine af (ag ?_);refine af (dJ ty F.slot_dict_len (call_meetsIn F.slot_dict_len ty F.entry_dict_len (F.args_dict_len_1 _) hm ⟨ho,?_⟩));show wpAny _ _ _ _ _ {s with toks:=s.toks+1}
 refine af (bX (ag ?_));refine af (gP ?_);show wpAny _ _ (if((n:Nat):Int)>=2^63 then _ else _) _ _ _
 rw[if_neg (by lia)]
 exact af (wpAny_mkInt (ag ⟨_,rfl,h⟩))
def zM{n:Nat}(h:n<=sizeLine):(n:Int)<2^63:=by
 have h1:n<=2^62:=aD h (by decide)
 have h62:2^62=4611686018427387904:=by decide
 lia
def H9{ae:List (Addr×Obj)}{s:Shared}{σ:St}{H:Hp}{a:Addr}{t:Bool}{ks:List (List cz)}{vs:List V}{us:List Value}{Q:VK}{F:Hp}(I:Inv X ae σ H s)(rs:Vals [V.ref a] us)(h:jI X.K F H a false (.eJ t ks) vs)(q:Q (.int ks.length) H):wpAny (model X.prog X.w) X.A (call (.builtin "len") us) (λu s'=>∃v H',Inv X ae σ H' s'/\RelV v u/\Q v H') X.xe s:=by
 obtain⟨u,rfl,ru⟩:=ia rs;cases ru;cases t with
 | false =>
  obtain⟨kvs,h1,h2,h3⟩:=h;obtain⟨z,y,ws,hk,o,es,ep,g1,g2,g3,g4,g5,g6⟩:=(I.hok a _ h1);have hl:ks.length=kvs.length:=by grind
  have hn:es.size=ks.length:=by rw[hl,gM hk,<-g5.length,lr]
  exact vd y g1 g2 g3 hn (zM (by grind)) ⟨.int ks.length,H,I.tok _,⟨_,rfl⟩,q⟩
 | true =>
  obtain⟨xs,h1,_,h2,_⟩:=h;obtain⟨z,y,o,es,ep,g1,g2,g3,g4,g5⟩:=(I.hok a _ h1);have hl:ks.length=xs.length:=by grind
  exact vd y g1 g2 g3 (by rw[<-lr,g4,ak,hl]) (zM (by grind)) ⟨.int ks.length,H,I.tok _,⟨_,rfl⟩,q⟩
def Bi:yh X (.builtin "len") jK:=by
 rintro ae s σ H xs us Q I rs ⟨aa,ab,F,st,τ,ps,p,e,R,bs,k⟩
 unfold jK at e;split at e
 ·obtain⟨hz,rfl⟩:=ax e;obtain⟨v,rfl,b⟩:=b7 bs;rw[bf.mp b]at rs;exact sX ae s σ H _ us Q I rs ⟨_,rfl,cQ hz,k _ H F R (Gr.refl F) (aw.mpr rfl)⟩
 ·obtain⟨n,e1,rfl⟩:=aM e;obtain⟨v,rfl,b⟩:=b7 bs;unfold Xc at e1;split at e1
  ·rename_i z;cases e1;obtain⟨a,vs,rfl,ha,eM⟩:=R.at z b;exact ku ae s σ H _ us Q I rs ⟨a,vs,rfl,.inr ha.2,k _ H F R (Gr.refl F) (aw.mpr (by rw[eM.length]))⟩
  ·rename_i z;cases e1;obtain⟨a,vs,rfl,ha,eM⟩:=R.at z b;exact ku ae s σ H _ us Q I rs ⟨a,vs,rfl,.inl (gq.sq ha),k _ H F R (Gr.refl F) (aw.mpr (by rw[eM.length]))⟩
  ·rename_i z;cases e1;obtain⟨a,vs,rfl,ha,eM⟩:=R.at z b;exact H9 I rs ha (k _ H F R (Gr.refl F) (aw.mpr rfl))
  ·cases e1
 ·cases e
def Bj:yh X (.type "tuple") D2:=by
 rintro ae s σ H xs us Q I rs ⟨aa,ab,F,st,τ,ps,p,e,R,bs,k⟩
 unfold D2 at e;split at e
 ·cases e;obtain⟨v,rfl,b⟩:=b7 bs;obtain⟨a,vs,rfl,ha,eM⟩:=bg.mp b;exact js ae s σ H _ us Q I rs ⟨a,vs,rfl,.inr ⟨aU R.sub ha,k _ H F R (Gr.refl F) b⟩⟩
 ·obtain⟨qs,e1,rfl⟩:=aM e;obtain⟨v,rfl,b⟩:=b7 bs;obtain⟨a,vs,rfl,ha,eM⟩:=R.at (cZ e1) b;refine js ae s σ H _ us Q I rs ⟨a,vs,rfl,.inl ⟨gq.sq ha,λq hq=>?_⟩⟩
  obtain⟨R2,s2⟩:=R.laid (.aq vs) hq;exact k _ _ _ R2 s2 (bg.mpr ⟨q,_,rfl,fA.of au,eM.mono s2⟩)
 ·cases e
def Bk:yh X (.type "int") D3:=by
 rintro ae s σ H xs us Q I rs ⟨aa,ab,F,st,τ,ps,p,e,R,bs,k⟩
 unfold D3 at e;split at e
 ·cases e;obtain⟨v,rfl,b⟩:=b7 bs;rw[aw.mp b]at rs;exact qu ae s σ H _ us Q I rs (.inl ⟨_,rfl,k _ H F R (Gr.refl F) (aw.mpr rfl)⟩)
 ·cases e;obtain⟨v,rfl,b⟩:=b7 bs;rw[aR.mp b]at rs;exact qu ae s σ H _ us Q I rs (.inr ⟨_,rfl,k _ H F R (Gr.refl F) (aw.mpr rfl)⟩)
 ·cases e
def Bm:yh X (.type "str") HZ:=by
 rintro ae s σ H xs us Q I rs ⟨aa,ab,F,st,τ,ps,p,e,R,bs,k⟩
 unfold HZ at e;split at e
 ·rename_i i;obtain⟨⟨h0,h1⟩,rfl⟩:=ax e;obtain⟨v,rfl,b⟩:=b7 bs;rw[aw.mp b]at rs;exact sT ae s σ H _ us Q I rs ⟨i,rfl,(by
   by_cases h:i.natAbs=0
   ·simp_all
   ·exact nv (Nat.log2_le_self _) (by lia)),k _ H F R (Gr.refl F) (bf.mpr rfl)⟩
 ·cases e
theorem ve{K:W.Frag}{F:Fz}:∀{ps:List PV} {ns:List Int} {vs:List V},D4 ps=some ns->ao K F ps vs->vs=ns.map V.int
 | [],ns,vs,h,b=>by cases h;exact b.bL
 | p::r,ns,vs,h,b=>by
  obtain⟨i,ms,h1,h2,rfl⟩:=cC h;obtain⟨v,vr,rfl,c,d⟩:=b.bB;rw[eu h1]at c;rw[aw.mp c,ve h2 d];rfl
def Ia{ae:List (Addr×Obj)}{σ:St}{H:Hp}{s:Shared}{F:Fz}(I:Inv X ae σ H s){a:Addr}{vs:List V}{ps:List PV}{ns:List Int}(hn:D4 ps=some ns)(ha:gq X.K H a vs)(eM:ao X.K F ps vs) :
  ∃xs:Array (Int×Tok),s.heap.IsList a (intItems xs)/\ns=xs.toList.map (·.1):=by
 obtain⟨ai,r,pl,_⟩:=I.list ha.sq;have ev:=ve hn eM;subst ev;have hi:=xZ r;obtain⟨xs,ex⟩:=hi.allInts.items;exact⟨xs,by rw[<-ex];exact pl.isList,by rw[<-hi.numsOf,<-nums_intItems,<-ex]⟩
def Bn(hc:X.A.handled=none):yh X (.builtin "sum") H0:=by
 rintro ae s σ H xs us Q I rs ⟨aa,ab,F,st,τ,ps,p,e,R,bs,k⟩
 unfold H0 at e;split at e
 ·obtain⟨qs,e1,e⟩:=aE e;obtain⟨ns,e2,rfl⟩:=aM e;obtain⟨v,rfl,b⟩:=b7 bs;obtain⟨a,vs,rfl,ha,eM⟩:=R.at (cZ e1) b;obtain⟨xs,hl,hn⟩:=Ia I e2 ha eM;obtain⟨u,rfl,ru⟩:=ia rs;cases ru;refine sum_intListG hc hl λh' tk t' hk=>⟨.int ns.sum,H,I.kept hk,⟨t',?_⟩,k _ H F R (Gr.refl F) (aw.mpr rfl)⟩
  rw[preSum_eq,lj (by simp),hn]
 ·cases e
inductive Ty where
 | int | str | bool | tuple | list
def Ty.nm:Ty->String
 | .int=>"int" | .str=>"str" | .bool=>"bool" | .tuple=>"tuple" | .list=>"list"
def QO(h:List ah):PV->Option String
 | .aN=>some "NoneType"
 | .bl _=>some "bool"
 | .int _=>some "int"
 | .str _=>some "str"
 | p=>match c9 h p with
  | some (.aq,_)=>some "tuple"
  | some (.lst,_)=>some "list"
  | _=>none
def MA(t:Ty)(y:String):Bool:=y==t.nm || (t.nm=="int"&&y=="bool")
def U8(t:Ty)(fa:Gx PV):Gx PV:=bnd fa λp=>hp λh=>(QO h p).map λy=>.bl (MA t y)
def YT(K:W.Frag)(t:Ty):List V->Hp->VK->Prop:=λxs H Q=>∃aa ab F st τ p x y,xs=[x,.ty t.nm]/\Rep K aa ab F st τ H/\bc K F p x/\QO st.h p=some y/\Q (.bl (MA t y)) H
def Ib(t:Ty):jr X (.builtin "isinstance") (YT X.K t):=by
 rintro ae s σ H xs us Q I rs ⟨aa,ab,F,st,τ,p,x,y,ex,R,b,ey,q⟩
 subst ex;obtain⟨u,w,rfl,ru,HC⟩:=zw rs;cases HC;have i8:∀tk,EP X ae σ Q (.bool (MA t y)) {s with toks:=tk}:=λtk=>⟨.bl _,H,I.tok tk,rfl,q⟩
 have more:(match c9 st.h p with
  | some (.aq,_)=>some "tuple"
  | some (.lst,_)=>some "list"
  | _=>none)=some y->wpAny (model X.prog X.w) X.A (call (.builtin "isinstance") [u,.type t.nm]) (EP X ae σ Q) X.xe s:=λey=>by
  split at ey
  ·rename_i z;cases ey;obtain⟨a,vs,rfl,h2,h3⟩:=R.at z b;cases ru;obtain⟨ai,_,⟨o,h1,h2,_⟩,_⟩:=I.tuple h2.2;exact W.kia_one W.kitx_tuple I.nN ⟨o,h1,h2⟩ (by cases t<;>kernel_rfl) (λz=>nomatch z) i8
  ·rename_i z;cases ey;obtain⟨a,vs,rfl,h2,h3⟩:=R.at z b;cases ru;obtain⟨ai,n,_,h1,_⟩:=I.kA h2;exact W.kia_one W.kitx_list I.nN ⟨_,h1,rfl⟩ (by cases t<;>kernel_rfl) (λz=>nomatch z) i8
  ·cases ey
 cases p with
 | aN =>
  cases ey;rw[cj.mp b]at ru;cases ru;exact W.kia_one W.kitx_none I.nN True.intro (by cases t<;>kernel_rfl) (λz=>nomatch z) i8
 | bl y =>
  cases ey;rw[aR.mp b]at ru;cases ru;exact W.kia_one W.kitx_bool I.nN True.intro (by cases t<;>kernel_rfl) (λz=>nomatch z) i8
 | int i =>
  cases ey;rw[aw.mp b]at ru;obtain⟨tk,rfl⟩:=ru;exact W.kia_one W.kitx_int I.nN True.intro (by cases t<;>kernel_rfl) (λz=>nomatch z) i8
 | str y =>
  cases ey;rw[bf.mp b]at ru;obtain⟨tk,rfl⟩:=ru;exact W.kia_one W.kitx_str I.nN True.intro (by cases t<;>kernel_rfl) (λz=>nomatch z) i8
 | ref n=>exact more ey
 | fn x=>exact more ey
 | nd k ps=>exact more ey
def mG:bootBuiltins "isinstance"=some (.builtin "isinstance"):=by kernel_rfl
def gW(t:Ty):bootBuiltins (Str.ofString t.nm)=some (.type t.nm):=by cases t<;>kernel_rfl
def YU:List Ty:=[.int,.str,.bool,.tuple,.list]
def zN(x:Str):Option Ty:=YU.find? λt=>x==Str.ofString t.nm
def D5{x:Str}{t:Ty}(h:zN x=some t):x=Str.ofString t.nm:=by
 have:=List.find?_some h;exact aH this
def U9{x:Str}{t:Ty}(ht:zN x=some t)(hg:Gl X "isinstance")(hm:X.mg "isinstance"=none)(YV:Gl X x)(YW:X.mg x=none)(ha:PE X a (tE X aa ab fa))(hs:∀es,starEach (a::es) X.env=(false,eval a X.env)::starEach es X.env) :
  PE X (.Call (.Name "isinstance" p1) [a,.Name x p2] [] pos) (tE X aa ab (U8 t fa)):=by
 have hx:=D5 ht;subst hx;refine(iL (Ib t) hg hm mG (fX ha (fX (G4 (v:=.ty t.nm) YV YW (gW t) rfl (by cases t<;>decide) (by cases t<;>decide)) nW rfl) (hs _)) (by decide) (by decide) (hs _)).imp λσ H Q ⟨F,st,R,h⟩=>?_
 refine⟨F,st,R,h.bnd λp v F1 aL H1 R1 g1 b1 h1=>?_⟩
 obtain⟨o,e,z⟩:=h1.hp;obtain⟨y,e1,rfl⟩:=aM e;exact⟨aa,ab,F1,aL,σ,p,v,y,rfl,R1,b1,e1,z _ H1 F1 R1 (Gr.refl _) (aR.mpr rfl)⟩
def MB(fa:Gx PV):Gx PV:=bnd fa λp=>fy ((pW p).map λi=>.int (-i))
def QP(ha:PE X a (tE X aa ab fa)):PE X (.UnaryOp .USub a pos) (tE X aa ab (MB fa)):=(P4 LR ha).imp λσ H Q ⟨F,st,R,h⟩=>⟨F,st,R,h.bnd λp v F1 aL H1 R1 g1 b1 h1=>by
 obtain⟨o,e,z⟩:=h1.fy;obtain⟨i,e1,rfl⟩:=aM e;rw[eu e1]at b1;exact⟨i,aw.mp b1,z _ H1 F1 R1 (Gr.refl _) (aw.mpr rfl)⟩⟩
end
def vf(a m:Int)(n:Nat):List Nat:=sliceRange (sliceBounds (some a) none (some m) n).1 (sliceBounds (some a) none (some m) n).2.1 (sliceBounds (some a) none (some m) n).2.2
def vg{α:Type}(a m:Int)(ps:List α):List α:=(vf a m ps.length).filterMap (ps[·]?)
def QQ(p:PV)(l m:Option Int):Option PV:=match p,l,m with
 | .nd .lst ps,some a,some b=>if(b != 0&&decide ((vf a b ps.length).length<=iN))=true then some (.lst (vg a b ps))else none
 | _,_,_=>none
def MC(fa:Gx PV)(fl fm:Gx (Option Int)):Gx PV:=bnd fa λp=>bnd fl λl=>bnd fm λm=>fy (QQ p l m)
theorem lU{xs:List V}{us:List Value}(r:Vals xs us):∀is:List Nat,Vals (is.filterMap (xs[·]?)) (is.filterMap (us[·]?))
 | []=>.nil
 | i::is=>by
  cases h:xs[i]? with
  | none =>
   rw[rO h,rO (r.none_of h)];exact lU r is
  | some x =>
   obtain⟨u,h1,h2⟩:=r.get h;rw[rP h,rP h1];exact .cons h2 (lU r is)
theorem lV{K:W.Frag}{F:Fz}{ps:List PV}{vs:List V}(r:ao K F ps vs):∀is:List Nat,ao K F (is.filterMap (ps[·]?)) (is.filterMap (vs[·]?))
 | []=>.nil
 | i::is=>by
  cases h:ps[i]? with
  | none =>
   have h2:vs[i]?=none:=by
    have:=r.length;have:=gg.mp h;exact gg.mpr (by lia)
   rw[rO h,rO h2];exact lV r is
  | some p =>
   obtain⟨v,h1,h2⟩:=r.get h;rw[rP h,rP h1];exact .cons h2 (lV r is)
section
variable {X:Cx} {aa:Hp} {ab:Fz} {e:Expr} {fa:Gx PV} {pos p2:Pos} {lo:Option Expr} {hi:Expr}
def YX(K:W.Frag):V->Option Int->Option Int->Hp->VK->Prop:=λx l m H Q=>∃c a b vs,x=.ref c/\l=some a/\m=some b/\gq K H c vs/\b≠0/\(vf a b vs.length).length<=iN/\∀q,H q=none->Q (.ref q) (bZ H q (.lst (vg a b vs)))
def MD{te:TE}{tl th:TO}(he:PE X e te)(hl:PO X lo tl)(hu:PO X (some hi) th):PE X (.Subscript e (.Slice lo none (some hi) p2) pos) (W2 (YX X.K) te tl th):=by
 intro ae s σ H Q I h;refine Subscript_ (thn (he ae s σ H _ I h) λv s1 ⟨x,H1,I1,r1,q1⟩=>?_)
 refine wpAny_Slice (thn (hl ae s1 σ H1 _ I1 q1) λvl s2 ⟨l,H2,I2,pl,q2⟩=>?_)
 rw[evalPart_none];refine ag ?_;refine thn (hu ae s2 σ H2 _ I2 q2) λvu s3 ⟨u,H3,I3,pu,q3⟩=>?_
 have I4:Inv X ae σ H3 {s3 with heap:=s3.heap.push {cls:=.type "slice",data:=.fields #[vl,.none,vu]}}:=I3.kept λb ob q=>aj _ q
 show wpAny (model X.prog X.w) X.A (subscriptTail e (.Slice lo none (some hi) p2) v (.ref s3.heap.objs.size)) (EP X ae σ Q) X.xe {s3 with heap:=s3.heap.push {cls:=.type "slice",data:=.fields #[vl,.none,vu]}}
 obtain⟨c,a,b,vs,rfl,rfl,rfl,hs,Xd,tf,q⟩:=q3;cases r1;obtain⟨ai,r,ht,hz⟩:=I4.list (gq.sq hs);have cX:ai.toArray.size=vs.length:=by rw[bO];exact r.length.symm
 have hg:wpAny (model X.prog X.w) X.A (getItem (.ref c) (.ref s3.heap.objs.size)) (EP X ae σ Q) X.xe {s3 with heap:=s3.heap.push {cls:=.type "slice",data:=.fields #[vl,.none,vu]}}:=by
  refine wpAny_getItem_list_slice ht.isList (Heap.IsSliceOf.new ..) pl .none pu (by simpa using Xd) ?_ (by rw[cX];exact hz)
  have QR:slicePick ai.toArray (some a) none (some b)=((vf a b vs.length).filterMap (ai[·]?)).toArray:=by
   unfold slicePick vf;rw[cX];refine eX (λf=>(List.filterMap f _).toArray) (funext λi=>?_)
   rw[jw]
  rw[QR];refine⟨.ref _,_,I4.laid (o:=.lst (vg a b vs)) (λb ob q=>aj _ q) (ar _) ?_,rfl,q _ (I4.hok.fresh (ar _))⟩
  exact⟨aD (List.length_filterMap_le _ _) (aD tf (by decide)),_,0,lU r _,aY _ rfl⟩
 exact lK (ops:=[.ref c,.ref s3.heap.objs.size]) ht.isList.typeIs slot_list_getitem.lookup hg (by with_unfolding_all rfl)
def QS{fl fh:Gx (Option Int)}(ha:PE X e (tE X aa ab fa))(hl:PO X lo (HY X aa ab fl))(hh:PO X (some hi) (HY X aa ab fh)):PE X (.Subscript e (.Slice lo none (some hi) p2) pos) (tE X aa ab (MC fa fl fh)):=(MD ha hl hh).imp λσ H Q ⟨F,st,R,h⟩ =>
 ⟨F,st,R,h.bnd λp v F1 aL H1 R1 g1 b1 h1=>⟨F1,aL,R1,h1.bnd λl l' F2 dk H2 R2 g2 b2 h2=>⟨F2,dk,R2,h2.bnd λr r' F3 Hg H3 R3 g3 b3 h3=>by
  cases b2;cases b3;obtain⟨o,e,z⟩:=h3.fy;unfold QQ at e;split at e
  ·rename_i ps a b;obtain⟨hc,rfl⟩:=ax e;simp only[aC,bne_iff_ne,dr]at hc;obtain⟨ad,vs,rfl,hs,hb⟩:=cw.mp (b1.mono (g2.trans g3));rw[hb.length]at hc;refine⟨ad,a,b,vs,rfl,rfl,rfl,gw R3.sub hs,hc.1,hc.2,λq hq=>?_⟩
   obtain⟨R4,s4⟩:=R3.laid (.lst (vg a b vs)) hq;refine z _ _ _ R4 s4 (cw.mpr ⟨q,_,rfl,gq.of au,?_⟩);unfold vg;rw[hb.length];exact(lV hb _).mono s4
  ·cases e⟩⟩⟩
end
def D6:PV->Option cz
 | .int i=>some (.inl i)
 | .str x=>some (.inr x)
 | _=>none
def iP:Bool->PV->Option (List cz)
 | false,p=>(D6 p).map λk=>[k]
 | true,.nd .aq ps=>if ps.length<1000 then bj D6 ps else none
 | true,_=>none
def gX(k:List cz)(ks:List (List cz)):Bool:=ks.any λj=>decide (j=k)
def dY(k:List cz):List (List cz)->List PV->Option PV
 | j::ks,p::ps=>if j=k then some p else dY k ks ps
 | _,_=>none
def vh(k:List cz)(q:PV):List (List cz)->List PV->List PV
 | j::ks,p::ps=>(if j=k then q else p)::vh k q ks ps
 | _,ps=>ps
def vi:vh k q [] ps=ps:=by cases ps<;>rfl
def tD(t:Bool)(k:List cz)(q:PV)(ks:List (List cz))(ps:List PV):ah:=if gX k ks=true then⟨.eJ t ks,vh k q ks ps⟩else⟨.eJ t (ks++[k]),ps++[q]⟩
section
variable {K:W.Frag} {F:Fz}
def oi(h:D6 p=some k)(b:bc K F p v):v=kV k:=by
 cases p<;>cases h
 ·exact aw.mp b
 ·exact bf.mp b
theorem qG:∀{ps:List PV} {ks:List cz} {vs:List V},bj D6 ps=some ks->ao K F ps vs->vs=ks.map kV
 | [],_,_,h,b=>by cases h;exact b.bL
 | _::_,_,_,h,b=>by
  obtain⟨k,r,h1,h2,rfl⟩:=cC h;obtain⟨v,w,rfl,b1,b2⟩:=b.bB;rw[oi h1 b1,qG h2 b2];rfl
def gy(h:iP false p=some k)(b:bc K F p v):∃j,k=[j]/\v=kV j:=by
 obtain⟨j,e,rfl⟩:=aM h;exact⟨j,rfl,oi e b⟩
def iQ(h:iP true p=some k)(b:bc K F p v):∃c,v=.ref c/\fA K F.F c (k.map kV):=by
 unfold iP at h;split at h
 ·grind
 ·obtain⟨_,h⟩:=bE h;obtain⟨c,vs,rfl,hs,hb⟩:=bg.mp b;rw[qG h hb]at hs;exact⟨c,rfl,hs⟩
 ·cases h
theorem iR(j:cz):∀kvs:List (cz×V),gX [j] (kvs.map λy=>[y.1])=(fS kvs j).isSome
 | []=>rfl
 | (i,v)::r=>by
  have ih:=iR j r;unfold gX at ih ⊢;rw[aO,lG,ih];by_cases h:i=j
  ·subst h;rw[kx rfl];simp
  ·rw[kz h];simp[h]
theorem mT:∀{kvs:List (cz×V)} {ps:List PV} {p:PV},dY [j] (kvs.map λy=>[y.1]) ps=some p->ao K F ps (kvs.map (·.2))->∃v,fS kvs j=some v/\bc K F p v
 | [],_,_,h,_=>by cases h
 | (i,v)::r,[],_,h,_=>by cases h
 | (i,v)::r,q::ps,p,h,b=>by
  obtain⟨v',w,e,b1,b2⟩:=b.bB;cases e;have h:(if [i]=[j]then some q else dY [j] (r.map λy=>[y.1]) ps)=some p:=h
  by_cases hi:i=j
  ·subst hi;rw[if_pos rfl]at h;cases h;exact⟨v,kx rfl,b1⟩
  ·rw[if_neg (by grind)]at h
   rw[kz hi];exact mT h b2
def D7(bq:bc K F q v)(b:ao K F ps (kvs.map (·.2))) :
  ∃qH uy,tD false [j] q (kvs.map λy=>[y.1]) ps=⟨.eJ false qH,uy⟩/\(putK kvs j v).map (λy=>[y.1])=qH/\ao K F uy ((putK kvs j v).map (·.2)):=by
 unfold tD putK;rw[iR,n0];cases e:(fS kvs j).isSome with
 | false=>exact⟨_,_,rfl,by simp,by simpa using b.append (.cons bq .nil)⟩
 | true =>
  refine⟨_,_,rfl,?_,?_⟩
  ·rw[if_pos rfl,fF];exact xa λy _=>by grind
  ·rw[if_pos rfl];clear e;induction kvs generalizing ps with
   | nil=>rw[eW,vi];exact b
   | cons y r ih =>
    cases ps with
    | nil=>have:=b.length;simp at this
    | cons p ps =>
     obtain⟨v',w,e,b1,b2⟩:=b.bB;simp only[aO,xw]at e;obtain⟨rfl,rfl⟩:=e;have ih:=ih b2;by_cases hy:y.1=j
     ·simpa only[aO,vh,hy,ef]using ao.cons bq ih
     ·have:¬ [y.1]=[j]:=by grind
      simpa only[aO,vh,hy,this,de]using ao.cons b1 ih
def yj(k:List cz)(xs:List (List cz×Addr×Value)):gX k (xs.map (·.1))=(atKey xs k).isSome:=(Be xs k).symm
theorem zO:∀{xs:List (List cz×Addr×Value)} {ps:List PV} {vs:List V} {p:PV},dY k (xs.map (·.1)) ps=some p->ao K F ps vs->Vals vs (xs.map (·.2.2))->∃a r v,atKey xs k=some (a,r)/\RelV v r/\bc K F p v
 | [],_,_,_,h,_,_=>by cases h
 | x::r,[],_,_,h,_,_=>by cases h
 | x::r,q::ps,vs,p,h,b,rv=>by
  obtain⟨v',w,rfl,b1,b2⟩:=b.bB;cases rv with
  | cons r1 r2 =>
   have h:(if x.1=k then some q else dY k (r.map (·.1)) ps)=some p:=h
   by_cases hi:x.1=k
   ·rw[if_pos hi]at h;cases h;exact⟨x.2.1,x.2.2,v',by simp[atKey,hi],r1,b1⟩
   ·rw[if_neg hi]at h;obtain⟨a,r',v,h1,h2,h3⟩:=zO h b2 r2;exact⟨a,r',v,by unfold atKey at h1 ⊢;rw[nD,aP hi];exact h1,h2,h3⟩
def ME(bq:bc K F q v)(rq:RelV v r)(hc:fA K F.F c (k.map kV))(hk:ej K F.F xs)(b:ao K F ps vs)(rv:Vals vs (xs.map (·.2.2))) :
  ∃qH uy uz,tD true k q (xs.map (·.1)) ps=⟨.eJ true qH,uy⟩/\(storedH xs k c r).map (·.1)=qH/\ej K F.F (storedH xs k c r)/\ao K F uy uz/\Vals uz ((storedH xs k c r).map (·.2.2)):=by
 unfold tD storedH;rw[yj];cases e:(atKey xs k).isSome with
 | false =>
  refine⟨_,_,vs++[v],rfl,by simp,λx hx=>?_,b.append (.cons bq .nil),by simpa using rv.append (.cons rq .nil)⟩
  simp only[eR,de,iH,iB]at hx;rcases hx with hx | rfl
  ·exact hk x hx
  ·exact hc
 | true =>
  simp only[ef];have hm:(xs.map (putAt k r)).map (·.1)=xs.map (·.1):=by
   rw[fF];exact xa λy _=>by simp only[Function.comp,putAt];split<;>rfl
  have key:ej K F.F (xs.map (putAt k r)):=λx hx=>by
   obtain⟨y,hy,rfl⟩:=ee.mp hx;have:=hk y hy;unfold putAt;split<;>exact this
  suffices h:∃uz,ao K F (vh k q (xs.map (·.1)) ps) uz/\Vals uz ((xs.map (putAt k r)).map (·.2.2)) by
   obtain⟨uz,h1,h2⟩:=h;exact⟨_,_,uz,rfl,hm,key,h1,h2⟩
  clear e hk hm key;induction xs generalizing ps vs with
  | nil=>exact⟨vs,by rw[eW,vi];exact b,rv⟩
  | cons x xs ih =>
   cases ps with
   | nil=>rw[b.bL]at rv;cases rv
   | cons p ps =>
    obtain⟨v',w,rfl,b1,b2⟩:=b.bB;cases rv with
    | cons r1 r2 =>
     obtain⟨uz,h1,h2⟩:=ih b2 r2;by_cases hx:x.1=k
     ·exact⟨v::uz,by simpa only[aO,vh,hx,ef]using ao.cons bq h1,by simpa only[aO,putAt,hx,ef]using Paired.cons rq h2⟩
     ·exact⟨v'::uz,by simpa only[aO,vh,hx,de]using ao.cons b1 h1,by simpa only[aO,putAt,hx,de]using Paired.cons r1 h2⟩
end
def fw:G2:=λh p q=>match p with
 | .str z=>(pW q).bind λi=>if z.length<=iN then(nY z.cps.toList i).map λc=>.str ⟨#[c]⟩else none
 | p=>match c9 h p with
  | some (.aq,ps)=>(pW q).bind (nY ps)
  | some (.lst,ps)=>(pW q).bind (nY ps)
  | some (.eJ t ks,ps)=>(iP t q).bind λk=>dY k ks ps
  | _=>none
section
variable {X:Cx} {aa:Hp} {ab:Fz} {a b e:Expr} {fa fb:Gx PV} {pos:Pos}
def YY(hu:X.A.units+1150<cLine):O3 X (rT X.K fw):=by
 rintro value slice ae s σ H x y v u Q I rx ry ⟨aa,ab,F,st,τ,pa,pb,p,e,R,ba,bb,k⟩ hs
 have more:(match c9 st.h pa with
  | some (.aq,ps)=>(pW pb).bind (nY ps)
  | some (.lst,ps)=>(pW pb).bind (nY ps)
  | some (.eJ t ks,ps)=>(iP t pb).bind λk=>dY k ks ps
  | _=>none)=some p->wpAny (model X.prog X.w) X.A (subscriptTail value slice v u) (EP X ae σ Q) X.xe s:=λe=>by
  split at e
  ·rename_i z;obtain⟨i,e1,e2⟩:=aE e;rw[eu e1]at bb;rw[aw.mp bb]at ry;obtain⟨a,vs,rfl,ha,eM⟩:=R.at z ba;obtain⟨w,hw,bw⟩:=eM.nY e2;exact L7 value slice ae s σ H _ _ v u Q I rx ry ⟨a,vs,_,w,rfl,rfl,ha.2,hw,k _ H F R (Gr.refl F) bw⟩ hs
  ·rename_i z;obtain⟨i,e1,e2⟩:=aE e;rw[eu e1]at bb;rw[aw.mp bb]at ry;obtain⟨a,vs,rfl,ha,eM⟩:=R.at z ba;obtain⟨w,hw,bw⟩:=eM.nY e2;exact HB value slice ae s σ H _ _ v u Q I rx ry ⟨a,vs,_,w,rfl,rfl,gq.sq ha,hw,k _ H F R (Gr.refl F) bw⟩ hs
  ·rename_i t ks ps z;obtain⟨kk,e1,e2⟩:=aE e;obtain⟨a,vs,rfl,ha,eM⟩:=R.at z ba;cases rx;cases t with
   | false =>
    obtain⟨kvs,g1,g2,g3⟩:=ha;obtain⟨j,rfl,rfl⟩:=gy e1 bb;subst g2 g3;obtain⟨w,hw,bw⟩:=mT e2 eM;obtain⟨_,hd,us,rel,dd⟩:=zG I.hok (.inl g1);have hr:=rel.val j;rw[hw]at hr;cases hv:valueAt us j with
    | none=>rw[hv]at hr;exact hr.elim
    | some u' =>
     rw[hv]at hr;exact lK dd.typeIs PySem.F.slot_dict_getitem.lookup (wpAny_getItem_of (mm ry) dd.mapOf hv ⟨w,H,I.tok _,hr,k _ H F R (Gr.refl F) bw⟩) hs
   | true =>
    obtain⟨xs,g1,g2,g3,g4⟩:=ha;obtain⟨c,rfl,hc⟩:=iQ e1 bb;cases ry;subst g3;obtain⟨ad,r,w,hw,HC,bw⟩:=zO e2 eM g4;obtain⟨_,hd,dd⟩:=qD I (.inl g1) (λz hz=>aU R.sub (g2 z hz))
    obtain⟨o,_,_,ho,hx,_⟩:=id dd;refine lK ⟨o,ho,hx.1⟩ PySem.F.slot_dict_getitem.lookup (Qs (by lia) I (.inl g1) (λz hz=>aU R.sub (g2 z hz)) (aU R.sub hc) hw λs' I'=>⟨w,H,I',HC,k _ H F R (Gr.refl F) bw⟩) hs
  ·cases e
 cases pa with
 | str z =>
  obtain⟨i,e1,e2⟩:=aE e;rw[eu e1]at bb;obtain⟨hz,e2⟩:=bE e2;obtain⟨c,e3,rfl⟩:=aM e2;rw[bf.mp ba]at rx;rw[aw.mp bb]at ry;exact L8 value slice ae s σ H _ _ v u Q I rx ry ⟨z,i,c,rfl,rfl,cQ hz,e3,k _ H F R (Gr.refl F) (bf.mpr rfl)⟩ hs
 | aN=>exact more e
 | bl _=>exact more e
 | int _=>exact more e
 | ref _=>exact more e
 | fn _=>exact more e
 | nd _ _=>exact more e
def Va(hu:X.A.units+1150<cLine)(ha:PE X a (tE X aa ab fa))(hb:PE X b (tE X aa ab fb))(hs:kr b):PE X (.Subscript a b pos) (tE X aa ab (op2 fw fa fb)):=(DI (YY hu) ha hb hs).imp λ_ _ _ h=>mR h
def lW(n:Bool):G2:=λh p q=>match c9 h q with
 | some (.eJ t ks,_)=>(iP t p).map λk=>.bl (if n=true then !gX k ks else gX k ks)
 | _=>(DV h q).bind λqs=>(U7 h p qs).map λb=>.bl (if n=true then !b else b)
def MF(hu:X.A.units+1150<cLine):pE X (compareOp .In) (lW false):=by
 rintro ae s σ H x y v u Q I rx ry ⟨aa,ab,F,st,τ,pa,pb,p,e,R,ba,bb,k⟩
 unfold lW at e;split at e
 ·rename_i t ks ps z;obtain⟨kk,e1,rfl⟩:=aM e;obtain⟨a,vs,rfl,ha,eM⟩:=R.at z bb;cases ry;cases t with
  | false =>
   obtain⟨kvs,g1,g2,g3⟩:=ha;obtain⟨j,rfl,rfl⟩:=gy e1 ba;obtain⟨_,hd,us,rel,dd⟩:=zG I.hok (.inl g1);refine wpAny_in_of (mm rx) hd dd.mapOf ⟨.bl (fS kvs j).isSome,H,I.tok _,?_,k _ H F R (Gr.refl F) (aR.mpr ?_)⟩
   ·rw[(rel.val j).qB];rfl
   ·rw[<-g2,iR];rfl
  | true =>
   obtain⟨xs,g1,g2,g3,g4⟩:=ha;obtain⟨c,rfl,hc⟩:=iQ e1 ba;cases rx;exact Qq (by lia) I (.inl g1) (λz hz=>aU R.sub (g2 z hz)) (aU R.sub hc) λs' I'=>⟨.bl _,H,I',rfl,k _ H F R (Gr.refl F) (aR.mpr (by rw[<-g3,yj];rfl))⟩
 ·obtain⟨qs,e1,e⟩:=aE e;obtain⟨b,e2,rfl⟩:=aM e;exact(D0 hu I rx ry R ba bb e1 e2).1 (k _ H F R (Gr.refl F) (aR.mpr rfl))
def Bo(hu:X.A.units+1150<cLine):pE X (compareOp .NotIn) (lW true):=by
 rintro ae s σ H x y v u Q I rx ry ⟨aa,ab,F,st,τ,pa,pb,p,e,R,ba,bb,k⟩
 unfold lW at e;split at e
 ·rename_i t ks ps z;obtain⟨kk,e1,rfl⟩:=aM e;obtain⟨a,vs,rfl,ha,eM⟩:=R.at z bb;cases ry;cases t with
  | false =>
   obtain⟨kvs,g1,g2,g3⟩:=ha;obtain⟨j,rfl,rfl⟩:=gy e1 ba;obtain⟨_,hd,us,rel,dd⟩:=zG I.hok (.inl g1);refine wpAny_notIn_of (mm rx) hd dd.mapOf ⟨.bl (!(fS kvs j).isSome),H,I.tok _,?_,k _ H F R (Gr.refl F) (aR.mpr ?_)⟩
   ·rw[(rel.val j).qB];rfl
   ·rw[<-g2,iR];rfl
  | true =>
   obtain⟨xs,g1,g2,g3,g4⟩:=ha;obtain⟨c,rfl,hc⟩:=iQ e1 ba;cases rx;exact Qr (by lia) I (.inl g1) (λz hz=>aU R.sub (g2 z hz)) (aU R.sub hc) λs' I'=>⟨.bl _,H,I',rfl,k _ H F R (Gr.refl F) (aR.mpr (by rw[<-g3,yj];rfl))⟩
 ·obtain⟨qs,e1,e⟩:=aE e;obtain⟨b,e2,rfl⟩:=aM e;exact(D0 hu I rx ry R ba bb e1 e2).2 (k _ H F R (Gr.refl F) (aR.mpr rfl))
end
def kH:G2:=λ_ p q=>match q with | .aN=>some (.bl (!u7 p)) | .bl b=>(U6 b p).map λc=>.bl (!c) | _=>none
def Ic:pE X (compareOp .IsNot) kH:=by
 rintro ae s σ H x y v u Q I rx ry ⟨aa,ab,F,st,τ,pa,pb,p,e,R,ba,bb,k⟩
 unfold kH at e;split at e
 ·cases e;exact Hm ae s σ H x y v u Q I rx ry ⟨cj.mp bb,k _ H F R (Gr.refl F) (aR.mpr (by rw[zL ba]))⟩
 ·rename_i b;obtain⟨c,e1,rfl⟩:=aM e;obtain⟨a,rfl,rfl⟩:=u9 e1;rw[aR.mp ba]at rx;rw[aR.mp bb]at ry;cases rx;cases ry;exact wpAny_isNot_plain rfl ⟨.bl _,H,I,(by cases a<;>cases b<;>rfl),k _ H F R (Gr.refl F) (aR.mpr rfl)⟩
 ·cases e
def Xe:G2:=mF (λ_ _=>true) λi j=>.bl (decide (j<i))
def vj:G2:=λh p q=>match p,q with
 | .str a,.str b=>some (.bl (!(decide (b.cps.toList<a.cps.toList))))
 | p,q=>W9 h p q
def MH:pE X (compareOp .LtE) vj:=by
 rintro ae s σ H x y v u Q I rx ry ⟨aa,ab,F,st,τ,pa,pb,p,e,R,ba,bb,k⟩
 unfold vj at e;split at e
 ·cases e;rw[bf.mp ba]at rx;rw[bf.mp bb]at ry;obtain⟨t1,rfl⟩:=rx;obtain⟨t2,rfl⟩:=ry;exact PySem.P.le_str ⟨.bl _,H,I,rfl,k _ H F R (Gr.refl F) (aR.mpr rfl)⟩
 ·exact eG (qF P6) (λ_ _ _=>trivial) (λ_ _ _=>aR.mpr rfl) ae s σ H x y v u Q I rx ry ⟨aa,ab,F,st,τ,pa,pb,p,e,R,ba,bb,k⟩
def yk:CmpOp->Option G2
 | .Eq=>some lS
 | .NotEq=>some yg
 | .Lt=>some W8
 | .LtE=>some vj
 | .Gt=>some Xe
 | .GtE=>some Xa
 | .Is=>some HX
 | .IsNot=>some kH
 | .In=>some (lW false)
 | .NotIn=>some (lW true)
def ja(hu:X.A.units+1150<cLine)(h:yk op=some g):pE X (compareOp op) g:=by
 have nn:∀i j:Int,(λ_ _=>true) i j=true->(λ_ _=>True) i j:=by grind
 cases op<;>cases h
 ·exact Mv hu
 ·exact Mw hu
 ·exact eG (qF P5) nn λ_ _ _=>aR.mpr rfl
 ·exact MH
 ·exact eG (qF P7) nn λ_ _ _=>aR.mpr rfl
 ·exact eG (qF P8) nn λ_ _ _=>aR.mpr rfl
 ·exact Mx
 ·exact Ic
 ·exact MF hu
 ·exact Bo hu
end L2.U
namespace L2
open PySem PySem.Spec PyProof.Rows
section
variable {X:Cx}
def D8:PE X (.Dict [] [] pos) (Kb (.dK [])):=λae s σ H Q I h =>
 wpAny_Dict_empty ⟨.ref s.heap.objs.size,_,I.laid (o:=.dK []) (λ_ _ q=>aj _ q) (ar _)
  ⟨gk _,bW.mpr (bA (aJ (gv I))),[],.nil,xB s.heap⟩,rfl,h _ (I.hok.fresh (ar _))⟩
def QT:V->List V->Hp->VK->Prop:=λx vs H Q=>∃a kvs k y,x=.ref a/\vs=[kV k,y]/\H a=some (.dK kvs)/\kvs.length<sizeLine/\(∀v,fS kvs k=some v->Q v H)/\(fS kvs k=none->Q y (bZ H a (.dK (kvs++[(k,y)]))))
def MI:L6 X "dict.setdefault" QT:=by
 intro ae s σ H x xs v us Q I rx rv h;obtain⟨a,kvs,k,y,rfl,rfl,e,hl,h1,h2⟩:=h;cases rx;obtain⟨u1,u2,rfl,r1,r2⟩:=rv.two;obtain⟨z,hd,vs,rel,dd⟩:=DQ I.hok e;refine call_meetsIn CJ dd.typeIs PySem.F.entry_dict_setdefault (PySem.F.args_dict_setdefault_3 _ _ _) (kt_meets_setdefault (br X.prog X.w) a (mm r1) hd u2) ⟨vs,dd,by rw[<-rel.length];exact z,λw hw=>?_,λhn h' Mc hs=>?_⟩
 ·have rk:=rel.val k;rw[hw]at rk;cases hv:fS kvs k with
  | none=>rw[hv]at rk;exact rk.elim
  | some v0=>rw[hv]at rk;exact⟨v0,H,I.tok _,rk,h1 v0 hv⟩
 ·have rk:=rel.val k;rw[hn]at rk;have hv:fS kvs k=none:=by
   cases hv:fS kvs k with
   | none=>rfl
   | some v0=>rw[hv]at rk;exact rk.elim
  have Ie:=rel.put k r2;rw[DP y hv]at Ie;have he:∃q,h'.get? a=some q:=let ⟨q,_,_,hq,_⟩:=Mc;⟨q,hq⟩
  exact⟨y,_,I.write (o:=.dK (kvs++[(k,y)])) (by rw[e];exact True.intro) (.inl rfl) (λc q' hc z=>(hs.2 c hc).trans z) he ⟨by rw[dM];exact hl,hd,_,Ie,Mc⟩,r2,h2 hv⟩
def zP:V->List V->Hp->VK->Prop:=λx vs H Q=>∃(l:Addr) (xs:List V) (i:Int) (y:V),x=.ref l/\vs=[.int i,y]/\H l=some (.lst xs)/\xs.length<sizeLine/\0<=i/\i<=1000000/\Q .aN (bZ H l (.lst (xs.take i.toNat++y::xs.drop i.toNat)))
def MJ(h0:0<=i)(hi:i<=1000000):¬(!Builtin.List.listFitsIndex i)=true:=by
 unfold Builtin.List.listFitsIndex;have h1:decide (-(2^63:Int)<=i)=true:=by grind
 have h2:decide (i<2^63)=true:=by grind
 rw[h1,h2];simp
def QU(i:Int)(u:Value):Array Value->Array Value:=λxs=>have k:=if i<0 then(i+((xs.size:Nat):Int)).toNat else min i.toNat xs.size;(xs.extract 0 k).push u++xs.extract k
def Ig(h0:0<=i)(ai:List Value)(u:Value):QU i u ai.toArray=(ai.take i.toNat++u::ai.drop i.toNat).toArray:=by
 unfold QU;have h1:¬i<0:=by lia
 simp only[h1,bO];apply Array.ext';simp only[List.extract_eq_drop_take];by_cases hb:i.toNat<=ai.length
 ·rw[xC hb];have h2:List.take (ai.length-i.toNat) (List.drop i.toNat ai)=List.drop i.toNat ai:=lj (by grind)
  simp[h2]
 ·grind
def Bp:Tu X "list.insert" zP:=by
 intro ae s σ H x vs v us Q I rx rv h;obtain⟨l,xs,i,y,rfl,rfl,hH,hz,h0,hi,q⟩:=h;cases rx;obtain⟨u1,u2,rfl,⟨t,rfl⟩,r2⟩:=rv.two;obtain⟨z,ai,n,r,hl,e⟩:=I.iM hH;have TF:=r.length;have J:=I.HF (t':=s.toks) hH e (Ig h0 ai u2) ((r.take i.toNat).append (.cons r2 (r.drop i.toNat))) (by grind)
 exact dw F.slot_list_insert ⟨_,e,rfl⟩ F.entry_list_insert (F.args_list_insert_3 _ _ _) (@PySem.AutoListH.list_insert_list_int_val_1 l ai.toArray n i t u2 (MJ h0 hi) (by grind)) ⟨e,.aN,_,J,rfl,q⟩
def MK(K:W.Frag):V->List V->Hp->VK->Prop:=λx vs H Q=>∃l b xs zs,x=.ref l/\vs=[.ref b]/\H l=some (.lst xs)/\(fA K H b zs\/gq K H b zs)/\xs.length+zs.length<=sizeLine/\Q .aN (bZ H l (.lst (xs++zs)))
def tF(l:Addr)(ai:Array Value)(n:Nat)(b:Addr)(more:Array Value)(n2:Nat)(dd:Option Addr)(sl:Array (Option Value))(h0:¬(!ai.isEmpty&&Builtin.List.listTooLong (ai.size+more.size))=true)(h1:ai.size<=sizeLine)(h2:ai.size+more.size<=sizeLine+1) :
  Meets (Builtin.«list.extend» ⟨[.ref l,.ref b],[]⟩) (λ_ R s=>s.heap.get? l=some {cls:=.type "list",dict:=none,data:=.seq ai n,slots:=#[]}/\s.heap.get? b=some {cls:=.type "tuple",dict:=dd,data:=.seq more n2,slots:=sl} /\
   R (.ok (.ret Value.none)) {s with heap:=s.heap.update l (Obj.mapSeq λx=>x++more),toks:=s.toks}) :=
 .of_wp λprog w A R s h=>by
  obtain⟨hp,g,d,tk,os⟩:=s;obtain⟨hl,hb,h⟩:=h;have f1:=AutoSeq1.idx_int;have f2:=AutoSeq1.sub_tuple_tuple;have f3:=AutoSeq1.sub_list_list;have f4:=AutoSeq1.sub_tuple_list;have f5:=AutoSeq1.sub_list_tuple
  wp_walk using (nB hl rfl (_hz':=(by rw[Array.size_append];exact h2))),iw hl,iw hb
  exact⟨_,rfl,h⟩
def ML:Tu X "list.extend" (MK X.K):=by
 intro ae s σ H x vs v us Q I rx rv h;obtain⟨l,b,xs,zs,rfl,rfl,hH,hB,hz,q⟩:=h;cases rx;obtain⟨u,rfl,ru⟩:=rv.one;cases ru;obtain⟨z,ai,n,r,hl,e⟩:=I.iM hH;have go:∀bY,Vals zs bY->(¬(!ai.toArray.isEmpty&&Builtin.List.listTooLong (ai.toArray.size+bY.toArray.size))=true/\ai.toArray.size<=sizeLine/\ai.toArray.size+bY.toArray.size<=sizeLine+1) /\
   EP X ae σ Q Value.none {s with heap:=s.heap.update l (Obj.mapSeq λx=>x++bY.toArray),toks:=s.toks}:=λbY r2=>by
  have TC:=r2.length;have hsz:ai.toArray.size+bY.toArray.size<=sizeLine:=by grind
  refine⟨⟨?_,by grind,(Nat.le_add_right_of_le ‹_›)⟩,.aN,_,I.HF hH e (by simp) (r.append r2) (by grind),rfl,q⟩
  rw[uU hsz,du];exact cE
 rcases hB with hB | hB
 ·obtain⟨bY,r2,⟨⟨cls,dd,Xf,sl⟩,e2,hc,n2,hd⟩,_⟩:=I.tuple hB;simp only at hc hd;subst hc hd;obtain⟨⟨g1,g2,g3⟩,g4⟩:=go bY r2;exact dw F.slot_list_extend ⟨_,e,rfl⟩ F.entry_list_extend (F.args_list_extend_2 _ _) (tF l ai.toArray n b bY.toArray n2 dd sl g1 g2 g3) ⟨e,e2,g4⟩
 ·obtain⟨bY,n2,r2,e2,_⟩:=I.kA hB;obtain⟨⟨g1,g2,g3⟩,g4⟩:=go bY r2;exact dw F.slot_list_extend ⟨_,e,rfl⟩ F.entry_list_extend (F.args_list_extend_2 _ _) (AutoSeq1.list_extend_list_list_0 l ai.toArray n b bY.toArray n2 g1 g2 g3) ⟨e,e2,g4⟩
def zQ(kvs:List (cz×V))(k:cz)(v:V):(putK kvs k v).length<=kvs.length+1:=by
 unfold putK;split
 ·grind
 ·grind
def QV:Dr:=λo i v H Q=>∃a kvs k,o=.ref a/\i=kV k/\H a=some (.dK kvs)/\kvs.length<sizeLine/\Q (bZ H a (.dK (putK kvs k v)))
def MM:Ds X QV:=by
 rintro ae s σ H o i v ov iv u Q I ro ri rv ⟨a,kvs,k,ex,ey,e1,e2,q⟩
 subst ex ey;cases ro;obtain⟨z,hd,vs,rel,dd⟩:=DQ I.hok e1;refine wpAny_setItem_pairs (mm ri) dd (λh' Mc O6=>?_) (by rw[<-rel.length];exact z)
 have Ie:=rel.put k rv;have he:∃q,h'.get? a=some q:=let ⟨q,_,_,hq,_⟩:=Mc;⟨q,hq⟩
 exact⟨_,I.write (o:=.dK (putK kvs k v)) (by rw[e1];exact True.intro) (.inl rfl) (λc q' hc z=>(O6.2 c hc).trans z) he ⟨by have:=zQ kvs k v;lia,hd,_,Ie,Mc⟩,q⟩
def QW(K:W.Frag):Dr:=λo i v H Q=>∃a b xs k,o=.ref a/\i=.ref b/\H a=some (.dT xs)/\ej K H xs/\fA K H b (k.map kV)/\xs.length<sizeLine/\∀r,RelV v r->Q (bZ H a (.dT (storedH xs k b r)))
def MN(hu:X.A.units+1<cLine):Ds X (QW X.K):=by
 rintro ae s σ H o i v ov iv u Q I ro ri rv ⟨a,b,xs,k,ex,ey,e1,e2,e3,e4,q⟩
 subst ex ey;cases ro;cases ri;exact Mb hu I e1 e2 e3 e4 λs4 I4=>⟨_,I4,q u rv⟩
end
end L2
namespace L2.U
open PySem PySem.Spec PyProof.Rows
abbrev MG:=ah->List PV->Option (ah×PV)
def Bq(h:List ah):PV->Option (Nat×ah)
 | .ref n=>(h[n]?).bind λc=>if live c=true then some (n,c)else none
 | _=>none
def gz(e:Bq h p=some (n,c)):p=.ref n/\h[n]?=some c/\live c=true:=by
 cases p with
 | ref m =>
  obtain⟨d,e1,e2⟩:=aE e;obtain⟨hl,e3⟩:=ax e2;cases e3;exact⟨rfl,e1,hl⟩
 | _=>cases e
def pX(g:MG)(p:PV)(as:List PV):Gx PV:=λst=>(Bq st.h p).bind λc=>(g c.2 as).map λr=>(.ok r.2,⟨st.ρ,st.h.set c.1 r.1⟩)
section
variable {X:Cx} {aa H:Hp} {ab F:Fz} {st:bT} {σ:St}
def vk(K:W.Frag)(r:V->List V->Hp->VK->Prop)(g:MG):Prop:=∀(aa H:Hp) (ab F:Fz) (st:bT) (σ:St) (n:Nat) (c c':ah) (a:Addr) (as:List PV) (ws:List V) (q:PV) (Q:VK),
 Rep K aa ab F st σ H->st.h[n]?=some c->live c=true->F.μ[n]?=some a->g c as=some (c',q)->ao K F as ws->(∀v F' H',Rep K aa ab F' ⟨st.ρ,st.h.set n c'⟩ σ H'->Gr F F'->bc K F' q v->Q v H')->r (.ref a) ws H Q
def Rep.put(R:Rep X.K aa ab F st σ H){c d:ah}(hc:st.h[n]?=some c)(hl:live c=true)(ha:F.μ[n]?=some a)(hn:jI X.K F.F (bZ H a o) a true d.k vs)(hb:ao X.K F d.ps vs) :
  Rep X.K aa ab F ⟨st.ρ,st.h.set n d⟩ σ (bZ H a o):=⟨R.c.write hc hl ha hn hb,R.l⟩
def iM(f:List PV->List PV->Option (List PV)):MG:=λc as=>match c.k with
 | .lst=>(f c.ps as).map λqs=>(⟨.lst,qs⟩,.aN)
 | _=>none
def tH
  (h:∀(H:Hp) (F:Fz) (ps as qs:List PV) (vs ws:List V) (a:Addr) (Q:VK) (h:List ah),bU F.F H->f ps as=some qs->H a=some (.lst vs)->ao X.K F ps vs->ao X.K F as ws->(∀uz,ao X.K F qs uz->Q .aN (bZ H a (.lst uz)))->r (.ref a) ws H Q):vk X.K r (iM f):=by
 intro aa H ab F st σ n c c' a as ws q Q R hc hl ha hg hb k;unfold iM at hg;split at hg
 ·rename_i hk;obtain⟨qs,e1,e2⟩:=aM hg;cases e2;obtain⟨_,vs,h2,h3⟩:=R.c.cell n c a hc ha hl;rw[hk]at h2;exact h H F c.ps as qs vs ws a Q st.h R.sub e1 h2 h3 hb λuz b'=>k _ F _ (R.put hc hl ha au b') (Gr.refl _) (cj.mpr rfl)
 ·cases hg
def yl:List PV->List PV->Option (List PV):=λps as=>match as with | [p]=>if ps.length<iN then some (ps++[p])else none | _=>none
def Ih:vk X.K zE (iM yl):=tH λH F ps as qs vs ws a Q h hs hf ha bp ba k=>by
 unfold yl at hf;split at hf
 ·obtain⟨hl,rfl⟩:=ax hf;obtain⟨v,rfl,b⟩:=b7 ba;exact⟨a,vs,v,rfl,rfl,ha,by rw[<-bp.length];exact bN hl (cQ (ar _)),k _ (bp.append ba)⟩
 ·cases hf
def Ij:List PV->List PV->Option (List PV):=λps as=>match as with | []=>some ps.reverse | _=>none
def Ik:vk X.K uV (iM Ij):=tH λH F ps as qs vs ws a Q h hs hf ha bp ba k=>by
 unfold Ij at hf;split at hf
 ·cases hf;exact⟨a,vs,rfl,ba.bL,ha,k _ bp.reverse⟩
 ·cases hf
def Il:List PV->List PV->Option (List PV):=λps as=>match as with
 | [.int i,p]=>if(0<=i/\i<=1000000/\ps.length<iN)then some (ps.take i.toNat++p::ps.drop i.toNat)else none
 | _=>none
def Im:vk X.K zP (iM Il):=tH λH F ps as qs vs ws a Q h hs hf ha bp ba k=>by
 unfold Il at hf;split at hf
 ·obtain⟨⟨h1,h2,h3⟩,rfl⟩:=ax hf;obtain⟨w1,w2,rfl,b1,b2⟩:=kF ba;rw[aw.mp b1];exact⟨a,vs,_,w2,rfl,rfl,ha,bN (by rw[<-bp.length];exact h3) (cQ (ar _)),h1,h2,k _ ((bp.take _).append (.cons b2 (bp.drop _)))⟩
 ·cases hf
def D9(p:PV)(as:List PV):Gx PV:=λst=>match as with
 | [q]=>(DV st.h q).bind λrs=>pX (iM λps _=>if ps.length+rs.length<=iN then some (ps++rs)else none) p [] st
 | _=>none
def Io:MG:=λc as=>match c.k,as with
 | .eJ false ks,[kp,y]=>(iP false kp).bind λk=>if ks.length<iN then(if gX k ks=true then(dY k ks c.ps).map λp=>(c,p)else some (⟨.eJ false (ks++[k]),c.ps++[y]⟩,y))else none
 | _,_=>none
def Ip:vk X.K QT Io:=by
 intro aa H ab F st σ n c c' a as ws q Q R hc hl ha hg hb k;unfold Io at hg;split at hg
 ·rename_i ks kp y hk;obtain⟨kk,e1,e2⟩:=aE hg;obtain⟨hz,e2⟩:=bE e2;obtain⟨w1,w2,rfl,b1,b2⟩:=kF hb;obtain⟨j,rfl,rfl⟩:=gy e1 b1;obtain⟨_,vs,h2,h3⟩:=R.c.cell n c a hc ha hl;have hnd:=h2;rw[hk]at h2;obtain⟨kvs,g1,g2,g3⟩:=h2;rw[<-g3]at h3;refine⟨a,kvs,j,w2,rfl,rfl,g1,(by
   have:ks.length=kvs.length:=by grind
   exact bN (by grind) (cQ (ar _))),λv hv=>?_,λhv=>?_⟩
  ·rw[if_pos (by rw[<-g2,iR,hv];rfl)]at e2
   obtain⟨p,e3,e4⟩:=aM e2;cases e4;rw[<-g2]at e3;obtain⟨v',LW,bv⟩:=mT e3 h3;rw[hv]at LW;cases LW;have e:st.h.set n c=st.h:=by
    apply List.ext_getElem?;intro i;by_cases hi:n=i
    ·grind
    ·grind
   rw[e]at k;exact k v F H R (Gr.refl _) bv
  ·rw[if_neg (by rw[<-g2,iR,hv];simp)]at e2
   cases e2;refine k w2 F _ (R.put (vs:=kvs.map (·.2)++[w2]) hc hl ha ⟨kvs++[(j,w2)],au,by grind⟩ ?_) (Gr.refl _) b2
   exact h3.append (.cons b2 .nil)
 ·cases hg
def Tx.mut(hg:vk X.K r g)(h:Tx X aa ab (bc X.K) F st (pX g p as) σ Q)(R:Rep X.K aa ab F st σ H)(bp:bc X.K F p v)(ba:ao X.K F as ws):r v ws H Q:=by
 obtain⟨q,h1,h2⟩:=h;obtain⟨⟨n,c⟩,e1,e2⟩:=aE h1;obtain⟨⟨c',x⟩,e3,e4⟩:=aM e2;subst e4;obtain⟨rfl,hc,hl⟩:=gz e1;obtain⟨a,ha,rfl⟩:=cY.mp bp;exact hg aa H ab F st σ n c c' a as ws x Q R hc hl ha e3 ba λv F' H' R' g' b'=>h2 v H' F' R' g' b'
def Tx.ext{Q:VK}(h:Tx X aa ab (bc X.K) F st (D9 p as) σ Q)(R:Rep X.K aa ab F st σ H)(bp:bc X.K F p v)(ba:ao X.K F as ws):MK X.K v ws H Q:=by
 obtain⟨x,h1,h2⟩:=h;unfold D9 at h1;split at h1
 ·rename_i q;obtain⟨rs,e0,h1⟩:=aE h1;obtain⟨w,rfl,bw⟩:=b7 ba;obtain⟨b,zs,rfl,hs,hb⟩:=R.seq e0 bw;obtain⟨⟨n,c⟩,e1,e2⟩:=aE h1;obtain⟨⟨c',y⟩,e3,e4⟩:=aM e2;subst e4;obtain⟨rfl,hc,hl⟩:=gz e1;obtain⟨a,ha,rfl⟩:=cY.mp bp;unfold iM at e3;split at e3
  ·rename_i hk;obtain⟨qs,e5,e6⟩:=aM e3;cases e6;obtain⟨hz,rfl⟩:=ax e5;obtain⟨_,vs,g2,g3⟩:=R.c.cell n c a hc ha hl;rw[hk]at g2;exact⟨a,b,vs,zs,rfl,rfl,g2,hs,by rw[<-g3.length,<-hb.length];exact cQ hz,h2 .aN _ F (R.put hc hl ha au (g3.append hb)) (Gr.refl _) (cj.mpr rfl)⟩
  ·cases e3
 ·cases h1
end
section
variable {prog:Program} {w:World} {A:Around} {R:Result->Shared->Prop} {s:Shared}
abbrev nb(prog:Program)(w:World)(A:Around)(env:Env)(R:Result->Shared->Prop):Value->Shared->Prop:=notedBy (model prog w) A env λe s'=>R (.error e) s'
abbrev zR(ifs:List Expr)(env:Env):Sem Bool:=forIn ifs true λc r=>if r=true then do let ok <-isTrue c env (eval c env);pure (ForInStep.yield ok)else pure (ForInStep.yield r)
def Br(I:Nat->Shared->Prop)
  (nQ:∀n s,I n s->wpAny (model prog w) A (pyNext it) (λr s1=>match r with
   | none=>R (.ok .next) s1
   | some v=>wpAny (model prog w) A (letOwnedTupleGo tg it v) (λ_ Xg=>wpAny (model prog w) A (assign tg env v) (λ_ s2=>wpAny (model prog w) A (zR ifs env) (λok s3 =>
      if ok=true then wpAny (model prog w) A (eval elt env) (λx s4=>wpAny (model prog w) A (call (.builtin "list.append") [acc,x]) (λ_ s5=>∃m,m<n/\I m s5) (nb prog w A env R) s4) (nb prog w A env R) s3
      else ∃m,m<n/\I m s3) (nb prog w A env R) s2) (nb prog w A env R) Xg) (nb prog w A env R) s1) (nb prog w A env R) s)
  (n:Nat) (h:I n s):codeAny (model prog w) A (.compLoop (.ListComp elt [⟨tg,iter,ifs,0⟩] scope pos) 0 it acc env) R s:=by
 refine codeAny_loop rfl I (λn s hI=>?_) n h
 refine wpAny_noted ?_;rw[compTurn_list];refine af (sJ (af (thn (nQ n s hI) λr s1 h1=>?_)))
 cases r with
 | none=>exact ag h1
 | some v =>
  refine af (thn h1 λ_ Xg YZ=>af (thn YZ λ_ s2 h2=>af (thn h2 λok s3 h3=>?_)))
  cases ok with
  | false=>exact ag ⟨rfl,h3⟩
  | true=>exact af (af (thn h3 λx s4 h4=>af (thn h4 λ_ s5 h5=>ag (ag ⟨rfl,h5⟩))))
end
def lX(env:Env):List (Str×NameKind)->List (Str×Addr)->List (Str×Addr)
 | [],cs=>cs
 | (n,k)::r,cs=>lX env r (if k==.free then(match env.cells.lookup n with | some c=>(n,c)::cs | none=>cs)else cs)
def ym(h:∀y∈scope.names,y.2=.free->∃c,env.cells.lookup y.1=some c):closureFor scope env=pure (lX env scope.names []):=by
 have all:∀(l:List (Str×NameKind)) (cs:List (Str×Addr)),(∀y∈l,y.2=.free->∃c,env.cells.lookup y.1=some c) ->
   (forIn l cs λx r=>(match x with | (name,kind)=>if(kind==NameKind.free)=true then do let a <-cellOf env name;pure (ForInStep.yield ((name,a)::r))else pure (ForInStep.yield r):Sem (ForInStep (List (Str×Addr)))))=pure (lX env l cs):=by
  intro l;induction l with
  | nil=>intro cs _;rfl
  | cons y l ih =>
   intro cs hl;obtain⟨n,k⟩:=y;rw[gK];by_cases hk:k=.free
   ·subst hk;obtain⟨c,hc⟩:=hl (n,.free) dc rfl;have CA:=hc;have e1:cellOf env n=pure c:=by unfold cellOf;rw[CA]
    simp only[e1,lX,CA];exact ih _ λy hy=>hl y (da _ hy)
   ·have hb:(k==NameKind.free)=false:=by simpa using hk
    simp only[hb,lX];exact ih _ λy hy=>hl y (da _ hy)
 unfold closureFor;have:=all scope.names [] h;simp only[bind_pure]at this ⊢;exact this
theorem vm:∀(l:List (Str×NameKind)) (cs:List (Str×Addr)) (p:Str×Addr),p∈lX env l cs->p∈cs\/env.cells.lookup p.1=some p.2
 | [],_,_,h=>.inl h
 | (n,k)::r,cs,p,h=>by
  unfold lX at h;rcases vm r _ p h with q | q
  ·grind
  ·grind
def cR(h:(lX env l []).lookup x=some c):env.cells.lookup x=some c:=by
 rcases vm l [] (x,c) (d7 h)with q | q
 ·cases q
 ·exact q
theorem qI:∀(l:List (Str×NameKind)) (cs:List (Str×Addr)),(∃c,(x,c)∈cs)->∃c,(x,c)∈lX env l cs
 | [],_,h=>h
 | (n,k)::r,cs,⟨c,h⟩=>by
  unfold lX;refine qI r _ ⟨c,?_⟩;split
  ·grind
  ·exact h
theorem oj:∀(l:List (Str×NameKind)) (cs:List (Str×Addr)),(x,NameKind.free)∈l->(∃c,env.cells.lookup x=some c)->∃c,(x,c)∈lX env l cs
 | [],_,h,_=>by cases h
 | (n,k)::r,cs,h,hc=>by
  unfold lX;rcases aX.mp h with z | z
  ·cases z;obtain⟨c,e⟩:=hc;refine qI r _ ⟨c,?_⟩;simp[e]
  ·exact oj r _ z hc
theorem gp:∀{l:List (Str×Addr)},(x,c)∈l->∃c',l.lookup x=some c'
 | [],h=>by cases h
 | (n,d)::r,h=>by
  rw[gi];cases hx:x==n with
  | true=>exact⟨d,rfl⟩
  | false =>
   rcases aX.mp h with z | z
   ·grind
   ·exact gp z
def bQ(X:Cx)(N:List Str)(scope:Scope)(C:Addr)(s:Shared)(H:Hp)(fp:List Addr):Cx where
 prog:=X.prog
 w:=X.w
 K:=X.K
 mg:=X.mg
 base:=X.base
 A:=X.A
 N:=N
 s₀:=s
 aa:=H
 env:=compEnvC scope (lX X.env scope.names []) C X.env
 aB:=X.stack
 stack:=X.stack
 ex:=fp
 fn:=λ_=>false
 calm:=X.calm
 pn:=[]
 xe:=λ_ _=>False
theorem fK{env:Env}:∀(names:List (Str×NameKind)) (x:Str),(names.map fun(n,k)=>if(k==NameKind.free&&env.scope.kind==.function&&env.kindOf n==some .cell)then(n,NameKind.cell)else(n,k)).lookup x =
  (names.lookup x).map λk=>if(k==NameKind.free&&env.scope.kind==.function&&env.kindOf x==some .cell)then NameKind.cell else k
 | [],_=>rfl
 | (n,j)::r,x=>by
  have e:(if(j==NameKind.free&&env.scope.kind==.function&&env.kindOf n==some .cell)=true then(n,NameKind.cell)else(n,j))=(n,if(j==NameKind.free&&env.scope.kind==.function&&env.kindOf n==some .cell)=true then NameKind.cell else j):=by split<;>rfl
  show List.lookup x ((if(j==NameKind.free&&env.scope.kind==.function&&env.kindOf n==some .cell)=true then(n,NameKind.cell)else(n,j))::_)=_
  rw[e,gi,gi];cases hx:x==n with
  | true =>
   have qJ:=aH hx;subst qJ;rfl
  | false=>exact fK r x
def kJ{env:Env}{names:List (Str×NameKind)}(h:(names.map fun(n,k)=>if(k==NameKind.free&&env.scope.kind==.function&&env.kindOf n==some .cell)then(n,NameKind.cell)else(n,k)).lookup x=some k) :
  names.lookup x=some k\/(k=.cell/\names.lookup x=some .free):=by
 rw[fK]at h;cases z:names.lookup x with
 | none=>rw[z]at h;cases h
 | some j =>
  rw[z]at h;have h:(if(j==NameKind.free&&env.scope.kind==.function&&env.kindOf x==some .cell)=true then NameKind.cell else j)=k:=by grind
  split at h
  ·grind
  ·grind
def tJ{env:Env}{names:List (Str×NameKind)}(h:names.lookup x=some .free) :
  (names.map fun(n,k)=>if(k==NameKind.free&&env.scope.kind==.function&&env.kindOf n==some .cell)then(n,NameKind.cell)else(n,k)).lookup x=some .cell \/
  (names.map fun(n,k)=>if(k==NameKind.free&&env.scope.kind==.function&&env.kindOf n==some .cell)then(n,NameKind.cell)else(n,k)).lookup x=some .free:=by
 rw[fK,h];show some (if _ then _ else _)=_\/some (if _ then _ else _)=_
 split
 ·grind
 ·grind
structure gA (X:Cx) (N:List Str) (link:List (Option Nat)) (scope:Scope):Prop where
 kind:scope.kind=.function
 cell:∀y∈scope.names,y.2≠.cell
 names:∀y∈scope.names,y.2=.local->scope.names.lookup y.1=some .local
 free:∀y∈scope.names,y.2=.free->(X.env.kindOf y.1=some .cell\/X.env.kindOf y.1=some .free)
 len:link.length=N.length
 link:∀(i j:Nat) (x:Str),link[i]?=some (some j)->N[i]?=some x->X.N[j]?=some x/\scope.names.lookup x=some .free
def ib(link:List (Option Nat))(σ:St):St:=link.map λo=>o.bind λj=>(σ[j]?).join
section
variable {X:Cx} {ae:List (Addr×Obj)} {σ:St} {H:Hp} {s:Shared}
def Inv.adopt(I:Inv X ae σ H s)(hn:H D=none)(h1:X.s₀.heap.objs.size<=D)(h2:D≠X.env.locals)(h3:∀x c,X.env.cells.lookup x=some c->c≠D)(h4:∀p∈X.pn++ae,p.1≠D)
  (ho:eL X.prog X.w (bZ H D o) s.heap D o):Inv X ae σ (bZ H D o) s:=by
 have ne:∀b u,H b=some u->b≠D:=λb u e z=>by rw[z,hn]at e;cases e
 refine I.step (ch:=[D]) (λb hb=>?_) (λb u _ _ _ e _=>e) (λb u _ _ _ e _=>⟨u.slots,e⟩) (λb u hc _ n=>?_) (λb u _ e=>⟨u,e⟩)
  (λb xs e=>by rw[aI (ne b _ e)];exact e) (λb u xs e=>by rw[aI (ne b _ e)];exact e) (λb ps e=>by rw[aI (ne b _ e)];exact e) (λm hm=>hm) (λb u e=>?_) I.bare
 ·have e:b=D:=by simpa using hb
  subst e;exact⟨.inr h1,h2,h3,h4⟩
 ·rw[aI (λz=>hc (by simp[z]))];exact n
 ·by_cases hb:b=D
  ·subst hb;rw[au]at e;cases e;exact ho
  ·rw[aI hb]at e;exact(I.hok b u e).uJ (λ_ _ _ q=>q) (λc q=>by rw[aI (ne c _ q)];exact q) (λc xs q=>by rw[aI (ne c _ q)];exact q) λc ob v q=>by rw[aI (ne c _ q)];exact q
def yn{N:List Str}{link:List (Option Nat)}(S:gA X N link scope)(I:Inv X ae σ H s)(TJ:∀b∈fp,nR X ae H b)
  (hC:s.heap.objs.size<=C) (ns:h.Ns C λ_=>none) (hk:∀b o,s.heap.get? b=some o->h.get? b=some o) (Vb:∀b∈fp,∃o,s.heap.get? b=some o) :
  Inv (bQ X N scope C s H fp) [] (ib link σ) H {s with heap:=h,toks:=tk}:=by
 have uM:∀y∈scope.names,y.2=.free->∃c,X.env.cells.lookup y.1=some c:=λy hy hf=>I.ok.has y.1 (S.free y hy hf)
 have Vc:∀x c,X.env.cells.lookup x=some c->c<s.heap.objs.size:=λx c e=>let ⟨v,o,ho,_⟩:=I.cell x c e;ay ho
 refine⟨⟨I.ok.mod,S.kind,I.ok.glob,I.ok.blt,hC,λx y c h1 h2=>I.ok.inj x y c (cR h1) (cR h2),λx hx=>?_,λx c hx=>(by cases hx),I.ok.hd,I.ok.frames,.inl rfl,λb hb=>⟨?_,λx c e=>(TJ b hb).2.2.2.2.1 x c (cR e)⟩,I.bs,aD I.ok.bsz I.sz,
  λb o e hb=>?_,λb hb z=>?_,I.stack,I.sR,I.tabs⟩,rfl,I.bare,Un.kept hk,⟨_,ns,λi x v e1 e2 e3=>?_⟩,λx c e=>?_,I.hok.fresh hC,λx c e=>I.freeC x c (cR e),λp hp=>(by cases hp),I.hok.kept hk,by unfold ib;rw[ak];exact S.len⟩
 ·-- JY cells T5 there
  have qJ:=hx;have hf:scope.names.lookup x=some .free:=by
   rcases qJ with h1 | h1
   ·rcases kJ h1 with q | ⟨_,q⟩
    ·exact absurd rfl (S.cell _ (d7 q))
    ·exact q
   ·rcases kJ h1 with q | ⟨z,_⟩
    ·exact q
    ·cases z
  have hm:=d7 hf;obtain⟨c,hc⟩:=oj scope.names [] hm (uM _ hm rfl);exact gp hc
 ·intro z;obtain⟨o,ho⟩:=Vb b hb;exact absurd (bN (ay ho) (aD hC (iK z.symm))) (dv _)
 ·rcases(TJ b hb).2.2.2.1 with z | z
  ·exact I.ok.noex b o e z
  ·exact absurd (bN (ay e) (aD I.ok.bsz z)) (dv _)
 ·rcases aX.mp (I.sQ b z)with q | q
  ·exact(TJ b hb).2.1 q
  ·exact(TJ b hb).2.2.1 q
 ·-- a slot: Xh Y0 from JY Vd
  have hi:i<link.length:=by
   have:=(dI.mp e2).1;unfold ib at this
   rwa [ak]at this
  unfold ib at e2;rw[bR,b9 hi]at e2;have e2:=bt e2;cases z:link[i]with
  | none=>rw[z]at e2;cases e2
  | some j =>
   rw[z]at e2;have e2:(σ[j]?).join=some v:=e2;obtain⟨hX,hf⟩:=S.link i j x (by rw[b9 hi,z]) e1
   have hm:=d7 hf;have TK:=S.free _ hm rfl;obtain⟨m,hn,hl⟩:=I.loc;obtain⟨u,r,l⟩:=hl j x v hX (by
    cases q:σ[j]? with
    | none=>rw[q]at e2;cases e2
    | some q'=>rw[q]at e2;cases q' with
     | none=>cases e2
     | some v'=>cases e2;rfl) (by rcases TK with q | q;exact .inr (.inl q);exact .inr (.inr q))
   refine⟨u,r,.inr ⟨tJ hf,?_⟩⟩;obtain⟨c,hc⟩:=oj scope.names [] hm (uM _ hm rfl);obtain⟨c',CA⟩:=gp hc;refine⟨c',CA,?_⟩;rcases l with⟨lk,_⟩ | ⟨_,d,hd,qt⟩
   ·rcases TK with q | q<;>(rw[show X.env.kindOf x=some .local from lk]at q;cases q)
   ·have:=cR CA;rw[hd]at this;cases this;exact qt.keeps hk
 ·obtain⟨v,o,ho,hd⟩:=I.cell x c (cR e);exact⟨v,o,hk _ _ ho,hd⟩
end
abbrev TB:=V->St->Hp->(Option V->St->Hp->Prop)->Prop
def PB(X:Cx)(tg:Expr)(ifs:List Expr)(elt:Expr)(tb:TB):Prop :=
 ∀(ae:List (Addr×Obj)) (s:Shared) (σ:St) (H:Hp) (v:V) (u:Value) (Q:Option V->St->Hp->Prop),Inv X ae σ H s->RelV v u->tb v σ H Q ->
  wpAny (model X.prog X.w) X.A (assign tg X.env u) (λ_ s2=>wpAny (model X.prog X.w) X.A (zR ifs X.env) (λok s3 =>
   if ok=true then wpAny (model X.prog X.w) X.A (eval elt X.env) (λy s4=>∃v' bh H',Inv X ae bh H' s4/\RelV v' y/\Q (some v') bh H') X.xe s3
   else ∃bh H',Inv X ae bh H' s3/\Q none bh H') X.xe s2) X.xe s
def Ea(hg:PG X tg g)(he:PE X elt te):PB X tg [] elt (λv σ H Q=>g v σ H λgT H1=>te gT H1 λy H2=>Q (some y) gT H2):=by
 intro ae s σ H v u Q I r h;refine thn (hg ae s σ H v u _ I r h) λ_ s2 ⟨gT,H1,I1,q1⟩=>ag ?_
 rw[if_pos rfl];exact thn (he ae s2 gT H1 _ I1 q1) (by rintro y s4 ⟨v',H2,I2,r2,q2⟩;exact⟨v',gT,H2,I2,r2,q2⟩)
def Iq(hg:PG X tg g)(hc:PT X c tc)(he:PE X elt te) :
  PB X tg [c] elt (λv σ H Q=>g v σ H λgT H1=>tc gT H1 λb H2=>if b=true then te gT H2 λy H3=>Q (some y) gT H3 else Q none gT H2):=by
 intro ae s σ H v u Q I r h;refine thn (hg ae s σ H v u _ I r h) λ_ s2 ⟨gT,H1,I1,q1⟩=>?_
 refine wpAny_tests_one (thn (hc ae s2 gT H1 _ I1 q1) λb s3 ⟨H2,I2,q2⟩=>?_)
 cases b with
 | true =>
  rw[if_pos rfl]at q2 ⊢;exact thn (he ae s3 gT H2 _ I2 q2) (by rintro y s4 ⟨v',H3,I3,r3,q3⟩;exact⟨v',gT,H3,I3,r3,q3⟩)
 | false =>
  rw[if_neg cE]at q2 ⊢;exact⟨gT,H2,I2,q2⟩
def qK(link:List (Option Nat))(wi:TI)(tb:TB):TE:=λσ H Q=>wi σ H λJ H1=>∃W:Nat->Nat->List V->St->Hp->Prop,(∃m,W 0 m [] (ib link σ) H1)/\∀i m acc bh H',W i m acc bh H' ->
 (J.stop i H'/\acc.length<=sizeLine/\∀D,H' D=none->Q (.ref D) (bZ H' D (.lst acc))) \/
 (J.go i H'/\acc.length<sizeLine/\∀x H2,J.yld i H' x H2->tb x bh H2 λo mD H3=>∃m',m'<m/\W (i+1) m' (acc++o.toList) mD H3)
structure Ve (X:Cx) (ae:List (Addr×Obj)) (H:Hp) (C:Addr):Prop where
 free:H C=none
 above:X.s₀.heap.objs.size<=C
 loc:C≠X.env.locals
 cell:∀x c,X.env.cells.lookup x=some c->c≠C
 pin:∀p∈X.pn++ae,p.1≠C
def qL(hc:X.calm=true)(S:gA X N link scope)(hi:PI X tg iter wi)
  (hb:∀(C:Addr) (s:Shared) (H:Hp) (fp:List Addr),PB (bQ X N scope C s H fp) tg ifs elt tb) (hs:∀x,foldedSetIterable iter X.env x=pure x) (I:Inv X ae σ H s) (h:qK link wi tb σ H Q)
  (Vf:∀(s5:Shared) (D C:Addr) (H5:Hp) (m:Str->Option Value),Inv X ae σ H5 s5->Q (.ref D) H5->s5.heap.Ns C m->Ve X ae H5 C->compPost (model X.prog X.w) X.A X.xe use Q' (.ref D) C (.ok .next) s5) :
  wpAny (model X.prog X.w) X.A (comprehension (.ListComp elt [⟨tg,iter,ifs,0⟩] scope pos) scope X.env pM (newList []) false (eval iter X.env) use) Q' X.xe s:=by
 have uM:∀y∈scope.names,y.2=.free->∃c,X.env.cells.lookup y.1=some c:=λy hy hf=>I.ok.has y.1 (S.free y hy hf)
 refine wpAny_comprehension_free rfl hs (ym uM) S.kind S.names (thn (hi ae s σ H _ I h) λv s1 h1=>thn h1 λUu s2 h2=>?_)
 obtain⟨it,fp,tn,J,H2,rfl,I2,T,dk,f2,W,⟨m0,w0⟩,nQ⟩:=h2;refine jC (wpAny_newFunctionEnv S.cell (by grind) (λcq ns sb=>?_) S.kind)
 dsimp only at ns sb ⊢
 generalize hD:s2.heap.push {cls:=.type "list",dict:=none,data:=.seq [].toArray}=HD at ns sb ⊢
 have hC:HD.objs.size=s2.heap.objs.size+1:=by rw[<-hD,cm]
 have TL:s2.heap.objs.size≠HD.objs.size:=by grind
 have Eb:s2.heap.objs.size<=HD.objs.size:=by grind
 have old:∀b o,s2.heap.get? b=some o->cq.get? b=some o:=λb o e=>by
  have vn:=ay e;exact sb.extBut b o (aJ (bN vn Eb)) (aj _ (by rw[<-hD];exact aj _ e))
 have Vg:cq.get? s2.heap.objs.size=some {cls:=.type "list",data:=.seq [].toArray} :=
  sb.extBut _ _ TL (aj _ (by rw[<-hD];exact aY _ rfl))
 generalize eD:s2.heap.objs.size=D at *
 generalize eC:HD.objs.size=C at *
 have Xi:∀b∈fp,∃o,s2.heap.get? b=some o:=λb iu=>let ⟨o,e,_⟩:=T.obj _ _ dk b iu;⟨o,e⟩
 have I3:∀tk,Inv (bQ X N scope C s2 H2 fp) [] (ib link σ) H2 {s2 with heap:=cq,toks:=tk}:=λtk =>
  yn S I2 f2 (by rw[eD];exact Eb) ns old Xi
 have Xj:∀b∈fp,b≠D:=λb iu z=>by
  obtain⟨o,e⟩:=Xi b iu;have:=ay e;rw[z,<-eD]at this;exact dv _ this
 have xO:∀{H':Hp} {pl:List (Addr×Obj)},(∀b∈fp,H' b=none)->(∀p∈pl,p.1=D)->∀b∈fp,nR (bQ X N scope C s2 H2 fp) pl H' b:=λ{H' pl} hn hp b iu=>by
  have K0:=(I3 0).ok.exf b iu;exact⟨hn b iu,K0.1,(I3 0).ok.exfs b iu,.inl iu,K0.2,λp vo z=>Xj b iu (z▸hp p (by simpa[bQ]using vo))⟩
 have QX:∀x c,(bQ X N scope C s2 H2 fp).env.cells.lookup x=some c->c≠D:=λx c e z=>by
  obtain⟨v,o,ho,_⟩:=I2.cell x c (cR e);have:=ay ho;rw[z,<-eD]at this;exact dv _ this
 have Y1:D∉(bQ X N scope C s2 H2 fp).fs:=λz=>by
  obtain⟨_,o,ho,_⟩:=I2.stack.mem z;have:=ay ho;rw[<-eD]at this;exact dv _ this
 have loop:∀s3:Shared,s3={s2 with heap:=cq,toks:=s2.toks+([]:List (Str×Value)).length} ->
   codeAny (model X.prog X.w) X.A (.compLoop (.ListComp elt [⟨tg,iter,ifs,0⟩] scope pos) 0 (.ref it) (.ref D) (bQ X N scope C s2 H2 fp).env) (compPost (model X.prog X.w) X.A X.xe use Q' (.ref D) C) s3:=by
  rintro s3 rfl
  refine Br (λn s'=>∃i acc bh H' ai nn,Inv (bQ X N scope C s2 H2 fp) [] bh H' s'/\tn i s'.heap/\(∀b∈fp,H' b=none)/\H' D=none/\s'.heap.get? D=some {cls:=.type "list",data:=.seq ai.toArray nn}/\Vals acc ai/\W i n acc bh H') ?_ m0
   ⟨0,[],_,H2,[],0,I3 _,T.keep _ _ _ dk λb iu o e=>old b o e,λb iu=>(f2 b iu).1,I2.hok.fresh (iK eD),Vg,.nil,w0⟩
  rintro n s4 ⟨i,acc,Kf,H4,ai,nn,I4,GB,Xk,Y2,DN,hv,w4⟩
  have QY:Inv (bQ X N scope C s2 H2 fp) [(D,{cls:=.type "list",data:=.seq ai.toArray nn})] Kf H4 s4:=I4.kj λp hp=>by
   have e:p=(D,{cls:=.type "list",data:=.seq ai.toArray nn}):=by simpa using hp
   subst e;exact⟨DN,Y2,TL,Y1,λv=>by simp⟩
  have Ec:∀p∈[(D,({cls:=.type "list",data:=.seq ai.toArray nn}:Obj))],p.1=D:=λp hp=>by
   have e:p=(D,{cls:=.type "list",data:=.seq ai.toArray nn}):=by simpa using hp
   rw[e]
  rcases nQ i n acc Kf H4 w4 with⟨stop,hz,q⟩ | ⟨go,hz,step⟩
  ·refine thn (T.done (bQ X N scope C s2 H2 fp) rfl rfl rfl hc i _ s4 Kf H4 _ QY (xO Xk Ec) GB stop) λr s5 ⟨hr,I5⟩=>?_
   subst hr;obtain⟨m,hn,_⟩:=I5.loc;have pD:=I5.pin (D,{cls:=.type "list",data:=.seq ai.toArray nn}) (d6 _ (iB.mpr rfl))
   have Ir:∀b o,s2.heap.get? b=some o->b≠D/\b≠C:=λb o e=>by
    have:=ay e;rw[eD]at this;exact⟨aJ this,aJ (bN this Eb)⟩
   have Kh:X.env.locals≠D/\X.env.locals≠C:=by
    have:=I2.lt;rw[eD]at this;exact⟨aJ this,aJ (bN this Eb)⟩
   have I6:=I2.J4 I5.os I5.base I5.hok I5.bare λb iu=>⟨(f2 b iu).2.2.2.1,(f2 b iu).2.1,(f2 b iu).2.2.2.2.1,(f2 b iu).2.2.2.2.2⟩
   have I7:=Inv.adopt (o:=.lst acc) I6 pD.2.1 (aD I2.sz (iK eD)) (bA Kh.1) (λx c e=>let ⟨v,o,ho,_⟩:=I2.cell x c e;(Ir c o ho).1)
    (λp hp=>(Ir p.1 p.2 (I2.pin p hp).1).1) ⟨hz,ai,nn,hv,pD.1⟩
   exact Vf s5 D C _ m I7 (q D pD.2.1) hn ⟨by rw[aI (bA TL)];exact I5.free,aD (aD I2.sz (iK eD)) Eb,bA Kh.2,λx c e=>let ⟨v,o,ho,_⟩:=I2.cell x c e;(Ir c o ho).2,λp hp=>(Ir p.1 p.2 (I2.pin p hp).1).2⟩
  ·refine thn (T.item (bQ X N scope C s2 H2 fp) rfl rfl rfl hc i _ s4 Kf H4 _ QY (xO Xk Ec) GB go) λr s5 ⟨u,hr,h5⟩=>?_
   subst hr;refine thn h5 λ_ Xl z9=>?_
   obtain⟨x,H5,I5,r5,y5,LI,Uy⟩:=z9;have Uz:=I5.pinned (xO Uy Ec) (T.obj _ _ LI);have i8:∀{o:Option V} {Tn:St} {H6:Hp} {s6:Shared},Inv (bQ X N scope C s2 H2 fp) ([(D,{cls:=.type "list",data:=.seq ai.toArray nn})]++nT fp Xl.heap) Tn H6 s6 ->
     tn (i+1) s6.heap/\(∀b∈fp,H6 b=none)/\H6 D=none/\s6.heap.get? D=some {cls:=.type "list",data:=.seq ai.toArray nn}:=λ{o Tn H6 s6} I6=>by
    have pD:=I6.pin (D,_) (d6 _ (nh _ (iB.mpr rfl)));refine⟨T.keep _ _ _ LI λb iu o e=>(I6.pin (b,o) (d6 _ (d6 _ (gU iu e)))).1,λb iu=>?_,pD.2.1,pD.1⟩
    obtain⟨o,e,d⟩:=T.obj _ _ LI b iu;exact(I6.pin (b,o) (d6 _ (d6 _ (gU iu e)))).2.1
   refine nK (hb C s2 H2 fp _ Xl Kf H5 x u _ Uz r5 (step x H5 y5)) (λ_ s6 h6=>nK h6 (λok s7 h7=>?_) λ_ _ z=>False.elim z) λ_ _ z=>False.elim z
   cases ok with
   | false =>
    rw[if_neg cE]at h7 ⊢;obtain⟨TM,H8,I8,m',Ed,w8⟩:=h7;obtain⟨a1,a2,a3,a4⟩:=i8 (o:=none) I8;exact⟨m',Ed,i+1,_,TM,H8,ai,nn,I8.kj (λp hp=>by cases hp),a1,a2,a3,a4,by simpa using hv,w8⟩
   | true =>
    rw[if_pos rfl]at h7 ⊢;refine nK h7 (λy s8 z9=>?_) λ_ _ z=>False.elim z
    obtain⟨v8,TM,H8,I8,r8,m',Ed,w8⟩:=z9;obtain⟨a1,a2,a3,a4⟩:=i8 (o:=some v8) I8;have hl:=hv.length;refine dw F.slot_list_append ⟨_,a4,rfl⟩ F.entry_list_append (F.args_list_append_2 _ _) (PySem.list_append D ai.toArray nn y (by rw[bO];lia)) ⟨a4,?_⟩
    have I9:Inv (bQ X N scope C s2 H2 fp) [] TM H8 s8:=I8.kj (λp hp=>by cases hp)
    have qq:=PySem.IsL.update a4 λz=>z.push y
    have hp:ai.toArray.push y=(ai++[y]).toArray:=by simp
    rw[hp]at qq;refine⟨m',Ed,i+1,_,TM,H8,ai++[y],_,I9.turned (λb o zS e=>(ix _ _ (bA zS)).trans e) a3 TL (.inr (iK eD)) QX (λp hp=>by simp[bQ]at hp),T.keep _ _ _ a1 λb iu o e=>(ix _ _ (bA (Xj b iu))).trans e,a2,a3,qq,hv.append (.cons r8 .nil),w8⟩
 exact codeAny_compStart_list (loop _ rfl) (T.self _ 0 _ _ _ (T.keep _ _ _ dk λb iu o e=>old b o e) (loop _ rfl))
def zU(hc:X.calm=true)(S:gA X N link scope)(hi:PI X tg iter wi)
  (hb:∀(C:Addr) (s:Shared) (H:Hp) (fp:List Addr),PB (bQ X N scope C s H fp) tg ifs elt tb) (hs:∀x,foldedSetIterable iter X.env x=pure x:=by intro _;rfl) :
  PE X (.ListComp elt [⟨tg,iter,ifs,0⟩] scope pos) (qK link wi tb):=by
 intro ae s σ H Q I h;rw[eval_ListComp];refine qL hc S hi hb hs I h λs5 D C H5 m I5 q hn L=>⟨m,hn,λh' sb=>?_⟩
 exact⟨.ref D,H5,I5.turned (λb o zS e=>(sb.2 b zS).trans e) L.free L.loc (.inr L.above) L.cell L.pin,rfl,q⟩
def zV(hc:X.calm=true)(hN:X.N.Nodup)(hx:X.N[i]?=some x)(hl:X.env.scope.names.lookup x=some .local)(S:gA X N link scope)(hi:PI X tg iter wi)
  (hb:∀(C:Addr) (s:Shared) (H:Hp) (fp:List Addr),PB (bQ X N scope C s H fp) tg ifs elt tb) (hw:swapsWith (.ListComp elt [⟨tg,iter,ifs,0⟩] scope pos) (some (.Name x pM)) Bs.line X.env=pure true) (hs:∀x,foldedSetIterable iter X.env x=pure x:=by intro _;rfl) :
  PS X (.Assign [.Name x pM] (.ListComp elt [⟨tg,iter,ifs,0⟩] scope pos) Bs) (He (qK link wi tb) (gName i)):=by
 intro ae s σ H D I h;rw[exec_Assign_Name_used _ _ _ _ hw];refine af (sJ (af ?_));refine af (thn (qL hc S hi hb hs I h λs5 a C H5 m I5 q hn L=>?_) λ_ s' q=>ag (ag q))
 refine wpAny_assign_Name (store_ok2 (v:=.ref a) I5 hN hx (.inl hl) rfl (λs6 I6 k=>?_) (.inr hl))
 refine⟨m,?_,λh' sb=>?_⟩
 ·obtain⟨o,es,ep,ho,r⟩:=hn;obtain⟨b,Y3,Y4⟩:=k;have ne:C≠b:=λz=>by
   rcases Y4 with w | w
   ·exact L.loc (z.trans w)
   ·exact L.cell x b w z.symm
  exact⟨o,es,ep,(Y3.2 C ne).trans ho,r⟩
 ·exact⟨_,H5,I6.turned (λb o zS e=>(sb.2 b zS).trans e) L.free L.loc (.inr L.above) L.cell L.pin,q⟩
def dg(link:List (Option Nat))(ρ:List (Option PV)):List (Option PV):=link.map λo=>o.bind λj=>(ρ[j]?).join
def KG(L:List Nat)(g:Tg):Prop:=∀p st aL,g p st=some aL->aL.ρ.length=st.ρ.length/\∀j:Nat,j∉L->aL.ρ[j]?=st.ρ[j]?
def QZ(L:List Nat)(g:O5):Prop:=∀p st aL,g p st=some aL->aL.ρ.length=st.ρ.length/\∀j:Nat,j∉L->aL.ρ[j]?=st.ρ[j]?
def Iu(i:Nat):KG [i] (di i):=λp st aL h=>by
 obtain⟨_,rfl⟩:=ax h;exact⟨sx,λj hj=>jy (λz=>hj (by simp[z]))⟩
def Iv:QZ [] td:=λp st aL h=>by
 cases p with
 | nil=>cases h;exact⟨rfl,λ_ _=>rfl⟩
 | cons _ _=>cases h
def Ee(h1:KG L g)(h2:QZ M r):QZ (L++M) (fZ g r):=λp st aL h=>by
 cases p with
 | nil=>cases h
 | cons p ps =>
  obtain⟨dk,e1,e2⟩:=aE h;obtain⟨l1,k1⟩:=h1 p st dk e1;obtain⟨l2,k2⟩:=h2 ps dk aL e2;exact⟨l2.trans l1,λj hj=>(k2 j λz=>hj (d6 _ z)).trans (k1 j λz=>hj (nh _ z))⟩
def MO(h:QZ L r):KG L (pU n r):=λp st aL e=>by
 unfold pU at e;split at e
 ·obtain⟨_,e⟩:=bE e;exact h _ st aL e
 ·obtain⟨_,e⟩:=bE e;exact h _ st aL e
 ·cases e
section
variable {K:W.Frag} {F:Fz} {ρ:List (Option PV)} {σ:St}
def Lc.ib(L:Lc K F ρ σ)(link:List (Option Nat)):Lc K F (dg link ρ) (ib link σ) where
 av:=λi p e=>by
  unfold dg at e;rw[bR]at e;cases z:link[i]? with
  | none=>rw[z]at e;cases e
  | some o =>
   rw[z]at e;cases o with
   | none=>cases e
   | some j =>
    have e:(ρ[j]?).join=some p:=bt e;cases w:ρ[j]? with
    | none=>rw[w]at e;cases e
    | some q =>
     rw[w]at e;cases e;obtain⟨v,h1,h2⟩:=L.av j p w;refine⟨v,?_,h2⟩;unfold L2.U.ib;rw[bR,z];show some ((σ[j]?).join)=_;rw[h1];rfl
 len:=by unfold dg L2.U.ib;rw[ak,ak]
def Lc.back{L:List Nat}(R:Lc K F Vh σ)(hl:Vi.length=σ.length)(h0:Vi=dg link ρ)(hk:∀j:Nat,j∉L->Vh[j]?=Vi[j]?)(hL:∀i∈L,link[i]?=some none):Lc K F Vi σ where
 av:=λi p e=>by
  refine R.av i p ?_;rw[hk i λhi=>?_]
  ·exact e
  ·rw[h0]at e;unfold dg at e;rw[bR,hL i hi]at e;cases e
 len:=hl
end
def Vj{α:Type}:Rs α×bT->Option (α×List ah)
 | (.ok a,st)=>some (a,st.h)
 | _=>none
abbrev Bd:=List (Option PV)->PV->List ah->Option (Option PV×List ah)
def om(g:Tg)(fe:Gx PV):Bd:=λρ p h=>(g p ⟨ρ,h⟩).bind λaL=>(fe aL).bind λr=>(Vj r).map λx=>(some x.1,x.2)
def Ef(g:Tg)(ft:Gx Bool)(fe:Gx PV):Bd:=λρ p h=>(g p ⟨ρ,h⟩).bind λaL=>(ft aL).bind λr=>match r with
 | (.ok b,dk)=>if b=true then(fe dk).bind λr=>(Vj r).map λx=>(some x.1,x.2)else some (none,dk.h)
 | _=>none
def gB(bd:PV->List ah->Option (Option PV×List ah)):List PV->List ah->Option (List PV×List ah)
 | [],h=>some ([],h)
 | p::ps,h=>(bd p h).bind λr=>(gB bd ps r.2).map λs=>(r.1.toList++s.1,s.2)
section
variable {X:Cx} {aa:Hp} {ab:Fz} {N:List Str} {link:List (Option Nat)} {scope:Scope} {tg iter elt c:Expr} {pos:Pos} {fi:Gx (List PV)} {g:Tg} {fe:Gx PV} {ft:Gx Bool} {L:List Nat} {cl:Bool}
def vp(e:Vj r=some (a,h)):∃st,r=(.ok a,st)/\st.h=h:=by
 obtain⟨r,st⟩:=r;cases r with
 | ok x=>cases e;exact⟨st,rfl,rfl⟩
 | ex m C=>cases e
def _root_.L2.U.PB.imp(h:PB Y tg ifs elt tb)(i:∀v σ H Q,Y5 v σ H Q->tb v σ H Q):PB Y tg ifs elt Y5:=λae s σ H v u Q I r w=>h ae s σ H v u Q I r (i _ _ _ _ w)
def Xm(X:Cx)(aa:Hp)(ab:Fz)(g:Tg)(fe:Gx PV):TB:=λv σ H Q=>tG X.K aa ab g v σ H λgT H1=>∀Y:Cx,Y.K=X.K->tE Y aa ab fe gT H1 λy H2=>Q (some y) gT H2
def Xn(X:Cx)(aa:Hp)(ab:Fz)(g:Tg)(ft:Gx Bool)(fe:Gx PV):TB:=λv σ H Q=>tG X.K aa ab g v σ H λgT H1=>∀Y:Cx,Y.K=X.K->tT Y aa ab ft gT H1 λt H2=>if t=true then tE Y aa ab fe gT H2 λy H3=>Q (some y) gT H3 else Q none gT H2
section
variable (ht:∀(C:Addr) (s:Shared) (H:Hp) (fp:List Addr),PG (bQ X N scope C s H fp) tg (tG X.K aa ab g)) (he:∀(C:Addr) (s:Shared) (H:Hp) (fp:List Addr),PE (bQ X N scope C s H fp) elt (tE (bQ X N scope C s H fp) aa ab fe))
include ht he
def Xo(C:Addr)(s:Shared)(H:Hp)(fp:List Addr):PB (bQ X N scope C s H fp) tg [] elt (Xm X aa ab g fe) :=
 (Ea (ht C s H fp) (he C s H fp)).imp (by rintro v σ H Q ⟨F,st,p,bK,R,b,e,q⟩;exact⟨F,st,p,bK,R,b,e,λbh H' F' R' g'=>q bh H' F' R' g' _ rfl⟩)
def Xp(hw:∀(C:Addr) (s:Shared) (H:Hp) (fp:List Addr),PT (bQ X N scope C s H fp) c (tT (bQ X N scope C s H fp) aa ab ft))(C:Addr)(s:Shared)(H:Hp)(fp:List Addr):PB (bQ X N scope C s H fp) tg [c] elt (Xn X aa ab g ft fe) :=
 (Iq (ht C s H fp) (hw C s H fp) (he C s H fp)).imp (by rintro v σ H Q ⟨F,st,p,bK,R,b,e,q⟩;exact⟨F,st,p,bK,R,b,e,λbh H' F' R' g'=>q bh H' F' R' g' _ rfl⟩)
end
def mU(h:tS X aa ab (n6 fe (di i)) D σ H):tE X aa ab fe σ H λv H1=>D.nx (σ.set i (some v)) H1:=by
 obtain⟨F,st,R,h⟩:=h;refine⟨F,st,R,h.bnd λp v F1 aL H1 R1 g1 b1 h1=>?_⟩
 obtain⟨bK,e,z⟩:=h1.stp;obtain⟨hi,rfl⟩:=ax e;exact z F1 _ H1 ⟨R1.c,R1.l.set hi b1⟩ (Gr.refl _)
end
def SI(h:Heap)(it l:Addr)(k:Nat)(xs:Array Value):Prop:=(h.IsListIter it l k/\h.IsList l xs)\/(h.IsTupleIter it l k/\h.IsTuple l xs)
def SI.at{h h':Heap}{it l:Addr}{k:Nat}{xs:Array Value}(x:SI h it l k xs)(h1:∀o,h.get? it=some o->h'.get? it=some o)(h2:∀o,h.get? l=some o->h'.get? l=some o):SI h' it l k xs:=by
 rcases x with⟨⟨o,e,r⟩,⟨o',e',r'⟩⟩ | ⟨⟨o,e,r⟩,⟨o',e',r'⟩⟩
 ·exact .inl ⟨⟨o,h1 o e,r⟩,⟨o',h2 o' e',r'⟩⟩
 ·exact .inr ⟨⟨o,h1 o e,r⟩,⟨o',h2 o' e',r'⟩⟩
def SI.Ki{h:Heap}{it l:Addr}{k:Nat}{xs:Array Value}(x:SI h it l k xs):∃o,h.get? it=some o/\∃vs,o.data=.fields vs:=by
 rcases x with⟨⟨o,e,_,d⟩,_⟩ | ⟨⟨o,e,_,d⟩,_⟩
 ·grind
 ·grind
def SI.sq{h:Heap}{it l:Addr}{k:Nat}{xs:Array Value}(x:SI h it l k xs):∃o n,h.get? l=some o/\o.data=.seq xs n:=by
 rcases x with⟨_,⟨o,e,_,n,d⟩⟩ | ⟨_,⟨o,e,_,n,d⟩⟩
 ·grind
 ·grind
def SI.ne{h:Heap}{it l:Addr}{k:Nat}{xs:Array Value}(x:SI h it l k xs):l≠it:=λz=>by
 obtain⟨o,e,vs,d⟩:=x.Ki;obtain⟨o',n,e',d'⟩:=x.sq;subst z;rw[e]at e';cases e';rw[d]at d';cases d'
section
variable {prog:Program} {w:World} {A:Around} {E:Value->Shared->Prop} {s:Shared}
def yo{it t:Addr}{i:Nat}{ai:Array Value}{x:Value}{Q:Value->Shared->Prop}(MP:s.heap.IsTupleIter it t i)(ht:s.heap.IsTuple t ai)(hx:ai[i]?=some x)
  (hQ:∀h',h'.IsTupleIter it t (i+1)->Heap.SameBut it s.heap h'->Q x {s with heap:=h'}):wpAny (model prog w) A (Builtin.SmallTypes.nextOf (.ref it)) Q E s:=by
 obtain⟨o,ho,hc,hd⟩:=id MP;obtain⟨ol,jk,_,nl,Kj⟩:=ht;refine af (dJ MP.typeIs rN (dt rN MP.typeIs CL (by
  show wpAny _ _ (field (.ref it) 0 >>= _) _ _ s;refine af (bu ho hd rfl ?_);show wpAny _ _ (if(Value.ref t==Value.none)=true then _ else _) _ _ s
  rw[if_neg (show ¬((Value.ref t==Value.none)=true)from cE)]
  show wpAny _ _ (field (.ref it) 1 >>= _) _ _ s;refine af (bu ho hd (x:=.int i 0) rfl ?_);show wpAny _ _ (seqItems? (.ref t) >>= _) _ _ s;refine af (cN jk Kj ?_);simp only[lu,hx];refine af (wpAny_setField ho hd (by simp) (ag ⟨x,rfl,ag (hQ _ ⟨_,iz _ ho (Obj.isFreed_of_fields (Obj.data_mapFields hd _)),(Obj.cls_mapFields ..).trans hc,by rw[Obj.data_mapFields hd];simp[rawInt]⟩ (w9 ..))⟩))) (CK _)))
def yp{it t:Addr}{i:Nat}{ai:Array Value}{Q:Value->Shared->Prop}(hh:A.handled=none)(MP:s.heap.IsTupleIter it t i)(ht:s.heap.IsTuple t ai)(hx:ai[i]?=none)
  (hE:∀h' e,Heap.ExtBut it s.heap h'->(∃o,h'.get? e=some o/\o.cls=.type "StopIteration")->E (.ref e) {s with heap:=h'}):wpAny (model prog w) A (Builtin.SmallTypes.nextOf (.ref it)) Q E s:=by
 obtain⟨o,ho,hc,hd⟩:=id MP;obtain⟨ol,jk,_,nl,Kj⟩:=ht;refine af (dJ MP.typeIs rN (dt rN MP.typeIs CL (by
  show wpAny _ _ (field (.ref it) 0 >>= _) _ _ s;refine af (bu ho hd rfl ?_);refine af (bu ho hd (x:=.int i 0) rfl ?_);show wpAny _ _ (seqItems? (.ref t) >>= _) _ _ s;refine af (cN jk Kj ?_);simp only[lu,hx];refine af (gm (af (wpAny_setField ho hd (by simp) ?_)))
  show wpAny _ _ (newExc (.type "StopIteration") [] >>= _) _ _ _;refine af ?_;simp only[newExc,newTuple];refine af (jC ?_ (by size_fits))
  refine af (m:=firstArgMember _ _) (wpAny_of_eq (a:=Value.none) (by first | rfl | (simp only[firstArgMember];rfl)) ?_)
  refine jC ?_ (by size_fits)
  simp only[raiseNew];refine af (wpAny_handled ?_)
  first | rw[show A.in1.handled=none from hh] | rw[hh]
  exact af (ag (wpAny_throw (hE _ _ (((w9 ..).extBut.push _).push _) ⟨_,aY _ rfl,rfl⟩)))) (CK _)))
def SI.next{it l:Addr}{k:Nat}{xs:Array Value}{x:Value}{Q:Value->Shared->Prop}(hi:SI s.heap it l k xs)(hx:xs[k]?=some x)(hQ:∀h',SI h' it l (k+1) xs->Heap.SameBut it s.heap h'->Q x {s with heap:=h'}) :
  wpAny (model prog w) A (Builtin.SmallTypes.nextOf (.ref it)) Q E s:=by
 have ne:=hi.ne;rcases hi with⟨h1,h2⟩ | ⟨h1,h2⟩
 ·exact wpAny_nextOf_list_item h1 h2 hx λh' a b=>hQ h' (.inl ⟨a,h2.extBut b.extBut ne⟩) b
 ·exact yo h1 h2 hx λh' a b=>hQ h' (.inr ⟨a,h2.extBut b.extBut ne⟩) b
def SI.stop{it l:Addr}{k:Nat}{xs:Array Value}{Q:Value->Shared->Prop}(hh:A.handled=none)(hi:SI s.heap it l k xs)(hx:xs[k]?=none)
  (hE:∀h' e,Heap.ExtBut it s.heap h'->(∃o,h'.get? e=some o/\o.cls=.type "StopIteration")->E (.ref e) {s with heap:=h'}):wpAny (model prog w) A (Builtin.SmallTypes.nextOf (.ref it)) Q E s:=by
 rcases hi with⟨h1,h2⟩ | ⟨h1,h2⟩
 ·exact wpAny_nextOf_list_end hh h1 h2 hx hE
 ·exact yp hh h1 h2 hx hE
end
def nl{a b:Nat}(h:a<b):@Ne Addr a b:=aJ h
section
variable {prog:Program} {w:World} {A:Around} {E:Value->Shared->Prop} {s:Shared} {z TI TO i1 i2 l1 l2:Nat} {k:Nat} {xs ys:Array Value}
def gC(h:Heap)(l:Addr)(xs:Array Value)(c:String):Prop:=(c="list_iterator"/\h.IsList l xs)\/(c="tuple_iterator"/\h.IsTuple l xs)
def jc{l:Addr}{xs:Array Value}{c:String}{Q:Value->Shared->Prop}(h:gC s.heap l xs c)(hQ:Q (.ref s.heap.objs.size) {s with heap:=s.heap.push {cls:=.type c,data:=.fields #[.ref l,.int 0 0]}}):wpAny (model prog w) A (pyIter (.ref l)) Q E s:=by
 rcases h with⟨rfl,h⟩ | ⟨rfl,h⟩
 ·exact lx h hQ
 ·exact xf h hQ
end
def mV(K:W.Frag)(H:Hp)(c:Bool)(l:Addr)(vs:List V):Prop:=if c=true then sS K H l vs else fA K H l vs
def zW(h:Heap)(c:Bool)(it l:Addr)(k:Nat):Prop:=if c=true then h.IsListIter it l k else h.IsTupleIter it l k
def jl(c:Bool):String:=if c=true then "list_iterator" else "tuple_iterator"
section
variable {X:Cx} {ae:List (Addr×Obj)} {σ:St} {H:Hp} {s:Shared}
def mV.get(I:Inv X ae σ H s){c:Bool}{l:Addr}{vs:List V}(h:mV X.K H c l vs):∃ai:List Value,Vals vs ai/\gC s.heap l ai.toArray (jl c):=by
 unfold jl;cases c with
 | true =>
  obtain⟨ai,r,pl,_⟩:=I.list (h);exact⟨ai,r,.inl ⟨rfl,pl.isList⟩⟩
 | false =>
  obtain⟨ai,r,pl,_⟩:=I.tuple (h);exact⟨ai,r,.inr ⟨rfl,pl⟩⟩
def mV.inj(I:Inv X ae σ H s){c:Bool}{l:Addr}{vs ws:List V}(h:mV X.K H c l vs)(h':mV X.K H c l ws):vs=ws:=by
 cases c with
 | true=>exact I.km h h'
 | false=>exact I.i9 h h'
def jt{h:Heap}{c:Bool}{it l:Addr}{k:Nat}{xs:Array Value}(h1:zW h c it l k)(h2:gC h l xs (jl c)):SI h it l k xs:=by
 cases c with
 | true =>
  rcases h2 with⟨_,q⟩ | ⟨q,_⟩
  ·exact .inl ⟨h1,q⟩
  ·exact absurd q (by decide)
 | false =>
  rcases h2 with⟨q,_⟩ | ⟨_,q⟩
  ·exact absurd q (by decide)
  ·exact .inr ⟨h1,q⟩
def kK{h:Heap}{c:Bool}{it l:Addr}{k k':Nat}{xs:Array Value}{h0:Heap}(h1:SI h it l k xs)(h2:gC h0 l xs (jl c))(kp:∀o,h0.get? l=some o->h.get? l=some o):zW h c it l k:=by
 cases c with
 | true =>
  rcases h2 with⟨_,⟨o,e,hc,_⟩⟩ | ⟨q,_⟩
  ·rcases h1 with⟨a,_⟩ | ⟨_,⟨o',e',CA,_⟩⟩
   ·exact a
   ·grind
  ·exact absurd q (by decide)
 | false =>
  rcases h2 with⟨q,_⟩ | ⟨_,⟨o,e,hc,_⟩⟩
  ·exact absurd q (by decide)
  ·rcases h1 with⟨_,⟨o',e',CA,_⟩⟩ | ⟨a,_⟩
   ·grind
   ·exact a
def Inv.turns{t':Nat}{h':Heap}{ch:List Addr}(I:Inv X ae σ H s)(hf:∀b∈ch,nR X ae H b)(kp:∀b o,b∉ch->s.heap.get? b=some o->h'.get? b=some o):Inv X ae σ H {s with heap:=h',toks:=t'}:=by
 have PH:∀b u,H b=some u->b∉ch:=λb u e z=>by rw[(hf b z).1]at e;cases e
 refine I.step (λb hb=>⟨(hf b hb).2.2.2.1,(hf b hb).2.1,(hf b hb).2.2.2.2.1,(hf b hb).2.2.2.2.2⟩) (λb o _ _ hc e _=>kp b o hc e) (λb o _ _ hc e _=>⟨o.slots,kp b o hc e⟩) (λ_ _ _ _ n=>n)
  (λb o hc e=>⟨o,kp b o hc e⟩) (λ_ _ e=>e) (λ_ _ _ e=>e) (λ_ _ e=>e) (λm hm=>?_) (λb u e=>?_) I.bare
 ·obtain⟨o,es,ep,ho,r⟩:=hm;exact⟨o,es,ep,kp _ o (λz=>(hf _ z).2.1 rfl) ho,r⟩
 ·refine(I.hok b u e).uJ (λc v hc q=>kp c v ?_ q) (λ_ q=>q) (λ_ _ q=>q) λ_ _ _ q=>q
  rcases hc with z | z
  ·rw[z];exact PH b u e
  ·exact PH c _ z
end
def zW.at{h h':Heap}{c:Bool}{it l:Addr}{k:Nat}(x:zW h c it l k)(h1:∀o,h.get? it=some o->h'.get? it=some o):zW h' c it l k:=by
 cases c with
 | true =>
  obtain⟨o,e,r⟩:=(x);exact(⟨o,h1 o e,r⟩)
 | false =>
  obtain⟨o,e,r⟩:=(x);exact(⟨o,h1 o e,r⟩)
def zW.obj{h:Heap}{c:Bool}{it l:Addr}{k:Nat}(x:zW h c it l k):∃o,h.get? it=some o/\∀v,o.data≠.cell v:=by
 unfold zW at x;split at x
 ·obtain⟨o,e,_,d⟩:=x;exact⟨o,e,λv=>by grind⟩
 ·obtain⟨o,e,_,d⟩:=x;exact⟨o,e,λv=>by grind⟩
def Eg{prog:Program}{w:World}{A:Around}{it l:Addr}{xs:Array Value}(hh:A.handled=none):Draws prog w A it [it,l] xs.size (λi x=>xs[i]?=some x) (λi h=>SI h it l i xs) where
 live:=λi h st=>by
  obtain⟨o,e,_⟩:=st.Ki;exact⟨o,e⟩
 frame:=λi h h' st k=>st.at (λo e=>k it (by simp) o e) (λo e=>k l (by simp) o e)
 item:=λi s Q E hi st hQ=>SI.next st (m6 hi) λh' a b=>hQ _ h' s.toks (m6 hi) a b
 done:=λs Q E st hE=>SI.stop hh st (gJ (ar _)) hE
set_option maxHeartbeats 2000000 in
theorem Eh(l:Addr)(xs:Array Value)(c:String)(part:Obj) :
  Meets (Builtin.«enumerate.__new__» ⟨[.type "enumerate",.ref l],[]⟩) (λ_ R s=>gC s.heap l xs c/\s.heap.get? l=some part /\
   ∀h1 h2:Heap,h1=s.heap.push {cls:=.type c,data:=.fields #[.ref l,.int 0 0]}->h2=h1.push {cls:=.type "enumerate",data:=.fields #[.none,.bool false,.ref s.heap.objs.size,rawInt 0,.none,.none]}->R (.ok (.ret (.ref h1.objs.size))) {s with heap:=h2}) :=
 .of_wp λprog w A R s h=>by
  obtain⟨hp,g,d,tk,os⟩:=s;obtain⟨hl,hpt,h⟩:=h;have hL:gC (Shared.heap ⟨hp,g,d,tk,os⟩) l xs c:=hl;have tK:=sub_enumerate;rcases hl with⟨rfl,⟨o,e,hc,n,hd⟩⟩ | ⟨rfl,⟨o,e,hc,n,hd⟩⟩
  ·obtain⟨oc,od,Vk,Hv⟩:=o;replace hc:oc=.type "list":=hc;replace hd:Vk=.seq xs n:=hd
   wp_walk using iw e
   refine wpAny_stack_any λst=>ag ?_
   split
   ·rename_i c' _ _ _ _ _;cases(c'==Value.type "enumerate")<;>(wp_walk using iw e,jc hL)<;>exact⟨_,rfl,h _ _ rfl rfl⟩
   ·wp_walk using iw e,jc hL
    exact⟨_,rfl,h _ _ rfl rfl⟩
  ·obtain⟨oc,od,Vk,Hv⟩:=o;replace hc:oc=.type "tuple":=hc;replace hd:Vk=.seq xs n:=hd
   wp_walk using iw e
   refine wpAny_stack_any λst=>ag ?_
   split
   ·rename_i c' _ _ _ _ _;cases(c'==Value.type "enumerate")<;>(wp_walk using iw e,jc hL)<;>exact⟨_,rfl,h _ _ rfl rfl⟩
   ·wp_walk using iw e,jc hL
    exact⟨_,rfl,h _ _ rfl rfl⟩
def Iw{prog:Program}{w:World}{A:Around}{E:Value->Shared->Prop}{s:Shared}{e it l:Addr}{k:Nat}{i:Int}{xs:Array Value}{old:Value}{Q:Option Value->Shared->Prop}(hh:A.handled=none)(a1:IsEnum s.heap e it i old)(st:SI s.heap it l k xs)(hx:xs[k]?=none)(hQ:∀h',Heap.ExtBut it s.heap h'->Q none {s with heap:=h'}):wpAny (model prog w) A (pyNext (.ref e)) Q E s:=by
 have ty:s.TypeIs (.ref e) "enumerate":=⟨_,a1,rfl⟩;unfold pyNext;refine af (gN (dJ ty F.slot_enumerate_next (dt F.slot_enumerate_next ty F.entry_enumerate_next (by
  show wpAny _ _ (field (.ref e) 2 >>= _) _ _ _;refine af (bu a1 rfl rfl (af (SI.stop hh st hx λh' y sb ⟨o,ho,hc⟩=>?_)))
  exact af (nA ⟨o,ho,hc⟩ nF (ag (hQ _ sb)))) (F.args_enumerate_next_1 _))))
def Xq(K:W.Frag)(c:Bool)(l:Addr):It where
 go:=λi H=>∃vs v,mV K H c l vs/\vs[i]?=some v
 yld:=λi H x H'=>∃T v,H T=none/\x=.ref T/\H'=bZ H T (.aq [.int i,v])/\∀vs,mV K H c l vs->vs[i]?=some v
 stop:=λi H=>∃vs,mV K H c l vs/\vs.length<=i
def Y6(e it l:Nat)(c:Bool)(i:Nat)(h:Heap):Prop:=(∃old,IsEnum h e it i old)/\zW h c it l i
def Iy{P:Program}{w:World}{K:W.Frag}{elts:List Expr}{x1:Nat}{sU:Pos}{e it l:Nat}{c:Bool}(ord:it<e)(o1:l<it) :
  Turn P w K (.Tuple elts x1 sU) (Xq K c l) [e,it] e (Y6 e it l c) where
 mem:=dc
 obj:=by
  rintro i h ⟨⟨_,a1⟩,a2⟩ b hb
  simp only[aX,bH,bJ]at hb;rcases hb with rfl | rfl
  ·exact⟨_,a1,λv=>by simp⟩
  ·exact a2.obj
 keep:=(by rintro i h h' ⟨⟨old,a1⟩,a2⟩ k;exact⟨⟨old,k e (by simp) _ a1⟩,a2.at λo x=>k it (by simp) o x⟩)
 item:=by
  rintro X hP hw hK hc i ae s σ H E I hf ⟨⟨old,a1⟩,a2⟩ ⟨vs,v,hv,ev⟩
  subst hP hw hK;obtain⟨ai,r1,k1⟩:=hv.get I;obtain⟨x,ex,rx⟩:=r1.get ev;have ne:e≠it:=lI ord;have Xr:e≠l:=lI (gO o1 ord);have Kj:X.A.in1.handled=none:=I.ok.hd hc;refine wpAny_pyNext_enum_itemD (Eg (xs:=ai.toArray) (l:=l) Kj) a1 (jt a2 k1) (by
   have:=(dI.mp ex).1;simpa using this) ne (by simp[ne,Xr]) λx' h' tk qJ hO st hT O6 kp=>⟨_,rfl,?_⟩
  have xe:x'=x:=by
   have e1:ai.toArray[i]?=some x:=by simpa using ex
   rw[e1]at qJ;cases qJ;rfl
  subst xe;refine wpAny_letOwnedTupleGo_enum hO λMQ Vl sb=>?_
  have Kk:∀b∈[e,it],b<s.heap.objs.size:=λb hb=>by
   simp only[aX,bH,bJ]at hb;have h1:e<s.heap.objs.size:=ay a1;rcases hb with rfl | rfl<;>lia
  have eT:e≠s.heap.objs.size:=aJ (Kk e (by simp))
  have MR:∀b o,b∉[e,it]->s.heap.get? b=some o->MQ.get? b=some o:=λb o hb z=>by
   simp only[aX,bH,bJ,not_or]at hb;exact sb.extBut _ _ hb.1 (kp b o hb.1 hb.2 z)
  have I1:Inv X ae σ H {s with heap:=MQ,toks:=tk+1}:=Inv.turns I hf MR
  have hn:H s.heap.objs.size=none:=I.fresh;have zX:=I.nS (H':=H) (ar _) hn;have pr:MQ.get? s.heap.objs.size=some {cls:=.type "tuple",data:=.seq #[.int i tk,x']}:=sb.extBut _ _ (bA eT) hT
  have I2:=Inv.adopt (D:=s.heap.objs.size) (o:=.aq [.int i,v]) I1 hn (by
    rcases zX.2.2.2.1 with q | q
    ·exact I.sz
    ·exact q) zX.2.1 zX.2.2.2.2.1 zX.2.2.2.2.2 ⟨(by show 2<=sizeLine;decide),[.int i tk,x'],.cons ⟨tk,rfl⟩ (.cons rx .nil),⟨_,pr,rfl,⟨0,rfl⟩,rfl⟩⟩
  refine⟨.ref s.heap.objs.size,_,I2,rfl,⟨s.heap.objs.size,v,hn,rfl,rfl,λuz h1=>?_⟩,⟨⟨_,Vl⟩,?_⟩,λb hb=>?_⟩
  ·rw[<-mV.inj I hv h1];exact ev
  ·have Y7:l≠it:=aJ o1;have q:=kK (k':=i) st k1 λo z=>kp l o (bA Xr) Y7 z
   exact q.at λo z=>sb.extBut _ _ (bA ne) z
  ·rw[aI (aJ (Kk b hb))];exact(hf b hb).1
 done:=by
  rintro X hP hw hK hc i ae s σ H E I hf ⟨⟨old,a1⟩,a2⟩ ⟨vs,hv,he⟩
  subst hP hw hK;obtain⟨ai,r1,k1⟩:=hv.get I;have hz:ai.toArray[i]?=none:=gJ (by rw[bO,<-r1.length];exact he)
  refine Iw (I.ok.hd hc) a1 (jt a2 k1) hz λh' sb=>⟨rfl,?_⟩
  exact Inv.turns (t':=s.toks) I hf λb o hb z=>by
   simp only[aX,bH,bJ,not_or]at hb;exact sb b o hb.2 z
 self:=(by rintro A i s Q E ⟨⟨_,a1⟩,_⟩ q;exact wpAny_pyIter_enum a1 q)
def Kl:Expr->Bool
 | .Tuple _ _ _=>true
 | _=>false
def mH:PV->Option (List PV)
 | .nd .aq ps=>some ps
 | .nd .lst ps=>some ps
 | _=>none
def dZ(p q:PV):PV:=.aq [p,q]
def iS{K:W.Frag}(h:mH p=some ps)(b:bc K F p x):∃c l vs,x=.ref l/\mV K F.F c l vs/\ao K F ps vs/\∀F',bU F.F F'->mV K F' c l vs:=by
 unfold mH at h;split at h
 ·cases h;obtain⟨l,vs,rfl,h1,h2⟩:=bg.mp b;exact⟨false,l,vs,rfl,h1,h2,λF' s=>aU s h1⟩
 ·cases h;obtain⟨l,vs,rfl,h1,h2⟩:=cw.mp b;exact⟨true,l,vs,rfl,h1.sq,h2,λF' s=>(gw s h1).sq⟩
 ·cases h
def Bt{K:W.Frag}(hs:sS K F.F a vs)(hb:ao K F ps vs):Walk K F ps (Tj K a):=by
 intro aa ab F' st σ H R s i;have hq:=(s.s.trans R.sub).seq hs;refine⟨λp e=>?_,λe=>?_⟩
 ·obtain⟨v,e1,b1⟩:=hb.get e;refine⟨⟨vs,v,hq,e1⟩,λx H' ⟨hH,y⟩=>?_⟩
  subst hH;have:=y vs hq;rw[e1]at this;cases this;exact⟨F',R,Gr.refl _,b1.mono s⟩
 ·refine⟨vs,hq,?_⟩;rw[<-hb.length];exact gg.mp e
def Ei{K:W.Frag}(hs:fA K F.F a vs)(hb:ao K F ps vs):Walk K F ps (Uv K a):=by
 intro aa ab F' st σ H R s i;have hq:=aU (s.s.trans R.sub) hs;refine⟨λp e=>?_,λe=>?_⟩
 ·obtain⟨v,e1,b1⟩:=hb.get e;refine⟨⟨vs,v,hq,e1⟩,λx H' ⟨hH,y⟩=>?_⟩
  subst hH;have:=y vs hq;rw[e1]at this;cases this;exact⟨F',R,Gr.refl _,b1.mono s⟩
 ·refine⟨vs,hq,?_⟩;rw[<-hb.length];exact gg.mp e
def Bu(lo:Int)(n:Nat):List PV:=(List.range n).map fun(i:Nat)=>.int (lo+i)
def oo{K:W.Frag}(lo:Int)(n:Nat):Walk K F (Bu lo n) (PZ lo n):=by
 intro aa ab F' st σ H R s i;unfold Bu;refine⟨λp e=>?_,λe=>?_⟩
 ·rw[bR]at e;by_cases hi:i<n
  ·rw[rY hi]at e;cases e;exact⟨hi,λx H' ⟨hH,y⟩=>by subst hH y;exact⟨F',R,Gr.refl _,aw.mpr rfl⟩⟩
  ·rw[rV (by simpa using hi)]at e;cases e
 ·rw[bR]at e;by_cases hi:i<n
  ·rw[rY hi]at e;cases e
  ·exact xu hi
def mn:Nat->List PV->List PV
 | _,[]=>[]
 | k,p::r=>dZ (.int k) p::mn (k+1) r
theorem lY:∀(ps:List PV) (k i:Nat),(mn k ps)[i]?=ps[i]?.map λp=>dZ (.int ((k+i:Nat):Int)) p
 | [],k,i=>by simp[mn]
 | p::r,k,0=>by simp[mn]
 | p::r,k,i+1=>by
  simp only[mn,List.getElem?_cons_succ];rw[lY r (k+1) i,show k+1+i=k+(i+1) by lia]
def Iz{K:W.Frag}(k1:∀F',bU F.F F'->mV K F' c l vs)(b1:ao K F ps vs):Walk K F (mn 0 ps) (Xq K c l):=by
 intro aa ab F' st σ H R s i;have h1:=k1 H (s.s.trans R.sub);refine⟨λp e=>?_,λe=>?_⟩
 ·rw[lY]at e;cases z1:ps[i]? with
  | none=>rw[z1]at e;cases e
  | some p1 =>
   rw[z1]at e;cases e;obtain⟨v,e1,Vm⟩:=b1.get z1;refine⟨⟨vs,v,h1,e1⟩,λx H' z9=>?_⟩
   obtain⟨T,v',hn,hx,hH,DM⟩:=z9;have g1:=DM vs h1;rw[e1]at g1;cases g1;subst hx hH;obtain⟨R2,s2⟩:=R.laid (.aq [.int i,v]) hn;refine⟨_,R2,s2,bg.mpr ⟨T,[.int i,v],rfl,fA.of au,.cons ?_ (.cons (Vm.mono (s.trans s2)) .nil)⟩⟩;rw[Nat.zero_add];exact aw.mpr rfl
 ·refine⟨vs,h1,?_⟩;rw[lY]at e;cases z1:ps[i]? with
  | none =>
   have:=gg.mp z1;rw[b1.length]at this;exact this
  | some p1=>rw[z1]at e;cases e
section
variable {X:Cx} {aa:Hp} {ab:Fz} {a b e tg:Expr} {fa fb:Gx PV} {ts:Gx (List PV)} {pos p:Pos}
def IA(i j:Int):Bool:=decide (-(2^62)<=i/\i<2^62 /\ -(2^62)<=j/\j<2^62)
def Bv:List PV->Option (List PV)
 | [.int j]=>if IA 0 j=true then some (Bu 0 j.toNat)else none
 | _=>none
def IB:List PV->Option (List PV)
 | [.int i,.int j]=>if IA i j=true then some (Bu i (j-i).toNat)else none
 | _=>none
def Ej(g:List PV->Option (List PV))(ts:Gx (List PV)):Gx (List PV):=bnd ts λps=>fy (g ps)
def El(hg:Gl X "range")(hm:X.mg "range"=none)(ha:PA X [a] (tA X aa ab ts))(hs:starEach [a] X.env=[(false,eval a X.env)]:=by rfl):PI X tg (.Call (.Name "range" p) [a] [] pos) (tI X aa ab (Ej Bv ts)) :=
 (A2 hg hm ha hs).imp λσ H Rr ⟨F,st,R,h⟩=>⟨F,st,R,h.bnd λps vs F1 aL H1 R1 g1 b1 h1=>by
  obtain⟨o,e,z⟩:=h1.fy;unfold Bv at e;split at e
  ·obtain⟨hr,rfl⟩:=ax e;obtain⟨v,rfl,b⟩:=b7 b1;obtain⟨_,_,h3,h4⟩:=eS hr;rw[aw.mp b];exact⟨_,rfl,h3,h4,z _ H1 F1 R1 (Gr.refl _) (oo 0 _)⟩
  ·cases e⟩
def Em(hg:Gl X "range")(hm:X.mg "range"=none)(ha:PA X [a,b] (tA X aa ab ts))(hs:starEach [a,b] X.env=[(false,eval a X.env),(false,eval b X.env)])(wF:starEach [b] X.env=[(false,eval b X.env)]):PI X tg (.Call (.Name "range" p) [a,b] [] pos) (tI X aa ab (Ej IB ts)) :=
 (A3 hg hm ha hs wF).imp λσ H Rr ⟨F,st,R,h⟩=>⟨F,st,R,h.bnd λps vs F1 aL H1 R1 g1 b1 h1=>by
  obtain⟨o,e,z⟩:=h1.fy;unfold IB at e;split at e
  ·obtain⟨hr,rfl⟩:=ax e;obtain⟨v,w,rfl,b,c⟩:=kF b1;have hr:=eS hr;rw[aw.mp b,aw.mp c];exact⟨_,_,rfl,hr,z _ H1 F1 R1 (Gr.refl _) (oo _ _)⟩
  ·cases e⟩
def En(fa:Gx PV):Gx (List PV):=bnd fa λp=>fy ((mH p).map λps=>mn 0 ps)
def Vn(ht:Kl tg=true)(hg:Gl X "enumerate")(hm:X.mg "enumerate"=none)(ha:PE X a (tE X aa ab fa))(hs:starEach [a] X.env=[(false,eval a X.env)]) :
  PI X tg (.Call (.Name "enumerate" p) [a] [] pos) (tI X aa ab (En fa)):=by
 rintro ae s σ H R I ⟨F,st,Rp,h⟩
 have hA:=fX ha nW hs pos ae s σ H (λvs H'=>∃F' bK x pa ps,vs=[x]/\Rep X.K aa ab F' bK σ H'/\bc X.K F' pa x/\mH pa=some ps/\∀b Q2 DY,Rep X.K aa ab DY bK σ Q2->Gr F' DY->Walk X.K DY (mn 0 ps) b->R b Q2) I
  ⟨F,st,Rp,h.bnd λp v F1 aL H1 R1 g1 b1 h1=>by
   obtain⟨o,e,z⟩:=h1.fy;obtain⟨ps,e1,rfl⟩:=aM e;exact⟨F1,aL,v,p,ps,rfl,R1,b1,e1,z⟩⟩
 refine Call_ (ld_blt I hg hm boot_enumerate (d0 (thn hA λus s1 z9=>?_) hs rfl))
 obtain⟨vs,H1,I1,r1,F1,aL,x,pa,ps,ev,R1,b1,f3,q⟩:=z9;subst ev;obtain⟨u1,rfl,MS⟩:=ia r1;obtain⟨c1,l1,Xs,rfl,q1,MT,k1⟩:=iS f3 b1;cases MS;obtain⟨ai,v1,IC⟩:=(k1 H1 R1.sub).get I1;obtain⟨part,Km⟩:∃o,s1.heap.get? l1=some o:=by
  rcases IC with⟨_,⟨o,e,_⟩⟩ | ⟨_,⟨o,e,_⟩⟩
  ·grind
  ·grind
 have O7:=ay Km;refine callType_new PySem.F.called_enumerate (by decide) (PySem.F.typeCall_enumerate_1 _) (PySem.F.newCall_enumerate_1 _) (λobj=>PySem.F.args_object_init_2 obj _) PySem.F.entry_enumerate_new (Eh l1 ai.toArray (jl c1) part) ⟨IC,Km,λh1 h2 e1 e2=>?_⟩
 have z1:h1.objs.size=s1.heap.objs.size+1:=by simp_all
 have p1:∀b o,s1.heap.get? b=some o->h1.get? b=some o:=λb o e=>by rw[e1];exact aj _ e
 have p2:∀b o,h1.get? b=some o->h2.get? b=some o:=λb o e=>by rw[e2];exact aj _ e
 have g2:IsEnum h2 h1.objs.size s1.heap.objs.size 0 .none:=by rw[e2];exact aY _ rfl
 have g1:=p2 _ _ (by rw[e1];exact aY _ rfl)
 have I2:Inv X ae σ H1 {s1 with heap:=h2,toks:=s1.toks}:=I1.kept λb o e=>p2 _ _ (p1 _ _ e)
 have j8:∀b,s1.heap.objs.size<=b->H1 b=none:=λb hb=>I1.hok.fresh hb
 refine⟨⟨_,g2,rfl⟩,?_⟩;show wpAny _ _ (pyIter (.ref h1.objs.size)) _ _ {s1 with heap:=h2,toks:=s1.toks}
 refine wpAny_pyIter_enum g2 ?_;cases tg with
 | Tuple elts x1 sU =>
  refine⟨h1.objs.size,[h1.objs.size,s1.heap.objs.size],_,_,H1,rfl,I2,Iy (by lia) O7,⟨⟨_,g2⟩,(by
   cases c1 with
   | true=>exact(⟨_,g1,rfl,rfl⟩)
   | false=>exact(⟨_,g1,rfl,rfl⟩))⟩,λb hb=>?_,q _ H1 F1 R1 (Gr.refl _) (Iz k1 MT)⟩
  simp only[aX,bH,bJ]at hb;have Ko:s1.heap.objs.size<=b:=by rcases hb with rfl | rfl<;>lia
  exact I1.nS Ko (j8 b Ko)
 | _=>cases ht
end
end L2.U
namespace L2
open PySem PySem.Spec PyProof.Rows
def Vo(z:Str):It:=⟨λi _=>i<z.cps.size,λi H x H'=>H'=H/\∃c,z.cps[i]?=some c/\x=.str ⟨#[c]⟩,λi _=>z.cps.size<=i⟩
def Eo{P:Program}{w:World}{K:W.Frag}{tg:Expr}(z:Str)(t:Tok)(it:Addr):Turn P w K tg (Vo z) [it] it (λi h=>h.IsStrIter it "str_ascii_iterator" z t i) where
 mem:=by simp
 obj:=λi h st b hb=>by
  have e:b=it:=by grind
  subst e;obtain⟨o,e,c,d⟩:=st;exact⟨o,e,λv z=>by grind⟩
 keep:=λi h h' st k=>let ⟨o,ho,r⟩:=st;⟨o,k it (by simp) o ho,r⟩
 item:=by
  intro X hP hw hK hc i ae s σ H E I hf st hg;subst hP hw hK;have hx:z.cps[i]?=some z.cps[i]:=m6 hg;obtain⟨f0,f1,f2,f3,f4,f5⟩:=hf it (by simp)
  refine wpAny_pyNext_ascii_item st hx λh' bK sb=>?_
  have I1:=I.turned (t':=s.toks+1) (λb o hb e=>(sb.2 b hb).trans e) f0 f1 f3 f4 f5
  obtain⟨o,e,c,d⟩:=id bK;exact⟨_,rfl,zl e c d (by decide) ⟨.str ⟨#[z.cps[i]]⟩,H,I1,⟨_,rfl⟩,⟨rfl,_,hx,rfl⟩,bK,λb hb=>(hf b hb).1⟩⟩
 done:=by
  intro X hP hw hK hc i ae s σ H E I hf st hg;subst hP hw hK;obtain⟨f0,f1,f2,f3,f4,f5⟩:=hf it (by simp)
  exact wpAny_pyNext_ascii_end (I.ok.hd hc) st (gJ hg) λh' eb=>⟨rfl,I.turned (λb o hb e=>eb b o hb e) f0 f1 f3 f4 f5⟩
 self:=λ_ _ _ _ _ st h=>wpAny_pyIter_striter_ascii st h
def Vp(tl:TE):TI:=λσ H R=>tl σ H λx H1=>∃z,x=.str z/\z.cps.all (· < 128)=true/\R (Vo z) H1
def MU{X:Cx}{tg l:Expr}{tl:TE}(hl:PE X l tl):PI X tg l (Vp tl):=by
 intro ae s σ H R I h;refine thn (hl ae s σ H _ I h) λv s1 ⟨x,H1,I1,r1,q1⟩=>?_
 obtain⟨z,e,hz,q⟩:=q1;subst e;obtain⟨t,rfl⟩:=r1;refine wpAny_pyIter_ascii hz ?_;refine⟨s1.heap.objs.size,[s1.heap.objs.size],_,_,H1,rfl,I1.kept λb o e=>aj _ e,Eo z t _,⟨_,aY _ rfl,rfl,rfl⟩,λb hb=>?_,q⟩
 have e:b=s1.heap.objs.size:=by grind
 subst e;exact I1.nS (ar _) (I1.hok.fresh (ar _))
end L2
namespace L2.U
open PySem PySem.Spec PyProof.Rows
def Ep(z:Str):List PV:=z.cps.toList.map λc=>.str ⟨#[c]⟩
def Er{K:W.Frag}{F:Fz}(z:Str):Walk K F (Ep z) (Vo z):=by
 intro aa ab F' st σ H R s i;refine⟨λp e=>?_,λe=>?_⟩
 ·unfold Ep at e;rw[bR,wZ]at e;obtain⟨c,e1,rfl⟩:=aM e;have hi:i<z.cps.size:=(Array.getElem?_eq_some_iff.mp e1).1;refine⟨hi,λx H' ⟨hH,c',e2,e3⟩=>?_⟩
  subst hH e3;cases bt (e1.symm.trans e2);exact⟨F',R,Gr.refl _,bf.mpr rfl⟩
 ·unfold Ep at e;rw[bR,wZ]at e;show z.cps.size<=i
  grind
inductive zY where
 | sq (ps:List PV) | cl (n:Nat)
def Q3(K:W.Frag)(F:Fz):zY->It->Prop
 | .sq ps,J=>Walk K F ps J
 | .cl n,J=>∃a,F.μ[n]?=some a/\J=Tj K a
abbrev Bw(X:Cx)(aa:Hp)(ab:Fz)(f:Gx zY):TI:=tX X aa ab (Q3 X.K) f
def O8(f:Gx (List PV)):Gx zY:=bnd f λps=>bV (.sq ps)
def Kp(n:Nat)(h:List ah)(i:Nat):Option (Option PV):=match c9 h (.ref n)with
 | some (.lst,ps)=>some ps[i]?
 | _=>none
def MV(h:List ah)(p:PV):Option zY:=match mH p with
 | some ps=>some (.sq ps)
 | none=>match p with
  | .ref n=>match c9 h (.ref n)with
   | some (.lst,_)=>some (.cl n)
   | _=>none
  | .str z=>if z.cps.all (· < 128)=true then some (.sq (Ep z))else none
  | _=>none
def pY(fe:Gx PV):Gx zY:=bnd fe λp=>hp λh=>MV h p
def Es(g:Tg)(body:Gx ek)(n:Nat):Nat->Nat->Gx ek
 | 0,_=>λ_=>none
 | f+1,i=>λst=>match Kp n st.h i with
  | some (some p)=>bnd (stp (g p)) (λ_=>bnd body (u4 (Es g body n f (i+1)))) st
  | some none=>some (.ok .nx,st)
  | none=>none
def Vq(g:Tg)(body:Gx ek):zY->Gx ek
 | .sq ps=>eY g body ps
 | .cl n=>Es g body n iN 0
def MW(fi:Gx zY)(g:Tg)(body:Gx ek):Gx ek:=bnd fi (Vq g body)
section
variable {X:Cx} {aa:Hp} {ab:Fz} {e tg iter:Expr} {fa:Gx PV} {fb:Gx ek} {body:List Stmt} {pos:Pos}
def ID(h:PI X tg e (tI X aa ab f)):PI X tg e (Bw X aa ab (O8 f)):=(by rintro ae s σ H R I ⟨F,st,Rp,hh⟩;exact h ae s σ H R I ⟨F,st,Rp,hh.bnd λps J F1 aL H1 R1 g1 b1 h1=>h1.bV J H1 F1 R1 (Gr.refl _) b1⟩)
def Et{K:W.Frag}{st:bT}(R:Rep K aa ab F st σ H)(ha:F.μ[n]?=some a)(e:Kp n st.h i=some o):∃ps vs,o=ps[i]?/\sS K H a vs/\ao K F ps vs:=by
 unfold Kp at e;split at e
 ·rename_i ps z;cases e;obtain⟨a',vs,e1,h1,h2⟩:=R.at z (cY.mpr ⟨a,ha,rfl⟩);cases e1;exact⟨ps,vs,rfl,gq.sq h1,h2⟩
 ·cases e
def Eu(he:PE X e (tE X aa ab fa)):PI X tg e (Bw X aa ab (pY fa)):=by
 rintro ae s σ H R I ⟨F,st,Rp,h⟩
 obtain⟨r,e1,e2⟩:=At.bnd h
 match r,e2 with
 | (.ex m C,aL),e2 =>
  exact Dw he ae s σ H R I ⟨F,st,Rp,_,e1,e2⟩
 | (.ok p,aL),e2 =>
  obtain⟨ps,e3,q⟩:=At.hp e2;unfold MV at e3;split at e3
  ·rename_i qs e4;cases e3;unfold mH at e4;split at e4
   ·cases e4;refine Dw he ae s σ H R I ⟨F,st,Rp,_,e1,λv H1 F1 R1 s1 b1=>?_⟩
    obtain⟨a,vs,rfl,hs,hb⟩:=bg.mp b1;exact⟨a,rfl,⟨vs,aU R1.sub hs⟩,q _ H1 F1 R1 s1 (Ei hs hb)⟩
   ·cases e4;refine zm he ae s σ H R I ⟨F,st,Rp,_,e1,λv H1 F1 R1 s1 b1=>?_⟩
    obtain⟨a,vs,rfl,hs,hb⟩:=cw.mp b1;exact⟨a,rfl,⟨vs,(gw R1.sub hs).sq⟩,q _ H1 F1 R1 s1 (Bt hs.sq hb)⟩
   ·cases e4
  ·split at e3
   ·rename_i n _;split at e3
    ·rename_i qs z;cases e3;refine zm he ae s σ H R I ⟨F,st,Rp,_,e1,λv H1 F1 R1 s1 b1=>?_⟩
     obtain⟨a,vs,rfl,hs,hb⟩:=R1.at z b1;obtain⟨a',ha,e5⟩:=cY.mp b1;cases e5;exact⟨a,rfl,⟨vs,gq.sq hs⟩,q _ H1 F1 R1 s1 ⟨a,ha,rfl⟩⟩
    ·cases e3
   ·obtain⟨hz,rfl⟩:=ax e3;refine MU he ae s σ H R I ⟨F,st,Rp,_,e1,λv H1 F1 R1 s1 b1=>?_⟩
    exact⟨_,bf.mp b1,hz,q _ H1 F1 R1 s1 (Er _)⟩
   ·cases e3
def MX{fi:Gx zY}(hp:PassesOwn (model X.prog X.w) X.A X.env X.xe)(hc:X.calm=true)(hi:PI X tg iter (Bw X aa ab fi))(hg:PG X tg (tG X.K aa ab g))(hb:PSs X body (tS X aa ab fb))
  (hs:∀x,foldedSetIterable iter X.env x=pure x:=by intro _;rfl):PS X (.For tg iter body [] pos) (tS X aa ab (MW fi g fb)):=(LH hp hc hi hg hb hs).imp <| by
 rintro D σ H ⟨F,st,R,h⟩
 refine⟨F,st,R,h.bnd λsr J F1 aL H1 R1 g1 wk h1=>?_⟩
 cases sr with
 | sq ps =>
  refine⟨λi m bh H'=>m=ps.length-i/\i<=ps.length/\∃F' bK,Rep X.K aa ab F' bK bh H'/\Gr F1 F'/\Sa X aa ab F' D bK (eY g fb (ps.drop i)),⟨ps.length,by simp,gk _,F1,aL,R1,Gr.refl _,h1⟩,?_⟩
  rintro i m bh H' ⟨rfl,hi,F',bK,R',s',hr⟩
  obtain⟨wg,Vr⟩:=wk aa ab F' bK bh H' R' s' i;by_cases vn:i<ps.length
  ·obtain⟨go,wy⟩:=wg ps[i] (b9 vn);rw[List.drop_eq_getElem_cons vn]at hr;refine .inr ⟨go,λzo H2=>∃F2 dk,Rep X.K aa ab F2 dk zo H2/\Gr F1 F2/\Sa X aa ab F2 D dk (eY g fb (ps.drop (i+1))),λzo H2 n2=>⟨ps.length-(i+1),by lia,rfl,vn,n2⟩,λx H2 y=>?_⟩
   obtain⟨F2,R2,s2,b2⟩:=wy x H2 y;obtain⟨r,e1,e2⟩:=At.bnd hr;obtain⟨Q4,e3,e4⟩:=aM e1;subst e4;refine⟨F2,bK,ps[i],Q4,R2,b2,e3,λmD H3 F3 R3 s3=>⟨F3,Q4,R3,?_⟩⟩
   exact Sa.nQ _ (λF4 GB Kf H4 R4 g4 z=>⟨F4,GB,R4,(s'.trans (s2.trans s3)).trans g4,z⟩) (Sa.mono (e2) (s2.trans s3))
  ·have e:i=ps.length:=by lia
   subst e;rw[List.drop_length]at hr;exact .inl ⟨Vr (rV (ar _)),At.bV hr F' bh H' R' (Gr.refl _)⟩
 | cl n =>
  obtain⟨a,ha,rfl⟩:=wk;refine⟨λi m bh H'=>∃F' bK,Rep X.K aa ab F' bK bh H'/\Gr F1 F'/\Sa X aa ab F' D bK (Es g fb n m i),⟨iN,F1,aL,R1,Gr.refl _,h1⟩,?_⟩
  rintro i m bh H' ⟨F',bK,R',s',hr⟩
  cases m with
  | zero=>obtain⟨r,e,_⟩:=hr;cases e
  | succ m =>
   obtain⟨r,e1,e2⟩:=hr;have e1:(match Kp n bK.h i with
    | some (some p)=>bnd (stp (g p)) (λ_=>bnd fb (u4 (Es g fb n m (i+1)))) bK
    | some none=>some (.ok .nx,bK)
    | none=>none)=some r:=e1
   cases z:Kp n bK.h i with
   | none=>rw[z]at e1;cases e1
   | some o =>
    obtain⟨ps,vs,ho,hq,tf⟩:=Et R' (s'.m n a ha) z;cases o with
    | none =>
     rw[z]at e1;cases e1;refine .inl ⟨⟨vs,hq,?_⟩,e2 F' bh H' R' (Gr.refl _)⟩;rw[<-tf.length];exact gg.mp ho.symm
    | some p =>
     rw[z]at e1;obtain⟨v,hv,bv⟩:=tf.get ho.symm;refine .inr ⟨⟨vs,v,hq,hv⟩,λzo H2=>∃F2 dk,Rep X.K aa ab F2 dk zo H2/\Gr F1 F2/\Sa X aa ab F2 D dk (Es g fb n m (i+1)),λzo H2 n2=>⟨m,lC m,n2⟩,λx H2 ⟨hH,y⟩=>?_⟩
     subst hH;have:=y vs hq;rw[hv]at this;cases this;obtain⟨r',q1,q2⟩:=At.bnd (⟨r,e1,e2⟩);obtain⟨Q4,e3,e4⟩:=aM q1;subst e4;refine⟨F',bK,p,Q4,R',bv,e3,λmD H3 F3 R3 s3=>⟨F3,Q4,R3,?_⟩⟩
     exact Sa.nQ _ (λF4 GB Kf H4 R4 g4 z=>⟨F4,GB,R4,(s'.trans s3).trans g4,z⟩) (Sa.mono (q2) s3)
end
def zZ(bd:PV->List ah->Option (Option PV×List ah))(n:Nat):Nat->Nat->List ah->Option (List PV×List ah)
 | 0,_,_=>none
 | f+1,i,h=>match Kp n h i with
  | some (some p)=>(bd p h).bind λr=>(zZ bd n f (i+1) r.2).map λs=>(r.1.toList++s.1,s.2)
  | some none=>some ([],h)
  | none=>none
def Q5(bd:PV->List ah->Option (Option PV×List ah))(h:List ah):zY->Option (List PV×List ah)
 | .sq ps=>if ps.length<=iN then gB bd ps h else none
 | .cl n=>zZ bd n iN 0 h
def Kq(c:Bool)(ρ:List (Option PV))(r:List PV×List ah):Option (Rs PV×bT):=if c=true then ik ⟨.lst,r.1⟩ ⟨ρ,r.2⟩else some (.ok (.lst r.1),⟨ρ,r.2⟩)
def iT(c:Bool)(link:List (Option Nat))(fi:Gx zY)(bd:Bd):Gx PV:=bnd fi λs st=>(Q5 (bd (dg link st.ρ)) st.h s).bind (Kq c st.ρ)
section
variable {X:Cx} {aa:Hp} {ab:Fz} {N:List Str} {link:List (Option Nat)} {scope:Scope} {tg iter elt c:Expr} {pos:Pos} {fi:Gx zY} {g:Tg} {fe:Gx PV} {ft:Gx Bool} {L:List Nat} {cl:Bool}
def vq{aL:bT}{Q:VK}(R':jL X.K aa ab F' hf H')(L1:Lc X.K F1 aL.ρ σ)(g':Gr F1 F')(tf:ao X.K F' done acc)(hn:H' D=none)(e4:Kq cl aL.ρ (done,hf)=some r)(e2:DU X aa ab F1 (λa bK=>∀b H' F',Rep X.K aa ab F' bK σ H'->Gr F1 F'->bc X.K F' a b->Q b H') r):Q (.ref D) (bZ H' D (.lst acc)):=by
 have Ro:Rep X.K aa ab F' ⟨aL.ρ,hf⟩ σ H':=⟨R',L1.mono g'⟩;cases cl with
 | true =>
  have e4:=e4;exact Tx.ik (Tx.mono ⟨r,e4,e2⟩ g' λ_ _ z=>z) Ro hn au tf
 | false =>
  have e4:=e4;cases e4;obtain⟨R2,s2⟩:=Ro.laid (.lst acc) hn;exact e2 _ _ _ R2 (g'.trans s2) (cw.mpr ⟨D,acc,rfl,gq.of au,tf.mono s2⟩)
def qM{Q:VK}
  (hb:∀(F2:Fz) (ρ:List (Option PV)) (p:PV) (h h':List ah) (o:Option PV) (x:V) (bh:St) (H2:Hp) (Q':Option V->St->Hp->Prop),bd (dg link ρ) p h=some (o,h')->Rep X.K aa ab F2 ⟨dg link ρ,h⟩ bh H2->bc X.K F2 p x ->
   (∀o' mD H3 F3,Rep X.K aa ab F3 ⟨dg link ρ,h'⟩ mD H3->Gr F2 F3->ao X.K F3 o.toList (Option.toList o')->Q' o' mD H3)->tb x bh H2 Q')
  (h:tE X aa ab (iT cl link fi bd) σ H Q):qK link (Bw X aa ab fi) tb σ H Q:=by
 obtain⟨F,st,R,h⟩:=h;refine⟨F,st,R,h.bnd λsr J F1 aL H1 R1 g1 wk h1=>?_⟩
 obtain⟨r,e1,e2⟩:=h1;obtain⟨⟨rs,hf⟩,e3,e4⟩:=aE e1;cases sr with
 | sq ps =>
  obtain⟨cX,e3⟩:=bE e3;refine⟨λi m acc bh H'=>m=ps.length-i/\i<=ps.length/\acc.length<=i/\∃F' h' done rest,Rep X.K aa ab F' ⟨dg link aL.ρ,h'⟩ bh H'/\Gr F1 F'/\gB (bd (dg link aL.ρ)) (ps.drop i) h'=some (rest,hf)/\done++rest=rs/\ao X.K F' done acc,
   ⟨ps.length,rfl,gk _,ar _,F1,aL.h,[],rs,⟨R1.c,R1.l.ib link⟩,Gr.refl _,e3,rfl,.nil⟩,?_⟩
  rintro i m acc bh H' ⟨rfl,hi,ha,F',h',done,rest,R',g',hr,hd,tf⟩
  obtain⟨wg,Vr⟩:=wk aa ab F' _ bh H' R' g' i;by_cases vn:i<ps.length
  ·rw[List.drop_eq_getElem_cons vn]at hr;obtain⟨⟨o,h2⟩,e5,e6⟩:=aE hr;obtain⟨⟨r2,h3⟩,e7,e8⟩:=aM e6;cases e8;obtain⟨go,wy⟩:=wg ps[i] (b9 vn);refine .inr ⟨go,nv (aD ha hi) (nv cX (by decide)),λx H2 y=>?_⟩
   obtain⟨F2,R2,s2,b2⟩:=wy x H2 y;refine hb F2 aL.ρ ps[i] h' h2 o x bh H2 _ e5 R2 b2 λo' mD H3 F3 R3 s3 b3=>⟨ps.length-(i+1),by lia,rfl,vn,?_,F3,h2,done++o.toList,r2,R3,g'.trans (s2.trans s3),e7,by rw[<-hd,xg],(tf.mono (s2.trans s3)).append b3⟩
   rw[dM];cases o'<;>simp <;> lia
  ·have e:i=ps.length:=by lia
   subst e;rw[List.drop_length]at hr;cases hr;rw[gj]at hd;subst hd;exact .inl ⟨Vr (rV (ar _)),aD ha (cQ cX),λD hn=>vq R'.c R1.l g' tf hn e4 e2⟩
 | cl n =>
  obtain⟨a,Y8,rfl⟩:=wk;refine⟨λi m acc bh H'=>i+m=iN/\acc.length<=i/\∃F' h' done rest,Rep X.K aa ab F' ⟨dg link aL.ρ,h'⟩ bh H'/\Gr F1 F'/\zZ (bd (dg link aL.ρ)) n m i h'=some (rest,hf)/\done++rest=rs/\ao X.K F' done acc,
   ⟨iN,Nat.zero_add _,ar _,F1,aL.h,[],rs,⟨R1.c,R1.l.ib link⟩,Gr.refl _,e3,rfl,.nil⟩,?_⟩
  rintro i m acc bh H' ⟨hm,ha,F',h',done,rest,R',g',hr,hd,tf⟩
  cases m with
  | zero=>cases hr
  | succ m =>
   have hr:(match Kp n h' i with
    | some (some p)=>(bd (dg link aL.ρ) p h').bind λr=>(zZ (bd (dg link aL.ρ)) n m (i+1) r.2).map λs=>(r.1.toList++s.1,s.2)
    | some none=>some ([],h')
    | none=>none)=some (rest,hf):=hr
   have yc:i<=iN:=by lia
   cases z:Kp n h' i with
   | none=>rw[z]at hr;cases hr
   | some o =>
    obtain⟨ps,vs,ho,hq,Xu⟩:=Et R' (g'.m n a Y8) z;rw[z]at hr;cases o with
    | none =>
     cases hr;rw[gj]at hd;subst hd;refine .inl ⟨⟨vs,hq,?_⟩,aD ha (cQ yc),λD hn=>vq R'.c R1.l g' tf hn e4 e2⟩
     rw[<-Xu.length];exact gg.mp ho.symm
    | some p =>
     obtain⟨⟨o,h2⟩,e5,e6⟩:=aE hr;obtain⟨⟨r2,h3⟩,e7,e8⟩:=aM e6;cases e8;obtain⟨v,hv,bv⟩:=Xu.get ho.symm;refine .inr ⟨⟨vs,v,hq,hv⟩,nv (aD ha yc) (by decide),λx H2 ⟨hH,y⟩=>?_⟩
     subst hH;have:=y vs hq;rw[hv]at this;cases this;refine hb F' aL.ρ p h' h2 o v bh H2 _ e5 R' bv λo' mD H3 F3 R3 s3 b3=>⟨m,lC m,by lia,?_,F3,h2,done++o.toList,r2,R3,g'.trans s3,e7,by rw[<-hd,xg],(tf.mono s3).append b3⟩
     rw[dM];cases o'<;>simp <;> lia
def Ew(hg:KG L g)(hL:∀i∈L,link[i]?=some none)(h:tE X aa ab (iT cl link fi (om g fe)) σ H Q):qK link (Bw X aa ab fi) (Xm X aa ab g fe) σ H Q :=
 qM (λF2 ρ p h h' o x bh H2 Q' e R2 b2 k=>by
  obtain⟨aL,e1,e⟩:=aE e;obtain⟨r,e2,e⟩:=aE e;obtain⟨⟨a,hh⟩,e3,e4⟩:=aM e;cases e4;obtain⟨Hg,rfl,rfl⟩:=vp e3;obtain⟨l1,k1⟩:=hg _ _ _ e1;refine⟨F2,_,p,aL,R2,b2,e1,λmD H3 F3 R3 s3 Y hY=>⟨F3,aL,by grind,_,e2,λv H4 F4 R4 s4 b4=>?_⟩⟩
  rw[hY]at R4 b4;exact k (some v) mD H4 F4 ⟨R4.c,(R3.l.mono s4).back (l1.symm.trans R3.l.len) rfl k1 hL⟩ (s3.trans s4) (.cons b4 .nil)) h
def Ex(hg:KG L g)(hL:∀i∈L,link[i]?=some none)(h:tE X aa ab (iT cl link fi (Ef g ft fe)) σ H Q):qK link (Bw X aa ab fi) (Xn X aa ab g ft fe) σ H Q :=
 qM (λF2 ρ p h h' o x bh H2 Q' e R2 b2 k=>by
  obtain⟨aL,e1,e⟩:=aE e;obtain⟨r,e2,e⟩:=aE e;obtain⟨l1,k1⟩:=hg _ _ _ e1;refine⟨F2,_,p,aL,R2,b2,e1,λmD H3 F3 R3 s3 Y hY=>⟨F3,aL,by grind,r,e2,?_⟩⟩
  match r,e with
  | (.ok b,dk),e =>
   intro b' H4 F4 R4 s4 eb;cases eb;cases b with
   | true =>
    have e:=e;obtain⟨r,e5,e⟩:=aE e;obtain⟨⟨a,hh⟩,e6,e7⟩:=aM e;cases e7;obtain⟨Hg,rfl,rfl⟩:=vp e6;rw[if_pos rfl];refine⟨F4,dk,R4,_,e5,λv H5 F5 R5 s5 b5=>?_⟩
    rw[hY]at R5 b5;exact k (some v) mD H5 F5 ⟨R5.c,(R3.l.mono (s4.trans s5)).back (l1.symm.trans R3.l.len) rfl k1 hL⟩ (s3.trans (s4.trans s5)) (.cons b5 .nil)
   | false =>
    have e:=e;cases e;rw[hY]at R4;exact k none mD H4 F4 ⟨R4.c,(R3.l.mono s4).back (l1.symm.trans R3.l.len) rfl k1 hL⟩ (s3.trans s4) .nil) h
end
def Q6:ah:=⟨.aq,[]⟩
section
variable {K:W.Frag} {aa H:Hp} {ab F F':Fz} {st:bT} {σ:St} {a:Addr} {n:Nat} {c:ah}
def Q7{μ:List Addr}(hd:μ.Nodup)(h1:μ[n]?=some a)(h2:μ[m]?=some b)(hm:m≠n):b≠a:=λz=>by
 subst z;exact hm ((List.getElem?_inj (dI.mp h2).1 hd).mp (h2.trans h1.symm))
def Rep.lock(R:Rep K aa ab F st σ H)(ha:F.μ[n]?=some a)(hf:F.F a=none)(u:HO):Rep K aa ab ⟨bZ F.F a u,F.μ⟩ ⟨st.ρ,st.h.set n Q6⟩ σ (bZ H a u)/\Gr F ⟨bZ F.F a u,F.μ⟩:=by
 have g:Gr F ⟨bZ F.F a u,F.μ⟩:=⟨dh hf,λ_ _ h=>h⟩
 have h0:=(R.c.new n a ha).1;refine⟨⟨⟨λb o e=>?_,λb o e=>?_,R.c.base.trans g,λb o e=>?_,λm b e=>?_,by simp[R.c.hl],R.c.nd,λm d b hd hb hl=>?_⟩,R.l.mono g⟩,g⟩
 ·have e:bZ F.F a u b=some o:=e;by_cases hb:b=a
  ·subst hb;rw[au]at e ⊢;exact e
  ·rw[aI hb]at e ⊢;exact R.c.sub _ _ e
 ·rw[aI (cu e h0)];exact R.c.keep _ _ e
 ·have e:bZ F.F a u b=some o:=e;by_cases hb:b=a
  ·subst hb;exact .inr h0
  ·rw[aI hb]at e;exact R.c.fresh _ _ e
 ·obtain⟨h1,o,h2⟩:=R.c.new m b e;by_cases hb:b=a
  ·subst hb;exact⟨h1,u,au⟩
  ·exact⟨h1,o,by rw[aI hb];exact h2⟩
 ·by_cases hm:m=n
  ·subst hm;rw[List.getElem?_set_self' ]at hd;cases z:st.h[m]? with
   | none=>rw[z]at hd;cases hd
   | some d'=>rw[z]at hd;cases hd;cases hl
  ·rw[jy (bA hm)]at hd;have iu:=Q7 R.c.nd ha hb hm;obtain⟨h1,vs,h2,h3⟩:=R.c.cell m d b hd hb hl;exact⟨(aI iu).trans h1,vs,h2.to g.s (λo e=>by rw[aI iu];exact e) (λz=>z),h3.mono g⟩
end
def dH:cz->PV
 | .inl i=>.int i
 | .inr x=>.str x
def Y9:PV->Option (List PV)
 | .nd .lst qs=>some qs
 | _=>none
def Za(n:Nat)(ks:List (List cz))(ps:List PV)(p q:PV):Option (List PV):=match p with
 | .ref m=>if m=n then(iP true q).bind λk=>(dY k ks ps).bind Y9 else none
 | _=>none
section
variable {X:Cx} {aa:Hp} {ab:Fz} {tg iter va vb:Expr} {fe fa fb:Gx PV} {f:Gx ek} {body:List Stmt} {pos Zb:Pos} {D:uN} {g:Tg}
def MY(fe:Gx PV):Gx PV:=bnd fe λp st=>match p with
 | .ref n=>(Bq st.h (.ref n)).bind λq=>match q.2.k with
  | .lst=>some (.ok (.lst q.2.ps),⟨st.ρ,st.h.set n Q6⟩)
  | _=>none
 | p=>some (.ok p,st)
def Q8{e:Expr}(he:PE X e (tE X aa ab fe)):PE X e (tE X aa ab (MY fe)):=he.imp λσ H Q h=>by
 obtain⟨F,st,R,h⟩:=h;refine⟨F,st,R,h.bnd λp v F1 aL H1 R1 g1 b1 h1=>?_⟩
 have keep:(∀n,p≠.ref n)->Q v H1:=λhp=>by
  obtain⟨r,e1,e2⟩:=h1;cases p with
  | ref n=>exact absurd rfl (hp n)
  | _=>cases e1;exact e2 _ _ F1 R1 (Gr.refl _) b1
 cases p with
 | ref n =>
  obtain⟨r,e1,e2⟩:=h1;obtain⟨⟨m,c⟩,d1,e3⟩:=aE (show(Bq aL.h (.ref n)).bind _=some r from e1)
  obtain⟨z,Zc,hl⟩:=gz d1;cases z;obtain⟨a,ha,rfl⟩:=cY.mp b1;obtain⟨ck,cp⟩:=c;cases ck with
  | lst =>
   cases e3;obtain⟨hf,ws,k1,hv⟩:=R1.c.cell n _ a Zc ha hl;have k1:H1 a=some (.lst ws):=k1;obtain⟨R2,g2⟩:=R1.lock ha hf (.lst ws);have eH:bZ H1 a (.lst ws)=H1:=by
    funext b
    by_cases hb:b=a
    ·subst hb;rw[au,k1]
    ·rw[aI hb]
   rw[eH]at R2;exact e2 _ _ _ R2 g2 (cw.mpr ⟨a,ws,rfl,gq.of au,hv.mono g2⟩)
  | _=>cases e3
 | _=>exact keep λ_ z=>nomatch z
end
def z6{P:Program}{w:World}{H':Hp}{h1 h5 B:Heap}(x:j7 P w H' h1)(hB:∀b o,H' b=some o->∃ob,B.get? b=some ob)(k1:B.StaysIn h1)(k5:B.StaysIn h5):j7 P w H' h5:=λa o e=>by
 have keep:∀b u o',H' b=some o'->h1.get? b=some u->h5.get? b=some u:=λb u o' eb q=>by
  obtain⟨ob,TN⟩:=hB b o' eb;have:=k1 b ob TN;rw[q]at this;cases this;exact k5 b _ TN
 refine(x a o e).uJ (λb u hb q=>?_) (λ_ q=>q) (λ_ _ q=>q) λ_ _ _ q=>q
 rcases hb with rfl | hb
 ·exact keep _ _ _ e q
 ·exact keep _ _ _ hb q
def Ey{l:List Env}{H H':Hp}{h h1 h5 B B':Heap}(u:Un (j8 l) [] H H' h h1)(sm:Dm H H')(hB:∀b o,H' b=some o->∃ob,B.get? b=some ob)(hU:∀b ob,h.get? b=some ob->H b=none->b∉j8 l->B.get? b=some ob)
  (k5:B.StaysIn h5) (fr:h1.FunFrames B' l) (up:h1.UpToSlots h5):Un (j8 l) [] H H' h h5:=by
 have slot:∀b o,h.get? b=some o->H b=none->b∈j8 l->∃sl,h5.get? b=some {o with slots:=sl}:=λb o q n hb=>by
  obtain⟨sl,e⟩:=u.slot b o q n hb (by simp)
  obtain⟨_,o',nO,hd⟩:=fr.mem hb;rw[e]at nO;cases nO;obtain⟨PC,e'⟩:=up b _ e hd;exact⟨PC,e'⟩
 refine⟨λb o q n hb _=>k5 b o (hU b o q n hb),λb o q n hb _=>slot b o q n hb,u.free,λb o q hx=>?_,u.tups,u.frzs,u.tbls⟩
 cases z:H b with
 | none =>
  by_cases hb:b∈j8 l
  ·grind
  ·exact⟨o,k5 b o (hU b o q z hb)⟩
 | some v =>
  obtain⟨v',z'⟩:=sm b v z;obtain⟨ob,TN⟩:=hB b v' z';exact⟨ob,k5 b ob TN⟩
def Bx{P:Program}{w:World}{H:Hp}{h:Heap}{a:Addr}{o:HO}(x:eL P w H h a o):∃ob,h.get? a=some ob:=by
 cases o with
 | lst xs=>obtain⟨_,_,_,_,e⟩:=x;exact⟨_,e⟩
 | aq xs=>obtain⟨_,_,_,ob,e,_⟩:=x;exact⟨_,e⟩
 | dK kvs=>obtain⟨_,_,_,_,o,_,_,e,_⟩:=x;exact⟨_,e⟩
 | dT kvs=>obtain⟨_,_,o,_,_,e,_⟩:=x;exact⟨_,e⟩
 | set S n=>obtain⟨o,_,_,_,e,_⟩:=x;exact⟨_,e⟩
 | ins C dx fs=>obtain⟨_,_,_,e,_⟩:=x;exact⟨_,e⟩
 | own y=>obtain⟨_,e⟩:=x;exact⟨_,e⟩
 | xd fs=>obtain⟨_,⟨_,_,_,e,_⟩,_⟩:=x;exact⟨_,e⟩
 | Tc lo hi=>obtain⟨_,_,_,e⟩:=x;exact⟨_,e⟩
 | uC ob u=>obtain⟨e,_⟩:=x;exact⟨_,e⟩
 | fQ q=>obtain⟨_,e,_⟩:=x;exact⟨_,e⟩
 | Tb f y=>exact⟨_,show h.get? a=some _ from x⟩
 | ext φ=>obtain⟨_,⟨_,e⟩,_⟩:=x;exact⟨_,e⟩
section
variable {P:Program} {w:World} {K:W.Frag} {mg:Str->Option Value} {base:Heap} {N:List Str} {qual:Str} {scope:Scope} {f:Addr} {cd:Value} {A:Around} {aB:List Env} {s:Shared} {H:Hp} {E E1:XK} {ae:List (Addr×Obj)} {σ:St} {H1:Hp} {s1 s':Shared} {e:Value}
def Aa(I:Inv (fH (kc P w) P w K mg base N qual scope f cd A aB s H E) ae σ H1 s1){b:Addr}{ob:Obj}(q:s.heap.get? b=some ob)(hb:b∉j8 aB):b∉j8 (envOfC qual scope s.heap.objs.size f cd::aB):=λhm=>by
 rcases aX.mp (I.sQ b hm)with z | z
 ·exact absurd (ay q) (by rw[z];exact dv _)
 ·exact hb z
def Ez(I:Inv (fH (kc P w) P w K mg base N qual scope f cd A aB s H E) ae σ H1 s1)(h:kc P w (envOfC qual scope s.heap.objs.size f cd::aB) H1 s1 E1 e s')(hE:∀cls H2,E1 cls none H2->Dm H H2/\E cls none H2) :
  (fH (kc P w) P w K mg base N qual scope f cd A aB s H E).xe e s':=by
 obtain⟨a,cls,a0,B,H2,rfl,Gz,hb,un,hok,sm,he,MZ,hB,hU⟩:=h;obtain⟨Q9,hE⟩:=hE cls H2 he;have I2:=I.J4 Gz un hok hb (λb z=>absurd z (by simp))
 refine wpAny_leaves_onW I.ok.frames rfl MZ λh' M0 up=>?_
 have Xv:∀b ob,s.heap.get? b=some ob->H b=none->b∉j8 aB->B.get? b=some ob:=λb ob q n hb=>hU b ob (I.base.keep b ob q n hb (by simp[fH])) (I.base.free b ob q n (by simp[fH])) (Aa I q hb)
 exact⟨a,cls,a0,B,H2,rfl,Gz.trans I.os,hb,Ey I2.base Q9 hB Xv M0.1 MZ.2.2.1.2.2 up,z6 hok hB MZ.1 M0.1,Q9,hE,M0,hB,Xv⟩
def IE{h1:Heap}{a:Addr}{cls:Value}{vs:List Value}(I:Inv (fH (kc P w) P w K mg base N qual scope f cd A aB s H E) ae σ H1 s1)(hm:Heap.MadeExcOf s1.heap h1 a cls vs)(Q9:Dm H H1)(hE:E cls none H1) :
  (fH (kc P w) P w K mg base N qual scope f cd A aB s H E).xe (.ref a) {s1 with heap:=h1}:=by
 have hB:∀b o,H1 b=some o->∃ob,(W.hideAll s1.heap (j8 (envOfC qual scope s.heap.objs.size f cd::aB))).get? b=some ob:=λb o e=>by
  obtain⟨ob,q⟩:=Bx (I.hok b o e);exact⟨ob,W.hideAll_get _ q λhb=>by
   have:=I.sR b hb;rw[e]at this;cases this⟩
 have hU:∀b ob,s.heap.get? b=some ob->H b=none->b∉j8 aB->(W.hideAll s1.heap (j8 (envOfC qual scope s.heap.objs.size f cd::aB))).get? b=some ob:=λb ob q n hb =>
  W.hideAll_get _ (I.base.keep b ob q n hb (by simp[fH])) (Aa I q hb)
 refine wpAny_leaves_madeW I.ok.frames rfl (λb o q=>W.of_hideAll _ q) (W.funFrames_hide I.stack λenv he b hb=>nk.mpr ⟨env,he,hb⟩) hm λh' t MZ aq tn up=>?_
 refine⟨a,cls,.ref t,_,H1,rfl,I.os,I.bare,Ey (I.base.trans (Un.kept hm.keeps)) Q9 hB hU MZ.1 (I.funs.of_keeps λb o q _=>⟨o,hm.keeps b o q,rfl⟩) up,z6 (I.hok.kept hm.keeps) hB (λb o q=>hm.keeps b o (W.of_hideAll _ q)) MZ.1,Q9,hE,MZ,hB,hU⟩
end
def EA(K:W.Frag)(f:Addr)(eE:Value):Prop:=∃oc od fd wD,K.lookup f=some ⟨oc,od,.func fd,wD⟩/\fd.code=eE
def IF{P:Program}{w:World}{K:W.Frag}{mg:Str->Option Value}{base:Heap}{x qual:Str}{st:Stmt}{f:Addr}{fd:FuncData}{N ps:List Str}{k:Nat}{sp:Sp}(F:AM K x qual st f fd)(S:cV N ps (aA st))(len:∀vs H Q E,sp vs H Q E->vs.length=ps.length)
  (hbody:∀(eE:Value) (A:Around) (aB:List Env) (s:Shared) (H:Hp) (vs:List V) (Q:VK) (E:XK),EA K f eE->dP k (A.deeper (envOfC qual (aA st) s.heap.objs.size f eE))->sp vs H Q E ->
   ∃t,PSs (fH (kc P w) P w K mg base N qual (aA st) f eE A aB s H E) (cW st) t/\t {nx:=λ_ H'=>Q .aN H',rt:=Q} (start N vs) H):FnOk P w K mg base (kc P w) (k+1) f fd ps sp:=by
 obtain⟨oc,od,kV,doc,pm,an,eE,ct,wD,rfl,lk,Cz⟩:=F.ex;exact Qe lk Cz S len λA aB s H vs Q E hr O2=>hbody eE A aB s H vs Q E ⟨oc,od,_,wD,lk,rfl⟩ hr O2
def pZ(H:Hp)(μ:List Addr):Hp:=λb=>if b∈μ then none else H b
section
variable {K:W.Frag} {aa H H':Hp} {ab F F':Fz} {h h':List ah}
def By{μ:List Addr}{b:Addr}{o:HO}(e:pZ H μ b=some o):H b=some o/\b∉μ:=by
 unfold pZ at e;split at e
 ·cases e
 ·grind
def Bz{μ:List Addr}{b:Addr}(e:pZ H μ b=none):H b=none\/b∈μ:=by
 unfold pZ at e;split at e
 ·grind
 ·grind
def jL.enter(C:jL K aa ab F h H):jL K (pZ H F.μ) F F h H/\∀b o,H b=some o->pZ H F.μ b=some o\/∃n:Nat,F.μ[n]?=some b:=by
 refine⟨⟨C.sub,λb o e=>(By e).1,Gr.refl F,λa o e=>.inl e,λn a e=>⟨if_pos (w6 e),(C.new n a e).2⟩,C.hl,C.nd,C.cell⟩,λb o e=>?_⟩
 by_cases hb:b∈F.μ
 ·obtain⟨n,hn⟩:=rS.mp hb;exact .inr ⟨n,hn⟩
 ·exact .inl (by unfold pZ;rw[if_neg hb];exact e)
def jL.leave(C:jL K aa ab F h H)(D:jL K (pZ H F.μ) F F' h' H'):jL K aa ab F' h' H':=by
 have none_of:∀a,pZ H F.μ a=none->aa a=none:=λa e=>by
  rcases Bz e with z | z
  ·exact C.keep.free z
  ·obtain⟨n,hn⟩:=rS.mp z;exact(C.new n a hn).1
 refine⟨D.sub,λb o e=>D.keep b o ?_,C.base.trans D.base,λa o e=>?_,λn a e=>⟨none_of a (D.new n a e).1,(D.new n a e).2⟩,D.hl,D.nd,D.cell⟩
 ·unfold pZ;rw[if_neg λhb=>?_]
  ·exact C.keep b o e
  ·obtain⟨n,hn⟩:=rS.mp hb;rw[(C.new n b hn).1]at e;cases e
 ·rcases D.fresh a o e with z | z
  ·exact C.fresh a o z
  ·grind
end
abbrev mI:=List PV->List ah->Option (Rs PV×List ah)
def Vs(K:W.Frag)(aa:Hp)(F:Fz)(h':List ah)(Q:VK)(E:XK):Rs PV->Prop
 | .ok p=>∀v F' H',jL K aa F F' h' H'->bc K F' p v->Q v H'
 | .ex _ C=>∀cls F' H',jL K aa F F' h' H'->ClsAt K C cls->E cls none H'
def BA(K:W.Frag)(n:Nat)(f:mI):Sp:=λvs H Q E=>∃aa F h ps r h',jL K aa F F h H/\(∀b o,H b=some o->aa b=some o\/∃n:Nat,F.μ[n]?=some b)/\ao K F ps vs/\ps.length=n/\f ps h=some (r,h')/\Vs K aa F h' Q E r
def gY(n:Nat)(ps:List PV):List (Option PV):=ps.map some++List.replicate (n-ps.length) none
def Ra:Rs ek×bT->Option (Rs PV×List ah)
 | (.ok (.rt p),st)=>some (.ok p,st.h)
 | (.ok .nx,st)=>some (.ok .aN,st.h)
 | (.ex m C,st)=>some (.ex m C,st.h)
 | _=>none
def il(fb:Gx ek)(n:Nat):mI:=λps h=>(fb ⟨gY n ps,h⟩).bind Ra
def EB{K:W.Frag}{F:Fz}{ps:List PV}{vs:List V}{N:List Str}(b:ao K F ps vs):Lc K F (gY N.length ps) (start N vs) where
 av:=λi p e=>by
  unfold gY at e;unfold start;by_cases hi:i<ps.length
  ·rw[m7 (by simpa using hi),bR]at e
   cases z:ps[i]? with
   | none=>rw[z]at e;cases e
   | some q =>
    rw[z]at e;cases e;obtain⟨v,h1,h2⟩:=b.get z;refine⟨v,?_,h2⟩;rw[m7 (by simpa using (b.length▸hi)),bR,h1]
    rfl
  ·rw[CN (by simpa using hi),List.getElem?_replicate]at e
   split at e<;>cases e
 len:=by unfold gY start;simp[b.length]
def Kr{K:W.Frag}{aa H H':Hp}{F F':Fz}{h':List ah}(full:∀b o,H b=some o->aa b=some o\/∃n:Nat,F.μ[n]?=some b)(D:jL K aa F F' h' H'):Dm H H':=λb o e=>by
 rcases full b o e with z | ⟨n,hn⟩
 ·exact⟨o,D.keep b o z⟩
 ·exact(D.new n b (D.base.m n b hn)).2
def EC{P:Program}{w:World}{K:W.Frag}{mg:Str->Option Value}{base:Heap}{x qual:Str}{st:Stmt}{f:Addr}{fd:FuncData}{N ps:List Str}{k:Nat}{fb:Gx ek}(F:AM K x qual st f fd)(S:cV N ps (aA st))
  (hbody:∀(eE:Value) (A:Around) (aB:List Env) (s:Shared) (H:Hp) (E:XK),EA K f eE->dP k (A.deeper (envOfC qual (aA st) s.heap.objs.size f eE))->∀(aa:Hp) (ab:Fz),
   PSs (fH (kc P w) P w K mg base N qual (aA st) f eE A aB s H E) (cW st) (tS (fH (kc P w) P w K mg base N qual (aA st) f eE A aB s H E) aa ab fb)):FnOk P w K mg base (kc P w) (k+1) f fd ps (BA K ps.length (il fb N.length)):=by
 refine IF F S (by rintro vs H Q E ⟨_,_,_,_,_,_,_,_,b,hl,_⟩;rw[<-b.length];exact hl) λeE A aB s H vs Q E Xw hr z9=>?_
 obtain⟨aa,F,h,as,r,h',C,full,b,hl,hf,res⟩:=z9;refine⟨_,hbody eE A aB s H E Xw hr aa F,F,⟨gY N.length as,h⟩,⟨C,EB b⟩,?_⟩;obtain⟨q,e1,e2⟩:=aE hf;refine⟨q,e1,?_⟩;rcases q with⟨f | ⟨m,c⟩,st⟩
 ·cases f with
  | rt=>cases e2;exact λv F' H' C' g b'=>res v F' H' C' b'
  | nx=>cases e2;exact λF' bh H' R g=>res .aN F' H' R.c (cj.mpr rfl)
  | _=>cases e2
 ·cases e2;cases m with
  | true=>exact λF' bh H' ae s1 h1 a cls vs R sf I hc hm=>IE I hm (Kr full R.c) (res cls F' H' R.c hc)
  | false=>exact λbh ae H1 s1 e s' I h=>Ez I h (by rintro cls H2 ⟨hc,F',R,sf⟩;exact⟨Kr full R.c,res cls F' H2 R.c hc⟩)
mutual
def noRef:PV->Bool
 | .ref _=>false
 | .nd _ ps=>aT ps
 | _=>true
def aT:List PV->Bool
 | []=>true
 | p::ps=>noRef p&&aT ps
end
section
variable {K:W.Frag} {F:Fz} {μ:List Addr}
mutual
theorem bc.any:∀{p:PV} {v:V},noRef p=true->bc K F p v->bc K ⟨F.F,μ⟩ p v
 | .aN,_,_,b=>cj.mpr (cj.mp b)
 | .bl _,_,_,b=>aR.mpr (aR.mp b)
 | .int _,_,_,b=>aw.mpr (aw.mp b)
 | .str _,_,_,b=>bf.mpr (bf.mp b)
 | .fn _,_,_,b=>lO.mpr (lO.mp b)
 | .ref _,_,h,_=>by simp[noRef]at h
 | .nd k ps,_,h,b=>by
  obtain⟨a,vs,h1,h2,h3⟩:=gS.mp b;exact gS.mpr ⟨a,vs,h1,h2,ao.any h h3⟩
theorem ao.any:∀{ps:List PV} {vs:List V},aT ps=true->ao K F ps vs->ao K ⟨F.F,μ⟩ ps vs
 | [],_,_,b=>by rw[b.bL];exact .nil
 | _::_,_,h,b=>by
  simp only[aT,aC]at h;obtain⟨v,r,rfl,b1,b2⟩:=b.bB;exact .cons (b1.any h.1) (ao.any h.2 b2)
end
end
def kL(h:List ah):Nat->PV->Option PV
 | 0,p=>if noRef p=true then some p else none
 | n+1,p=>if noRef p=true then some p else match p with
  | .ref m=>(h[m]?).bind λc=>if live c=true then(bj (kL h n) c.ps).map (.nd c.k)else none
  | .nd k ps=>(bj (kL h n) ps).map (.nd k)
  | _=>none
open Classical in
noncomputable def jm (F:Fz) (h:List ah) (H:Hp):Hp:=λa=>match F.F a with
 | some o=>some o
 | none=>if(∃(n:Nat) (c:ah),F.μ[n]?=some a/\h[n]?=some c/\live c=true)then H a else none
section
variable {K:W.Frag} {aa H:Hp} {ab F:Fz} {h:List ah}
def gD{a:Addr}{o:HO}(e:F.F a=some o):jm F h H a=some o:=by unfold jm;rw[e]
def BB{a:Addr}{n:Nat}{c:ah}(e:F.F a=none)(h1:F.μ[n]?=some a)(h2:h[n]?=some c)(h3:live c=true):jm F h H a=H a:=by
 unfold jm;rw[e];exact if_pos ⟨n,c,h1,h2,h3⟩
def vt{a:Addr}{o:HO}(e:jm F h H a=some o):F.F a=some o\/(H a=some o/\∃n:Nat,F.μ[n]?=some a):=by
 unfold jm at e;split at e
 ·grind
 ·split at e
  ·grind
  ·cases e
def jL.kL(C:jL K aa ab F h H)(μ:List Addr):∀(n:Nat) (p q:PV) (v:V),kL h n p=some q->bc K F p v->bc K ⟨jm F h H,μ⟩ q v:=by
 have keep:∀{p:PV} {v:V},noRef p=true->bc K F p v->bc K ⟨jm F h H,μ⟩ p v:=λhn b =>
  bc.mono (F:=⟨F.F,μ⟩) (F':=⟨jm F h H,μ⟩) ⟨λb o e=>gD e,λ_ _ e=>e⟩ (b.any hn)
 intro n;induction n with
 | zero =>
  intro p q v e b;obtain⟨hn,rfl⟩:=ax e;exact keep hn b
 | succ n ih =>
  intro p q v e b;unfold U.kL at e;split at e
  ·grind
  ·have list:∀(ps qs:List PV) vs,bj (U.kL h n) ps=some qs->ao K F ps vs->ao K ⟨jm F h H,μ⟩ qs vs:=by
    intro ps;induction ps with
    | nil=>intro qs vs e b;cases e;rw[b.bL];exact .nil
    | cons p ps Zd =>
     intro qs vs e b;obtain⟨y,r,e1,e2,rfl⟩:=cC e;obtain⟨v,w,rfl,b1,b2⟩:=b.bB;exact .cons (ih p y v e1 b1) (Zd r w e2 b2)
   split at e
   ·obtain⟨c,e1,e⟩:=aE e;obtain⟨hl,e⟩:=bE e;obtain⟨qs,e2,rfl⟩:=aM e;obtain⟨a,h1,h2⟩:=cY.mp b;obtain⟨hF,vs,h3,h4⟩:=C.cell _ c a e1 h1 hl;exact gS.mpr ⟨a,vs,h2,h3.to (λb o e=>gD e) (λo e=>by rw[show(Fz.mk (jm F h H) μ).F a=jm F h H a from rfl,BB hF h1 e1 hl];exact e) (λz=>by cases z),list _ _ _ e2 h4⟩
   ·obtain⟨qs,e2,rfl⟩:=aM e;obtain⟨a,vs,h1,h2,h3⟩:=gS.mp b;exact gS.mpr ⟨a,vs,h1,h2.to (λb o e=>gD e) (λo e=>gD e) id,list _ _ _ e2 h3⟩
   ·cases e
end
section
variable {X:Cx} {aa:Hp} {ab:Fz} {e:Expr} {es:List Expr} {ts:Gx (List PV)} {pos p:Pos} {k n:Nat} {f:Addr} {fd:FuncData} {ps:List Str} {x:Str} {g:mI}
def mW{CX:CU}{sp:Sp}{E:XK}{ae:List (Addr×Obj)}{σ:St}{H:Hp}{s:Shared}{Q:VK}{us:List Value}{vs:List V}(F:FnOk X.prog X.w X.K X.mg X.base CX k f fd ps sp)(hr:dP k X.A)(hb:fG X.K fd ps [])(hx:∀e s',CX X.stack H s E e s'->X.xe e s')
  (I:Inv X ae σ H s) (r:Vals vs us) (h:sp vs H Q E):wpAny (model X.prog X.w) X.A (call (.ref f) us) (EP X ae σ Q) X.xe s:=by
 have Tv:=hb s us I.nN (by rw[gj,<-r.length];exact F.len _ _ _ _ h)
 rw[gj]at Tv;refine wpAny_call (lJ (F.run X.A X.stack s H ⟨us,[]⟩ us vs Q E hr I.Qc Tv r h) λr s' hq=>?_)
 cases r with
 | error e=>exact hx e s' hq
 | ok fl =>
  cases fl with
  | ret u=>exact I.after hq
  | next=>exact False.elim hq
  | brk=>exact False.elim hq
  | cont=>exact False.elim hq
def Vt:Rs PV->Rs PV
 | .ok p=>.ok p
 | .ex _ C=>.ex false C
def gZ(h:List ah)(p:PV):Option PV:=if h.isEmpty=true then some p else kL h 4 p
def M1(st:bT):Rs PV×List ah->Option (Rs PV×bT)
 | (.ok p,h)=>(gZ h p).map λq=>(.ok q,st)
 | (.ex _ C,_)=>some (.ex false C,st)
def ED(n:Nat)(g:mI)(as:List PV):Gx PV:=λst=>if as.length=n then(g as st.h).map λr=>(Vt r.1,⟨st.ρ,r.2⟩)else none
def jO(n:Nat)(g:mI)(as:List PV):Gx PV:=λst=>if as.length=n/\(st.h.isEmpty || aT as)=true then(g as []).bind (M1 st)else none
def EE(n:Nat)(g:mI)(ts:Gx (List PV)):Gx PV:=bnd ts (jO n g)
def IG(X:Cx)(f:Addr)(w:List PV->Gx PV):Prop:=∀(aa H:Hp) (ab F:Fz) (st:bT) (σ:St) (ae:List (Addr×Obj)) (s:Shared) (Q:VK) (as:List PV) (us:List Value) (vs:List V),Inv X ae σ H s->Rep X.K aa ab F st σ H->ao X.K F as vs->Vals vs us->Tx X aa ab (bc X.K) F st (w as) σ Q ->
 wpAny (model X.prog X.w) X.A (call (.ref f) us) (EP X ae σ Q) X.xe s
def Vu(G:FnOk X.prog X.w X.K X.mg X.base (kc X.prog X.w) k f fd ps (BA X.K n g))(hr:dP k X.A)(hb:fG X.K fd ps []):IG X f (ED n g):=by
 rintro aa H ab F st σ ae s Q as us vs I R b r ⟨q,e1,e2⟩
 obtain⟨hl,e1⟩:=bE e1;obtain⟨⟨rs,h'⟩,e3,e4⟩:=aM e1;subst e4;obtain⟨C,full⟩:=R.c.enter;cases rs with
 | ok p'=>exact mW G hr hb (λe s' hx=>DS ae σ H s e s' I hx) I r ⟨_,F,st.h,as,_,h',C,full,b,hl,e3,λv F' H' D b'=>e2 v H' F' ⟨R.c.leave D,R.l.mono D.base⟩ D.base b'⟩
 | ex m c=>exact thn (mW (Q:=λ_ _=>False) G hr hb (λe s' hx=>e2 σ ae H s e s' I hx) I r ⟨_,F,st.h,as,_,h',C,full,b,hl,e3,λcls F' H' D hc=>⟨hc,F',⟨R.c.leave D,R.l.mono D.base⟩,D.base⟩⟩) (by rintro v s3 ⟨_,_,_,_,z⟩;exact z.elim)
def Rep.back{K:W.Frag}{aa H H1 H':Hp}{ab F F':Fz}{μ:List Addr}{st:bT}{σ:St}{h':List ah}(R:Rep K aa ab F st σ H)(hH:bU H H1)(D:jL K H1 ⟨F.F,μ⟩ F' h' H'):Rep K aa ab ⟨jm F' h' H',F.μ⟩ st σ H'/\Gr F ⟨jm F' h' H',F.μ⟩:=by
 have g:bU F.F (jm F' h' H'):=λb o e=>gD (D.base.s b o e)
 refine⟨R.after (hH.trans D.keep) g rfl (λb o e=>?_) (λa o e=>?_),g,λ_ _ z=>z⟩
 ·rcases vt e with z | ⟨z,_⟩
  ·exact D.sub b o z
  ·exact z
 ·rcases vt e with z | ⟨_,n,z⟩
  ·exact(D.fresh a o z).imp_right hH.free
  ·exact .inr (hH.free (D.new n a z).1)
def jL.pure{K:W.Frag}{aa H:Hp}{ab F:Fz}{h:List ah}(C:jL K aa ab F h H):jL K H ⟨F.F,[]⟩ ⟨F.F,[]⟩ [] H :=
 ⟨C.sub,bU.refl H,Gr.refl _,λa o e=>.inl e,λn a e=>by simp at e,rfl,lF,λn c a e=>by simp at e⟩
def EF{K:W.Frag}{H H':Hp}{G F':Fz}{h':List ah}{p q:PV}{v:V}(μ:List Addr)(D:jL K H G F' h' H')(e:gZ h' p=some q)(b:bc K F' p v):bc K ⟨jm F' h' H',μ⟩ q v:=by
 unfold gZ at e;split at e
 ·rename_i z;cases e;have e0:F'.μ=[]:=rM (by rw[<-D.hl,List.isEmpty_iff.mp z];rfl)
  exact b.mono ⟨λb o e=>gD e,λn a e=>by rw[e0]at e;simp at e⟩
 ·exact D.kL μ _ _ _ _ e b
def qN{K:W.Frag}{aa H:Hp}{ab F:Fz}{st:bT}{σ:St}{as:List PV}{vs:List V}(R:Rep K aa ab F st σ H)(hn:(st.h.isEmpty || aT as)=true)(b:ao K F as vs)(μ:List Addr):ao K ⟨F.F,μ⟩ as vs:=by
 rcases Bool.or_eq_true _ _▸hn with z | z
 ·have e0:F.μ=[]:=rM (by rw[<-R.c.hl,List.isEmpty_iff.mp z];rfl)
  exact ao.mono (F:=F) (F':=⟨F.F,μ⟩) ⟨bU.refl _,λn a e=>by rw[e0]at e;simp at e⟩ b
 ·exact b.any z
def M3(G:FnOk X.prog X.w X.K X.mg X.base (kc X.prog X.w) k f fd ps (BA X.K n g))(hr:dP k X.A)(hb:fG X.K fd ps []):IG X f (jO n g):=by
 rintro aa H ab F st σ ae s Q as us vs I R b r ⟨q,e1,e2⟩
 obtain⟨⟨hl,hn⟩,e1⟩:=bE e1;obtain⟨⟨rs,h'⟩,e3,e4⟩:=aE e1;have full:∀b o,H b=some o->H b=some o\/∃n:Nat,(Fz.mk F.F []).μ[n]?=some b:=by grind
 have b3:=qN R hn b [];cases rs with
 | ok p' =>
  obtain⟨p2,e5,e6⟩:=aM e4;subst e6;refine mW G hr hb (λe s' hx=>DS ae σ H s e s' I hx) I r ⟨H,⟨F.F,[]⟩,[],as,_,h',R.c.pure,full,b3,hl,e3,λv F' H' D b'=>?_⟩
  obtain⟨R3,g3⟩:=R.back (bU.refl _) D;exact e2 v H' _ R3 g3 (EF F.μ D e5 b')
 | ex m c =>
  cases e4;refine thn (mW (Q:=λ_ _=>False) G hr hb (λe s' hx=>e2 σ ae H s e s' I hx) I r ⟨H,⟨F.F,[]⟩,[],as,_,h',R.c.pure,full,b3,hl,e3,λcls F' H' D hc=>?_⟩) (by rintro v s3 ⟨_,_,_,_,z⟩;exact z.elim)
  obtain⟨R3,g3⟩:=R.back (bU.refl _) D;exact⟨hc,_,R3,g3⟩
def M4{w:List PV->Gx PV}(G:IG X f w)(hg:Gl X x)(hm:X.mg x=some (.ref f))(hk:W.keepIn X.K (.ref f)=true)(ha:PA X (e::es) (tA X aa ab ts))(zy:(x==("__debug__":Str))=false)
  (he:starEach (e::es) X.env=(false,eval e X.env)::starEach es X.env) (kn:(backTo pos (starEach es X.env)).any (·.1)=false):PE X (.Call (.Name x p) (e::es) [] pos) (tE X aa ab (bnd ts w)):=by
 rintro ae s σ H Q I ⟨F1,st,R,h⟩
 refine iA (ld_glob I hg hm ?_ zy);exact W.callWith_K I.ok.mod.kin hk (thn (ha pos ae s σ H (λvs H2=>∃F2 dk as,Rep X.K aa ab F2 dk σ H2/\ao X.K F2 as vs/\Tx X aa ab (bc X.K) F2 dk (w as) σ Q) I
  ⟨F1,st,R,h.bnd λas vs F2 dk H2 R2 g2 b2 h2=>⟨F2,dk,as,R2,b2,h2⟩⟩) (by rintro us s1 ⟨vs,H2,I2,r,F2,dk,as,R2,b2,z⟩;exact⟨I2.nN,G _ _ _ _ _ _ _ _ _ _ _ _ I2 R2 b2 r z⟩)) he kn
end
end L2.U
namespace L2
open PySem PySem.Spec PyProof.Rows
section
variable {X:Cx} {ae:List (Addr×Obj)} {σ:St} {H:Hp} {s:Shared} {a b:Addr} {k:List cz} {xs:List (List cz×Addr×Value)}
theorem gE{α β:Type}(f:α->β):∀(l:List α) (i:Nat),(l.eraseIdx i).map f=(l.map f).eraseIdx i
 | [],_=>rfl
 | _::_,0=>rfl
 | x::l,i+1=>eX (f x::·) (gE f l i)
def Rb(K:W.Frag):V->List V->Hp->VK->Prop:=λx vs H Q=>∃a b xs k j p y,x=.ref a/\vs=[.ref b]/\H a=some (.dT xs)/\ej K H xs/\fA K H b (k.map kV)/\xs[j]?=some (k,p)/\RelV y p.2/\Q y (bZ H a (.dT (xs.eraseIdx j)))
def M5{α β:Type}{xs:List (α×β)}{i j:Nat}{k:α}{p q:β}(hn:(xs.map (·.1)).Nodup)(h1:xs[i]?=some (k,p))(h2:xs[j]?=some (k,q)):i=j:=by
 refine(List.getElem?_inj (l:=xs.map (·.1)) ?_ hn).mp ?_
 ·rw[ak];exact(dI.mp h1).1
 ·rw[bR,bR,h1,h2];rfl
def M6(hu:X.A.units+1150<cLine):L6 X "dict.pop" (Rb X.K):=by
 intro ae s σ H x vs v us Q I rx rv h;obtain⟨a,b,xs,k,j,p,y,rfl,rfl,e,hk,eb,hj,ry,q⟩:=h;cases rx;obtain⟨u1,rfl,r1⟩:=rv.one;cases r1;obtain⟨z,hd,dd⟩:=qD I (.inl e) hk;have hT:=dd.typeIs;obtain⟨o,es,ep,h1,h2,h3,h4,h5,h6⟩:=dd;have Xx:es[j]?=some (entryOfKey (tupleKind (br X.prog X.w)) (k,p)):=by rw[entry_at h4,hj];rfl
 have ky:=key_is I eb;have Xy:(tupleKind (br X.prog X.w)).room X.A.in1:=nr (by lia)
 refine dt PySem.F.slot_dict_pop hT PySem.F.entry_dict_pop ?_ (PySem.F.args_dict_pop_2 _ _);unfold Builtin.«dict.pop» Builtin.Dict.keyAndDefault;refine af (af (wY hT ?_));show wpAny _ _ (pure (a,Value.ref b,none)) _ _ s;refine ag ?_;simp only[show(keyPart (Value.ref b)).isSome=false from rfl,eR,de]
 refine af (xk h1 h3 (af (ag ?_)));have zS:es.isEmpty=false:=by
  rw[Array.isEmpty_eq_false_iff]
  rintro rfl
  simp at Xx
 rw[zS];simp only[eR,de];refine af ?_;unfold Builtin.Dict.takeOut
 try with_reducible refine bX ?_
 refine af ((tupleKind (br X.prog X.w)).pyHash Xy ky (af (wpAny_dictFind_heap (s:={s with toks:=s.toks+(tupleKind (br X.prog X.w)).draws k}) Xy ky h1 h3 h4 h5 h6 (λUL=>absurd hj (UL j p)) λj' p' Vv=>?_)))
 cases M5 h6 hj Vv;refine af (xk (s:={s with toks:=s.toks+(tupleKind (br X.prog X.w)).draws k}) h1 h3 ?_)
 rw[Xx];refine af (wpAny_updateDictKeys (hz:=by rw[size_of_entries h4];exact z) (s:={s with toks:=s.toks+(tupleKind (br X.prog X.w)).draws k}) h1 h3 (ag ?_))
 simp only[Option.isNone_some,eR,de];refine af (gP (ag ⟨_,rfl,y,_,I.write (x:=a) (e:=a) (o:=.dT (xs.eraseIdx j)) (by rw[e];exact True.intro) (.inl rfl) (λc q' hc z=>((w9 ..).2 c hc).trans z) ⟨_,iz _ h1 (Obj.isFreed_of_dict (w5 h3 _))⟩ ⟨?_,hd,_,_,_,iz _ h1 (Obj.isFreed_of_dict (w5 h3 _)),h2.mapDictKeys _,w5 h3 _,?_,?_⟩,ry,q⟩))
 ·exact aD (List.length_eraseIdx_le ..) z
 ·rw[gE,<-h4];obtain⟨l⟩:=es;simp
 ·rw[gE];exact h6.sublist (List.eraseIdx_sublist ..)
end
end L2
namespace L2.U
open PySem PySem.Spec PyProof.Rows
def M7:MG:=λc as=>match c.k,as with
 | .eJ true ks,[kp]=>(iP true kp).bind λk=>(ks.findIdx? λx=>decide (x=k)).bind λj=>(c.ps[j]?).map λp=>(⟨.eJ true (ks.eraseIdx j),c.ps.eraseIdx j⟩,p)
 | _,_=>none
section
variable {X:Cx}
def IH:vk X.K (Rb X.K) M7:=by
 intro aa H ab F st σ n c c' a as ws q Q R hc hl ha hg hb k;unfold M7 at hg;split at hg
 ·rename_i ks kp hk;obtain⟨kk,e1,e2⟩:=aE hg;obtain⟨j,e5,e3⟩:=aE e2;obtain⟨p,e6,e4⟩:=aM e3;cases e4;obtain⟨w1,rfl,b1⟩:=b7 hb;obtain⟨cc,rfl,O1⟩:=iQ e1 b1;obtain⟨_,vs,h2,h3⟩:=R.c.cell n c a hc ha hl;rw[hk]at h2;obtain⟨xs,g1,g2,g3,g4⟩:=h2;obtain⟨f1,f2,_⟩:=CG.mp e5;have f2:=eS f2;subst g3;rw[ak]at f1;rw[List.getElem_map]at f2;have hx:xs[j]?=some (kk,xs[j].2):=by rw[b9 f1,<-f2]
  obtain⟨y,hy,Ze⟩:=h3.get e6;obtain⟨u,hu,ry⟩:=g4.get hy;rw[bR,b9 f1]at hu;cases hu;refine⟨a,cc,xs,kk,j,xs[j].2,y,rfl,rfl,g1,λz hz=>aU R.sub (g2 z hz),aU R.sub O1,hx,ry,k y F _ (R.put (vs:=vs.eraseIdx j) hc hl ha ⟨xs.eraseIdx j,au,λz hz=>g2 z (List.mem_of_mem_eraseIdx hz),gE _ _ _,by rw[gE];exact g4.eraseIdx j⟩ ?_) (Gr.refl _) ?_⟩
  ·show ao _ _ (c.ps.eraseIdx j) (vs.eraseIdx j);rw[CH,CH];exact(h3.take _).append (h3.drop _)
  ·exact Ze
 ·cases hg
end
end L2.U
namespace L2
open PySem PySem.Spec PyProof.Rows
section
variable {X:Cx}
def Ks(K:W.Frag):V->List V->Hp->VK->Prop:=λx vs H Q=>∃a kvs k,x=.ref a/\vs=[kV k]/\H a=some (.dK kvs)/\Q ((fS kvs k).getD .aN) H
def II(hu:X.A.units+1150<cLine):L6 X "dict.get" (Ks X.K):=by
 intro ae s σ H x xs v us Q I rx rv h;obtain⟨a,kvs,k,rfl,rfl,e,h1⟩:=h;cases rx;obtain⟨u1,rfl,r1⟩:=rv.one;obtain⟨z,hd,vs,rel,dd⟩:=DQ I.hok e;refine call_meetsIn PySem.F.slot_dict_get dd.typeIs PySem.F.entry_dict_get (PySem.F.args_dict_get_2 _ _) (meets_dict_get (br X.prog X.w) a (mm r1) hd) ⟨_,dd.mapOf,(fS kvs k).getD .aN,H,I.tok _,?_,h1⟩;have rk:=rel.val k;cases hv:fS kvs k<;>cases hw:valueAt vs k<;>rw[hv,hw]at rk
 ·rfl
 ·exact rk.elim
 ·exact rk.elim
 ·exact rk
end
end L2
namespace L2.U
open PySem PySem.Spec PyProof.Rows
def IJ(h:List ah)(p:PV)(as:List PV):Option PV:=match c9 h p,as with
 | some (.eJ false ks,ps),[kp]=>(iP false kp).bind λk=>if gX k ks=true then dY k ks ps else some .aN
 | _,_=>none
def M8(p:PV)(as:List PV):Gx PV:=hp λh=>IJ h p as
section
variable {X:Cx} {aa H:Hp} {ab F:Fz} {st:bT} {σ:St}
def Tx.get{Q:VK}(h:Tx X aa ab (bc X.K) F st (M8 p as) σ Q)(R:Rep X.K aa ab F st σ H)(bp:bc X.K F p v)(ba:ao X.K F as ws):Ks X.K v ws H Q:=by
 obtain⟨x,h1,h2⟩:=h.hp;unfold IJ at h1;split at h1
 ·rename_i ks ps kp z;obtain⟨kk,e1,e2⟩:=aE h1;obtain⟨a,vs,rfl,ha,eM⟩:=R.at z bp;obtain⟨kvs,k1,k2,k3⟩:=ha;obtain⟨w,Xz,rfl,b1,b2⟩:=ba.bB;cases b2.bL;obtain⟨j,rfl,rfl⟩:=gy e1 b1;rw[<-k3]at eM;rw[<-k2]at e2;refine⟨a,kvs,j,rfl,rfl,k1,h2 _ _ F R (Gr.refl _) ?_⟩;cases hv:fS kvs j with
  | none =>
   rw[if_neg (by rw[iR,hv];simp)]at e2
   cases e2;exact cj.mpr rfl
  | some v =>
   rw[if_pos (by rw[iR,hv];rfl)]at e2
   obtain⟨v',LW,bv⟩:=mT e2 eM;rw[hv]at LW;cases LW;exact bv
 ·cases h1
end
def Rc(T:String):Kd->Bool
 | .lst=>T=="list"
 | .eJ _ _=>T=="dict"
 | _=>false
def Zf(T:String)(p:PV):Gx Unit:=hp λh=>(c9 h p).bind λq=>if Rc T q.1=true then some ()else none
section
variable {X:Cx} {aa:Hp} {ab:Fz} {e o:Expr} {es:List Expr} {fo fe:Gx PV} {ts:Gx (List PV)} {pos kh fR:Pos} {T id:String} {name:Str} {r:V->List V->Hp->VK->Prop}
def Rep.tyV{K:W.Frag}{st:bT}(R:Rep K aa ab F st σ H)(e:c9 st.h p=some (k,ps))(ht:Rc T k=true)(b:bc K F p v):L2.tyV K T v H:=by
 obtain⟨a,vs,rfl,h2,h3⟩:=R.at e b
 match k,ht,h2 with
 | .lst,ht,h2=>exact .inl ⟨aH ht,vs,gq.sq h2⟩
 | .eJ false ks,ht,⟨kvs,h2,_⟩=>exact .inr (.inr (.inl ⟨aH ht,.inl ⟨kvs,h2⟩⟩))
 | .eJ true ks,ht,⟨xs,h2,_⟩=>exact .inr (.inr (.inl ⟨aH ht,.inr ⟨xs,h2⟩⟩))
def IK(T:String)(w:PV->List PV->Gx PV)(fo:Gx PV)(ts:Gx (List PV)):Gx PV:=bnd fo λp=>bnd (Zf T p) λ_=>bnd ts λas=>w p as
def Rf(X:Cx)(r:V->List V->Hp->VK->Prop)(w:PV->List PV->Gx PV):Prop:=∀(aa H:Hp) (ab F:Fz) (st:bT) (σ:St) (p:PV) (as:List PV) (v:V) (ws:List V) (Q:VK),Tx X aa ab (bc X.K) F st (w p as) σ Q->Rep X.K aa ab F st σ H->bc X.K F p v->ao X.K F as ws->r v ws H Q
def jP(hw:Rf X r w)(h:tE X aa ab (IK T w fo ts) σ H Q):W3 X.K T r (tE X aa ab fo) (tA X aa ab ts) σ H Q:=by
 obtain⟨F,st,R,h⟩:=h;refine⟨F,st,R,h.bnd λp v F1 aL H1 R1 g1 b1 h1=>?_⟩
 obtain⟨u,e,z⟩:=At.hp (At.bnd h1);obtain⟨⟨k,ps⟩,e1,e2⟩:=aE e;obtain⟨hk,_⟩:=ax e2;refine⟨R1.tyV e1 hk b1,F1,aL,R1,Tx.bnd z λas ws F2 dk H2 R2 g2 b2 h2=>hw aa H2 ab F2 dk σ p as v ws Q h2 R2 (b1.mono g2) b2⟩
def IL(hw:Rf X r w)(h:tE X aa ab (IK T w fo (bV [])) σ H Q):Qm X.K T r (tE X aa ab fo) σ H Q:=by
 obtain⟨F,st,R,h⟩:=h;refine⟨F,st,R,h.bnd λp v F1 aL H1 R1 g1 b1 h1=>?_⟩
 obtain⟨u,e,z⟩:=At.hp (At.bnd h1);obtain⟨⟨k,ps⟩,e1,e2⟩:=aE e;obtain⟨hk,_⟩:=ax e2;exact⟨R1.tyV e1 hk b1,hw aa H1 ab F1 aL σ p [] v [] Q (At.bV (At.bnd z)) R1 b1 .nil⟩
def oq(hg:vk X.K r g):Rf X r (pX g):=λ_ _ _ _ _ _ _ _ _ _ _ h R bp ba=>Tx.mut hg h R bp ba
def M9:Rf X (MK X.K) D9:=λ_ _ _ _ _ _ _ _ _ _ _ h R bp ba=>Tx.ext h R bp ba
def vv(m:Str):Option (String×(PV->List PV->Gx PV)) :=
 if m==("append":Str)then some ("list",pX (iM yl))
 else if m==("extend":Str)then some ("list",D9)
 else if m==("insert":Str)then some ("list",pX (iM Il))
 else if m==("setdefault":Str)then some ("dict",pX Io)
 else if m==("pop":Str)then some ("dict",pX M7)
 else if m==("get":Str)then some ("dict",M8)
 else none
def yq(m:Str):Option (String×(PV->List PV->Gx PV)) :=
 if m==("reverse":Str)then some ("list",pX (iM Ij))
 else if m==("pop":Str)then none
 else if m==("clear":Str)then none
 else none
def Vw(hu:X.A.units+1150<cLine)(ht:vv name=some (T,w))(ho:PE X o (tE X aa ab fo))(ha:PA X (e::es) (tA X aa ab ts))(fY:attributeBase o name X.env (eval o X.env)=eval o X.env)
  (pQ:((backTo fR (starEach (e::es) X.env)).all (λx=>!x.1)&&(backToKw fR (keywordEach [] X.env)).all (λx=>x.1.isSome)&&decide ((e::es).length+([]:List Keyword).length+(if([]:List Keyword).isEmpty then 0 else 1)<30))=true)
  (fq:(kh.endLine==fR.line)=true) (j9:starEach (e::es) X.env=(false,eval e X.env)::starEach es X.env) (kn:(backTo fR (starEach es X.env)).any (·.1)=false):PE X (.Call (.Attribute o name kh) (e::es) [] fR) (tE X aa ab (IK T w fo ts)):=by
 unfold vv at ht;split at ht
 ·rename_i hx;cases ht;have hx:=aH hx;subst hx;exact(nZ m9 PySem.F.slot_list_append PySem.F.type_list_append A9 ho ha fY pQ fq j9 kn).imp λ_ _ _ h=>jP (oq Ih) h
 ·split at ht
  ·rename_i hx;cases ht;have hx:=aH hx;subst hx;exact(nZ m9 PySem.F.slot_list_extend PySem.F.type_list_extend ML ho ha fY pQ fq j9 kn).imp λ_ _ _ h=>jP M9 h
  ·split at ht
   ·rename_i hx;cases ht;have hx:=aH hx;subst hx;exact(nZ m9 PySem.F.slot_list_insert PySem.F.type_list_insert Bp ho ha fY pQ fq j9 kn).imp λ_ _ _ h=>jP (oq Im) h
   ·split at ht
    ·rename_i hx;cases ht;have hx:=aH hx;subst hx;exact(nZ wR CJ PySem.F.type_dict_setdefault MI ho ha fY pQ fq j9 kn).imp λ_ _ _ h=>jP (oq Ip) h
    ·split at ht
     ·rename_i hx;cases ht;have hx:=aH hx;subst hx;exact(nZ wR PySem.F.slot_dict_pop PySem.F.type_dict_pop (M6 hu) ho ha fY pQ fq j9 kn).imp λ_ _ _ h=>jP (oq IH) h
     ·split at ht
      ·rename_i hx;cases ht;have hx:=aH hx;subst hx;exact(nZ wR PySem.F.slot_dict_get PySem.F.type_dict_get (II hu) ho ha fY pQ fq j9 kn).imp λ_ _ _ h=>jP (λ_ _ _ _ _ _ _ _ _ _ _ h R bp ba=>Tx.get h R bp ba) h
      ·cases ht
def Rg(ht:yq name=some (T,w))(ho:PE X o (tE X aa ab fo))(fY:attributeBase o name X.env (eval o X.env)=eval o X.env)(fq:(kh.endLine==fR.line)=true) :
  PE X (.Call (.Attribute o name kh) [] [] fR) (tE X aa ab (IK T w fo (bV []))):=by
 unfold yq at ht;split at ht
 ·rename_i hx;cases ht;have hx:=aH hx;subst hx;exact(DL m9 PySem.F.slot_list_reverse PySem.F.type_list_reverse yb ho fY fq).imp λ_ _ _ h=>IL (oq Ik) h
 ·grind
def Rh(po pi pv:PV):bT->Option bT:=λst=>(Bq st.h po).bind λc=>match c.2.k with
 | .lst=>(pW pi).bind λi=>(GA c.2.ps.length i).map λj=>⟨st.ρ,st.h.set c.1 ⟨.lst,c.2.ps.set j pv⟩⟩
 | .eJ t ks=>(iP t pi).bind λk=>if ks.length<iN then some ⟨st.ρ,st.h.set c.1 (tD t k pv ks c.2.ps)⟩else none
 | _=>none
def Vx(K:W.Frag):Dr:=λo i v H Q=>∃aa ab F st τ po pi pv bK,Rh po pi pv st=some bK/\Rep K aa ab F st τ H/\bc K F po o/\bc K F pi i/\bc K F pv v/\∀H' F',Rep K aa ab F' bK τ H'->Gr F F'->Q H'
def Rj(hu:X.A.units+1150<cLine):Ds X (Vx X.K):=by
 rintro ae s σ H o i v ov iv u Q I ro ri rv ⟨aa,ab,F,st,τ,po,pi,pv,bK,e,R,bo,bi,bv,k⟩
 obtain⟨⟨n,c⟩,e1,e0⟩:=aE e;clear e;have e:=e0;clear e0;obtain⟨rfl,hc,hl⟩:=gz e1;obtain⟨a,ha,rfl⟩:=cY.mp bo;obtain⟨_,vs,h2,h3⟩:=R.c.cell n c a hc ha hl;split at e
 ·rename_i hk;obtain⟨j,e2,e⟩:=aE e;obtain⟨m,e3,rfl⟩:=aM e;rw[eu e2]at bi;have hk:=hk;rw[hk]at h2;refine DJ ae s σ H _ _ v ov iv u Q I ro ri rv ⟨a,vs,j,m,rfl,aw.mp bi,h2,by rw[<-h3.length];exact e3,k _ F (R.put hc hl ha au (h3.set bv m)) (Gr.refl _)⟩
 ·rename_i t ks hk;have hk:=hk;obtain⟨kk,e2,e⟩:=aE e;obtain⟨hz,rfl⟩:=ax e;rw[hk]at h2;cases t with
  | false =>
   obtain⟨kvs,g1,g2,g3⟩:=h2;obtain⟨j,rfl,rfl⟩:=gy e2 bi;rw[<-g3]at h3;obtain⟨qH,uy,p1,p2,p3⟩:=D7 (j:=j) bv h3;have cX:kvs.length<sizeLine:=by
    have:ks.length=kvs.length:=by grind
    exact bN (by grind) (cQ (ar _))
   rw[g2]at p1;refine MM ae s σ H _ _ v ov iv u Q I ro ri rv ⟨a,kvs,j,rfl,rfl,g1,cX,k _ F ?_ (Gr.refl _)⟩;simp only[p1];exact R.put hc hl ha ⟨_,au,p2,rfl⟩ p3
  | true =>
   obtain⟨xs,g1,g2,g3,g4⟩:=h2;obtain⟨cc,rfl,O1⟩:=iQ e2 bi;refine MN (by lia) ae s σ H _ _ v ov iv u Q I ro ri rv ⟨a,cc,xs,kk,rfl,rfl,g1,λz hz=>aU R.sub (g2 z hz),aU R.sub O1,(by
    have:ks.length=xs.length:=by grind
    exact bN (by grind) (cQ (ar _))),λr hr=>?_⟩
   obtain⟨qH,uy,uz,p1,p2,p3,p4,p5⟩:=ME bv hr O1 g2 h3 g4;rw[g3]at p1;refine k _ F ?_ (Gr.refl _);simp only[p1];exact R.put hc hl ha ⟨_,au,p3,p2,p5⟩ p4
 ·cases e
def Na(fv fo fi:Gx PV):Gx ek:=bnd fv λv=>bnd fo λo=>bnd fi λi=>stp (Rh o i v)
def Rk(hu:X.A.units+1150<cLine)(he:PE X e (tE X aa ab fv))(ho:PE X o (tE X aa ab fo))(hi:PE X k (tE X aa ab fi))
  (ha:∀v,assign (.Subscript o k Bs) X.env v=(do
   let ov <-holding [v] (eval o X.env)
   let iv <-holding [v,ov] (eval k X.env)
   standAt Bs
   holding [v,ov,iv] (setItem ov iv v)
   release [v,ov,iv] []))
  (hs:swapsWithSole [.Subscript o k Bs] e pos.line X.env=pure false) (hw:swappedStores [.Subscript o k Bs] e X.env=pure none):PS X (.Assign [.Subscript o k Bs] e pos) (tS X aa ab (Na fv fo fi)) :=
 (Du he (LC ho hi (Rj hu) ha) hs hw rfl).imp λD σ H ⟨F,st,R,h⟩=>⟨F,st,R,h.bnd λpv v F1 aL H1 R1 g1 b1 h1=>⟨F1,aL,R1,h1.bnd λpo o F2 dk H2 R2 g2 b2 h2=>⟨F2,dk,R2,h2.bnd λpi i F3 Hg H3 R3 g3 b3 h3=>by
  obtain⟨bK,e,z⟩:=h3.stp;exact⟨aa,ab,F3,Hg,σ,po,pi,pv,bK,e,R3,b2.mono g3,b3,b1.mono (g2.trans g3),λH' F' R' g'=>z F' σ H' R' g'⟩⟩⟩⟩
def Nb(t:Bool):Gx PV:=ik ⟨.eJ t [],[]⟩
def Rl(t:Bool):PE X (.Dict [] [] pos) (tE X aa ab (Nb t)):=by
 cases t with
 | false=>exact D8.imp (by rintro σ H Q ⟨F,st,R,h⟩ p hp;exact Tx.ik h R hp ⟨[],au,rfl,rfl⟩ .nil)
 | true=>exact HI.imp (by rintro σ H Q ⟨F,st,R,h⟩ p hp;exact Tx.ik h R hp ⟨[],au,(λ_ z=>nomatch z),rfl,.nil⟩ .nil)
end
def Ab(K:W.Frag)(mg:Str->Option Value)(P:Params)(T:Str)(rows:List (Str×Str)):Prop :=
 ∃a es n,mg T=some (.ref a)/\K.lookup a=some ⟨.type "dict",none,.dict es n,#[]⟩/\W.KeysLit P es.toList/\∀k fn,rows.lookup k=some fn->∃f,W.nsIn K a k=some (some (.ref f))/\mg fn=some (.ref f)/\W.nsIn K mainGlobals fn=some (some (.ref f))
def ot(K:W.Frag)(mg:Str->Option Value)(P:Params)(T:Str)(rows:List (Str×PV)):Prop :=
 ∃a es n,(a==sysModules)=false/\mg T=some (.ref a)/\K.lookup a=some ⟨.type "dict",none,.dict es n,#[]⟩/\W.KeysLit P es.toList/\∀k p,rows.lookup k=some p->∃u v,W.nsIn K a k=some (some u)/\RelV v u/\∀F,bc K F p v
def Vy(K:W.Frag)(a:Addr):R2:=λx y H Q=>∃k u v,x=.ref a/\y=.str k/\W.nsIn K a k=some (some u)/\RelV v u/\Q v H
def vw:PV->Option Str | .str x=>some x | _=>none
def jd(h:vw p=some i):p=.str i:=by
 cases p<;>first | (cases h;rfl) | cases h
section
variable {X:Cx} {aa:Hp} {ab:Fz} {e ke:Expr} {es:List Expr} {fk fe ff:Gx PV} {ts:Gx (List PV)} {pos p sp:Pos} {T:Str}
def EG{es:Array DictEntry}(hl:X.K.lookup a=some ⟨.type "dict",none,.dict es n,#[]⟩)(hk:W.KeysLit X.w.params es.toList):O3 X (Vy X.K a):=by
 rintro value slice ae s σ H x y v u Q I rx ry ⟨k,u',v',ex,ey,e,rv,q⟩ hs
 subst ex ey;cases rx;obtain⟨t,rfl⟩:=ry;have hm:=W.mapOf_K (prog:=X.prog) I.nN hl hk;exact lK hm.typeIs slot_dict_getitem.lookup (wpAny_getItem_of (nJ X.prog X.w k t) hm (W.find_K hl e) ⟨v',H,I.tok _,rv,q⟩) hs
def EH(Hq:Str->Option PV)(fk:Gx PV):Gx PV:=bnd fk λq=>fy ((vw q).bind Hq)
def Rm(ht:ot X.K X.mg X.w.params T rows)(hg:Gl X T)(hk:PE X ke (tE X aa ab fk))(hs:kr ke)(zy:(T==("__debug__":Str))=false):PE X (.Subscript (.Name T p) ke sp) (tE X aa ab (EH (λk=>rows.lookup k) fk)):=by
 obtain⟨a,J3,n,_,t1,t2,t3,t4⟩:=ht;refine(DI (EG t2 t3) (kl (v:=.ref a) hg t1 rfl zy) hk hs).imp λσ H Q ⟨F,st,R,h⟩=>?_
 refine⟨F,st,R,h.bnd λpk v F1 aL H1 R1 g1 b1 h1=>?_⟩
 obtain⟨q,e1,z⟩:=h1.fy;obtain⟨k,e2,e3⟩:=aE e1;rw[jd e2]at b1;obtain⟨u,w,n1,n2,n3⟩:=t4 k q e3;exact⟨k,u,w,rfl,bf.mp b1,n1,n2,z _ H1 F1 R1 (Gr.refl _) (n3 F1)⟩
def IM(K:W.Frag)(a:Addr)(n:Bool):R2:=λx y H Q=>∃k u,x=.str k/\y=.ref a/\W.nsIn K a k=some (some u)/\Q (.bl (!n)) H
def Nc{es:Array DictEntry}(hd:(a==sysModules)=false)(hl:X.K.lookup a=some ⟨.type "dict",none,.dict es n,#[]⟩)(hk:W.KeysLit X.w.params es.toList):OpR X (compareOp .In) (IM X.K a false):=by
 rintro ae s σ H x y v u Q I rx ry ⟨k,u',ex,ey,e,q⟩
 subst ex ey;cases ry;obtain⟨t,rfl⟩:=rx;have hm:=W.mapOf_K (prog:=X.prog) I.nN hl hk;exact wpAny_in_of (nJ X.prog X.w k t) hd hm ⟨.bl true,H,I.tok _,by rw[W.find_K hl e];rfl,q⟩
def Nd{es:Array DictEntry}(hd:(a==sysModules)=false)(hl:X.K.lookup a=some ⟨.type "dict",none,.dict es n,#[]⟩)(hk:W.KeysLit X.w.params es.toList):OpR X (compareOp .NotIn) (IM X.K a true):=by
 rintro ae s σ H x y v u Q I rx ry ⟨k,u',ex,ey,e,q⟩
 subst ex ey;cases ry;obtain⟨t,rfl⟩:=rx;have hm:=W.mapOf_K (prog:=X.prog) I.nN hl hk;exact wpAny_notIn_of (nJ X.prog X.w k t) hd hm ⟨.bl false,H,I.tok _,by rw[W.find_K hl e];rfl,q⟩
def BC(rows:List (Str×PV))(n:Bool)(fk:Gx PV):Gx PV:=bnd fk λq=>fy ((vw q).bind λk=>(rows.lookup k).map λ_=>.bl (!n))
def EI(t0:(a==sysModules)=false)(t2:X.K.lookup a=some ⟨.type "dict",none,.dict J3 n',#[]⟩)(t3:W.KeysLit X.w.params J3.toList)(TQ:op=.In/\n=false\/op=.NotIn/\n=true):OpR X (compareOp op) (IM X.K a n):=by
 rcases TQ with⟨rfl,rfl⟩ | ⟨rfl,rfl⟩
 ·exact Nc t0 t2 t3
 ·exact Nd t0 t2 t3
def Kt(ht:ot X.K X.mg X.w.params T rows)(hg:Gl X T)(hk:PE X ke (tE X aa ab fk))(zy:(T==("__debug__":Str))=false)(TQ:op=.In/\n=false\/op=.NotIn/\n=true)(hb:behindInMarks op (.Name T p)=false) :
  PE X (.Compare ke [op] [.Name T p] sp) (tE X aa ab (BC rows n fk))/\PT X (.Compare ke [op] [.Name T p] sp) (tT X aa ab (toB (BC rows n fk))):=by
 obtain⟨a,J3,n',t0,t1,t2,t3,t4⟩:=ht;have im:∀{σ H Q},tE X aa ab (BC rows n fk) σ H Q->LJ (IM X.K a n) (tE X aa ab fk) (tC (.ref a)) σ H Q:=by
  intro σ H Q;rintro ⟨F,st,R,h⟩
  refine⟨F,st,R,h.bnd λpk v F1 aL H1 R1 g1 b1 h1=>?_⟩
  obtain⟨q,e1,z⟩:=h1.fy;obtain⟨k,e2,e3⟩:=aE e1;obtain⟨q',e4,rfl⟩:=aM e3;rw[jd e2]at b1;obtain⟨u,w,n1,n2,n3⟩:=t4 k q' e4;exact⟨k,u,bf.mp b1,rfl,n1,z _ H1 F1 R1 (Gr.refl _) (aR.mpr rfl)⟩
 exact⟨(zt (EI t0 t2 t3 TQ) hk (kl (v:=.ref a) hg t1 rfl zy) hb).imp λ_ _ _ h=>im h,(zu (EI t0 t2 t3 TQ) hk (kl (v:=.ref a) hg t1 rfl zy) hb).imp λ_ _ _ h=>im (toB_imp h)⟩
def Rq(ht:Ab X.K X.mg X.w.params T rows)(hg:Gl X T)(hk:PE X ke (tE X aa ab fk))(hs:kr ke)(zy:(T==("__debug__":Str))=false):PE X (.Subscript (.Name T p) ke sp) (tE X aa ab (EH (λk=>(rows.lookup k).map .fn) fk)):=by
 obtain⟨a,J3,n,t1,t2,t3,t4⟩:=ht;refine(DI (EG t2 t3) (kl (v:=.ref a) hg t1 rfl zy) hk hs).imp λσ H Q ⟨F,st,R,h⟩=>?_
 refine⟨F,st,R,h.bnd λpk v F1 aL H1 R1 g1 b1 h1=>?_⟩
 obtain⟨q,e1,z⟩:=h1.fy;obtain⟨k,e2,e3⟩:=aE e1;obtain⟨fn,e4,rfl⟩:=aM e3;rw[jd e2]at b1;obtain⟨f,n1,n2,n3⟩:=t4 k fn e4;exact⟨k,.ref f,.ref f,rfl,bf.mp b1,n1,rfl,z _ H1 F1 R1 (Gr.refl _) (lO.mpr ⟨f,rfl,n3⟩)⟩
def EJ(X:Cx)(fns:List (Str×Nat))(call:Str->mI):Prop:=∀x n,fns.lookup x=some n->∃k f fd ps,FnOk X.prog X.w X.K X.mg X.base (kc X.prog X.w) k f fd ps (BA X.K n (call x))/\dP k X.A/\X.mg x=some (.ref f)/\W.keepIn X.K (.ref f)=true/\fG X.K fd ps []
def TR:PV->Option Str | .fn x=>some x | _=>none
def vx{p:PV}(h:TR p=some i):p=.fn i:=by
 cases p<;>first | (cases h;rfl) | cases h
def qO(fns:List (Str×Nat))(call:Str->mI)(ff:Gx PV)(ts:Gx (List PV)):Gx PV:=bnd ff λq=>bnd (fy ((TR q).bind λx=>(fns.lookup x).map λn=>(x,n))) λx=>EE x.2 (call x.1) ts
def tM(v k:Expr)(sp:Pos)(args:List Expr)(pos:Pos)(env:Env):eval (.Call (.Subscript v k sp) args [] pos) env=(do callWith pos (<-eval (.Subscript v k sp) env) [] (backTo pos (starEach args env)) (backToKw pos (keywordEach [] env))):=rfl
def IP{call:Str->mI}(Lp:EJ X fns call)(HH:∀x a,W.nsIn X.K mainGlobals x=some (some (.ref a))->X.mg x=some (.ref a))(hf:PE X (.Subscript v k sp) (tE X aa ab ff))(ha:PA X (e::es) (tA X aa ab ts))
  (he:starEach (e::es) X.env=(false,eval e X.env)::starEach es X.env) (kn:(backTo pos (starEach es X.env)).any (·.1)=false):PE X (.Call (.Subscript v k sp) (e::es) [] pos) (tE X aa ab (qO fns call ff ts)):=by
 rintro ae s σ H Q I ⟨F,st,R,h⟩
 rw[tM];refine af (thn (hf ae s σ H (λv H1=>∃F1 aL q,Rep X.K aa ab F1 aL σ H1/\bc X.K F1 q v/\Tx X aa ab (bc X.K) F1 aL (bnd (fy ((TR q).bind λx=>(fns.lookup x).map λn=>(x,n))) λx=>EE x.2 (call x.1) ts) σ Q) I
  ⟨F,st,R,h.bnd λq v F1 aL H1 R1 g1 b1 h1=>⟨F1,aL,q,R1,b1,h1⟩⟩) λu s1 ⟨x,H1,I1,rx,F1,aL,q,R1,b1,h1⟩=>?_)
 obtain⟨⟨y,n⟩,e1,z⟩:=At.fy (At.bnd h1);obtain⟨y',e2,e3⟩:=aE e1;obtain⟨n',e4,e5⟩:=aM e3;simp only[jF]at e5;obtain⟨rfl,rfl⟩:=e5;rw[vx e2]at b1;obtain⟨a,rfl,Ms⟩:=lO.mp b1;obtain⟨j,f',fd,ps,G,hr,m1,m2,m3⟩:=Lp _ _ e4;have:=bt ((HH _ a Ms).symm.trans m1);cases this;cases rx;exact W.callWith_K I.ok.mod.kin m2 (thn (ha pos ae s1 σ H1 (λvs H2=>∃F2 dk as,Rep X.K aa ab F2 dk σ H2/\ao X.K F2 as vs/\Tx X aa ab (bc X.K) F2 dk (jO _ _ as) σ Q) I1
  ⟨F1,aL,R1,Tx.bnd z λas vs F2 dk H2 R2 g2 b2 h2=>⟨F2,dk,as,R2,b2,h2⟩⟩) (by rintro us s2 ⟨vs,H2,I2,r,F2,dk,as,R2,b2,z⟩;exact⟨I2.nN,M3 G hr m3 _ _ _ _ _ _ _ _ _ _ _ _ I2 R2 b2 r z⟩)) he kn
def IQ{call:Str->mI}(Lp:EJ X fns call)(HH:∀x a,W.nsIn X.K mainGlobals x=some (some (.ref a))->X.mg x=some (.ref a))(hf:PE X (.Name y p) (tE X aa ab ff))(ha:PA X (e::es) (tA X aa ab ts))
  (he:starEach (e::es) X.env=(false,eval e X.env)::starEach es X.env) (kn:(backTo pos (starEach es X.env)).any (·.1)=false):PE X (.Call (.Name y p) (e::es) [] pos) (tE X aa ab (qO fns call ff ts)):=by
 rintro ae s σ H Q I ⟨F,st,R,h⟩
 refine iA (thn (hf ae s σ H (λv H1=>∃F1 aL q,Rep X.K aa ab F1 aL σ H1/\bc X.K F1 q v/\Tx X aa ab (bc X.K) F1 aL (bnd (fy ((TR q).bind λx=>(fns.lookup x).map λn=>(x,n))) λx=>EE x.2 (call x.1) ts) σ Q) I
  ⟨F,st,R,h.bnd λq v F1 aL H1 R1 g1 b1 h1=>⟨F1,aL,q,R1,b1,h1⟩⟩) λu s1 ⟨x,H1,I1,rx,F1,aL,q,R1,b1,h1⟩=>?_)
 obtain⟨⟨y1,n⟩,e1,z⟩:=At.fy (At.bnd h1);obtain⟨y',e2,e3⟩:=aE e1;obtain⟨n',e4,e5⟩:=aM e3;simp only[jF]at e5;obtain⟨rfl,rfl⟩:=e5;rw[vx e2]at b1;obtain⟨a,rfl,Ms⟩:=lO.mp b1;obtain⟨j,f',fd,ps,G,hr,m1,m2,m3⟩:=Lp _ _ e4;have:=bt ((HH _ a Ms).symm.trans m1);cases this;cases rx;exact W.callWith_K I.ok.mod.kin m2 (thn (ha pos ae s1 σ H1 (λvs H2=>∃F2 dk as,Rep X.K aa ab F2 dk σ H2/\ao X.K F2 as vs/\Tx X aa ab (bc X.K) F2 dk (jO _ _ as) σ Q) I1
  ⟨F1,aL,R1,Tx.bnd z λas vs F2 dk H2 R2 g2 b2 h2=>⟨F2,dk,as,R2,b2,h2⟩⟩) (by rintro us s2 ⟨vs,H2,I2,r,F2,dk,as,R2,b2,z⟩;exact⟨I2.nN,M3 G hr m3 _ _ _ _ _ _ _ _ _ _ _ _ I2 R2 b2 r z⟩)) he kn
def Ac(f:Str):List Str->List PV->Option PV
 | g::ns,p::ps=>if g=f then some p else Ac f ns ps
 | _,_=>none
def Nf(f:Str)(fe:Gx PV):Gx PV:=bnd fe λp=>hp λh=>match c9 h p with
 | some (.ins _ ns,ps)=>Ac f ns ps
 | _=>none
theorem vy{K:W.Frag}:∀{fs:List (Str×V)} {ps:List PV} {p:PV},Ac f (fs.map (·.1)) ps=some p->ao K F ps (fs.map (·.2))->f∈fs.map (·.1)/\∃v,fs.lookup f=some v/\bc K F p v
 | [],_,_,h,_=>by cases h
 | (g,v)::r,[],_,h,_=>by cases h
 | (g,v)::r,q::ps,p,h,b=>by
  obtain⟨v',w,e,b1,b2⟩:=b.bB;cases e;have h:(if g=f then some q else Ac f (r.map (·.1)) ps)=some p:=h
  by_cases hg:g=f
  ·grind
  ·rw[if_neg hg]at h;obtain⟨h1,v2,h2,h3⟩:=vy h b2;have hgf:(f==g)=false:=by grind
   exact⟨da _ h1,v2,by grind,h3⟩
def Rt(he:PE X e (tE X aa ab fe))(hb:attributeBase e f X.env (eval e X.env)=eval e X.env):PE X (.Attribute e f pos) (tE X aa ab (Nf f fe)):=(LX he hb).imp λσ H Q ⟨F,st,R,h⟩=>⟨F,st,R,h.bnd λq v F1 aL H1 R1 g1 b1 h1=>by
 obtain⟨o,e,z⟩:=h1.hp;split at e
 ·rename_i C ns ps hd;obtain⟨a,vs,rfl,⟨Ca,dx,fs,h2,h3,h4,h5,h6,h7⟩,h8⟩:=R1.at hd b1;subst h6 h7;obtain⟨hm,w,hl,bw⟩:=vy e h8;exact⟨a,Ca,dx,fs,w,rfl,h5,h3,h4 f hm,hl,z _ H1 F1 R1 (Gr.refl _) bw⟩
 ·cases e⟩
def mJ(f:Str)(q:PV):List Str->List PV->List Str×List PV
 | g::ns,p::ps=>if g=f then(g::ns,q::ps)else(g::(mJ f q ns ps).1,p::(mJ f q ns ps).2)
 | _,_=>([f],[q])
theorem Ad{K:W.Frag}(bq:bc K F q v):∀{fs:List (Str×V)} {ps:List PV},ao K F ps (fs.map (·.2))->(gr f v fs).map (·.1)=(mJ f q (fs.map (·.1)) ps).1/\ao K F (mJ f q (fs.map (·.1)) ps).2 ((gr f v fs).map (·.2))/\∀g∈(mJ f q (fs.map (·.1)) ps).1,g=f\/g∈fs.map (·.1)
 | [],ps,b=>by
  have e:=rM b.length;subst e;exact⟨rfl,.cons bq .nil,λg hg=>.inl (by simpa[mJ]using hg)⟩
 | (g,w)::r,[],b=>by have:=b.length;simp at this
 | (g,w)::r,p::ps,b=>by
  obtain⟨v',w',e,b1,b2⟩:=b.bB;cases e;obtain⟨h1,h2,h3⟩:=Ad bq b2;by_cases hg:g=f
  ·subst hg;have e1:gr g v ((g,w)::r)=(g,v)::r:=if_pos rfl;have e2:mJ g q (((g,w)::r).map (·.1)) (p::ps)=(g::r.map (·.1),q::ps):=if_pos rfl;rw[e1,e2];exact⟨rfl,.cons bq b2,λy hy=>.inr hy⟩
  ·have e1:gr f v ((g,w)::r)=(g,w)::gr f v r:=if_neg hg;have e2:mJ f q (((g,w)::r).map (·.1)) (p::ps)=(g::(mJ f q (r.map (·.1)) ps).1,p::(mJ f q (r.map (·.1)) ps).2):=if_neg hg;rw[e1,e2];refine⟨by rw[aO,h1],.cons b1 h2,λy hy=>?_⟩
   rcases aX.mp hy with rfl | hy
   ·grind
   ·grind
def EK(K:W.Frag)(cls:List Str)(flds:List Str):Prop:=∀C,cls.contains C=true->∃Ca,ClsAt K C (.ref Ca)/\AL K Ca/\∀f,flds.contains f=true->gR K Ca f
def Vz(cls flds:List Str)(f:Str)(po pv:PV):bT->Option bT:=λst=>(Bq st.h po).bind λc=>match c.2.k with
 | .ins C ns=>if(cls.contains C&&flds.contains f&&decide (ns.length<900))=true then some ⟨st.ρ,st.h.set c.1 ⟨.ins C (mJ f pv ns c.2.ps).1,(mJ f pv ns c.2.ps).2⟩⟩else none
 | _=>none
def yr(cls flds:List Str)(f:Str)(fv fo:Gx PV):Gx ek:=bnd fv λv=>bnd fo λo=>stp (Vz cls flds f o v)
def Ru{cls flds:List Str}(hc:EK X.K cls flds)(ho:PE X o (tE X aa ab fo))(he:PE X e (tE X aa ab fv))(hs:swapsWith e (some (.Attribute o f pM)) pos.line X.env=pure false):PS X (.Assign [.Attribute o f pM] e pos) (tS X aa ab (yr cls flds f fv fo)) :=
 (LY ho he hs).imp λD σ H ⟨F,st,R,h⟩=>⟨F,st,R,h.bnd λpv v F1 aL H1 R1 g1 b1 h1=>⟨F1,aL,R1,h1.bnd λpo o F2 dk H2 R2 g2 b2 h2=>by
  obtain⟨bK,e,z⟩:=h2.stp;obtain⟨⟨n,c⟩,e1,e0⟩:=aE e;clear e;have e:=e0;clear e0;obtain⟨rfl,CA,hl⟩:=gz e1;obtain⟨a,ha,rfl⟩:=cY.mp b2;obtain⟨_,vs,XA,g3⟩:=R2.c.cell n c a CA ha hl;split at e
  ·rename_i C ns hk;have hk:=hk;obtain⟨hq,rfl⟩:=ax e;rw[aC,aC]at hq;rw[hk]at XA;obtain⟨Ca,dx,fs,k1,k2,k3,k4,rfl,rfl⟩:=XA;obtain⟨Cb,m1,m2,m3⟩:=hc C hq.1.1;have eC:Ca=Cb:=by
    have:=k1.symm.trans m1;cases this;rfl
   subst eC;have cX:=eS hq.2;rw[ak]at cX;obtain⟨p1,p2,p3⟩:=Ad (b1.mono g2) g3;refine⟨a,Ca,dx,fs,rfl,k4,k2,m3 f hq.1.2,(Nat.le_add_left_of_le ‹_›),z F2 σ _ (R2.put CA hl ha ⟨Ca,dx,_,k1,k2,λg hg=>?_,au,p1,rfl⟩ p2) (Gr.refl _)⟩
   rcases p3 g hg with rfl | hg
   ·exact m3 _ hq.1.2
   ·exact k3 g hg
  ·cases e⟩⟩
def Rv(st:bT):Rs PV×List ah->Option (Rs PV×bT)
 | (.ok .aN,h)=>(kL h 4 (.ref 0)).map λq=>(.ok q,st)
 | _=>none
def Rx(C:Str)(n:Nat)(g:mI)(ts:Gx (List PV)):Gx PV:=bnd ts λas st=>if as.length+1=n/\(st.h.isEmpty || aT as)=true then(g (.ref 0::as) [⟨.ins C [],[]⟩]).bind (Rv st)else none
section
variable {C:Str} {Ca f:Addr} {fd:FuncData} {ps:List Str} {g:mI} {k n:Nat}
def IS(hC:ClsAt X.K C (.ref Ca))(c:AL X.K Ca)(h:tE X aa ab (Rx C n g ts) σ H Q):J9 Ca (BA X.K n g) [] E0 (tA X aa ab ts) σ H Q:=by
 obtain⟨F,st,R,h⟩:=h;refine⟨F,st,R,h.bnd λas vs F1 aL H1 R1 g1 b1 h1 y dx hy Zg zS=>?_⟩
 obtain⟨q,e1,e2⟩:=h1;obtain⟨⟨hl,hn⟩,e1⟩:=bE e1;obtain⟨r,e3,e4⟩:=aE e1;have VA:bZ H1 dx (.own y) y=none:=by rw[aI zS.symm];exact hy
 have up:bU H1 (bZ H1 dx (.own y)):=dh Zg;have b2:ao X.K ⟨F1.F,[y]⟩ (.ref 0::as) (.ref y::vs):=.cons (cY.mpr ⟨y,rfl,rfl⟩) (qN R1 hn b1 [y]);have C0:jL X.K (bZ H1 dx (.own y)) ⟨F1.F,[y]⟩ ⟨F1.F,[y]⟩ [⟨.ins C [],[]⟩] (bZ (bZ H1 dx (.own y)) y (.ins Ca dx [])):=by
  refine⟨λb o e=>dh VA _ _ (up _ _ (R1.sub _ _ e)),dh VA,Gr.refl _,λa o e=>.inl e,λm a e=>?_,rfl,by simp,λm d a e1 e2 e3=>?_⟩
  ·cases m with
   | zero=>cases e;exact⟨VA,_,au⟩
   | succ m=>simp at e
  ·cases m with
   | zero=>cases e1;cases e2;exact⟨R1.sub.free hy,[],⟨Ca,dx,[],hC,c,(λ_ z=>nomatch z),au,rfl,rfl⟩,.nil⟩
   | succ m=>simp at e1
 match r,e4 with
 | (.ok .aN,h'),e4 =>
  obtain⟨p,e5,rfl⟩:=aM e4;refine⟨_,_,_,.ref 0::as,_,h',C0,λb o e=>?_,by grind,by grind,e3,λv F' H' D b'=>⟨cj.mp b',?_⟩⟩
  ·by_cases hb:b=y
   ·subst hb;exact .inr ⟨0,rfl⟩
   ·rw[aI hb]at e;exact .inl e
  ·obtain⟨R3,g3⟩:=R1.back up D;exact e2 _ H' _ R3 g3 (D.kL F1.μ _ _ _ _ e5 (cY.mpr ⟨y,D.base.m 0 y rfl,rfl⟩))
end
end
def VB(X:Cx)(aa:Hp)(ab:Fz)(fa:Addr)(ω:PV->Gx PV):Prop:=∀(H:Hp) (F:Fz) (st:bT) (σ:St) (ae:List (Addr×Obj)) (s:Shared) (Q:VK) (p:PV) (u:Value) (v:V),Inv X ae σ H s->Rep X.K aa ab F st σ H->bc X.K F p v->RelV v u->Tx X aa ab (bc X.K) F st (ω p) σ Q ->
 wpAny (model X.prog X.w) X.A (call (.ref fa) [u]) (EP X ae σ Q) X.xe s
structure EL (X:Cx) (aa:Hp) (ab:Fz) (n:Nat) (ω:PV->Gx PV):Prop where
 ex:∃fa o u VC,ab.μ[n]?=some fa/\X.aa fa=some (.uC o u)/\o.data=.func VC/\VB X aa ab fa ω
structure Ry (X:Cx):Prop where
 ex:∃x c T,x∈cO/\W.tabIn X.K x=some (c,T)/\W.codeHdIn X.K c T=true/\X.env.code=.ref c/\X.env.qual++"<lambda>"=G3 x
 blt:DR X.mg X.base
end L2.U
namespace PySem
open Sem (wp)
abbrev BT(w:World):Bool:=w.params.followText "set-order"
end PySem
namespace PySem
open PyProof.Rows
section
variable {prog:Program} {w:World} {A:Around} {E:Value->Shared->Prop} {s:Shared}
def p0(a:Value)
  (h:Q₁ (.ref s.heap.objs.size) {s with heap:=s.heap.push {cls:=.type "set",dict:=none,data:=.set #[] 0 (.fresh 0 0 (!BT w))}}) :
  codeAny (model prog w) A (.call (.builtin "set.__new__") ⟨[.type "set",a],[]⟩) (wants Q₁ E) s:=by
 refine codeAny_of_tree ?_;refine af (wpAny_of_eq (F.newCall_set_1 a) (ag ⟨jE F.plain_set_new _,iF F.entry_set_new ?_⟩));rw[jx F.plain_set_new _];unfold Builtin.«set.__new__» Builtin.Frozenset.newClass;have tK:=sub_set_self;obtain⟨hp,g,d,tk,os⟩:=s;dsimp only
 wp_walk
 refine wpAny_askSetting (ag ?_);dsimp only
 simp only[newObj];refine af (wpAny_alloc (ag ?_));exact ag h
end
end PySem
namespace L2.U
open PySem PySem.Spec PyProof.Rows
theorem qP{K:W.Frag}:∀ns:List Int,ao K F (ns.map .int) (ns.map V.int)
 | []=>.nil
 | n::r=>.cons (aw.mpr rfl) (qP r)
section
variable {X:Cx} {aa:Hp} {ab:Fz} {e o:Expr} {fe fo:Gx PV} {pos p ou zp ap cp:Pos}
def ox(h:starEach [e] X.env=(false,eval e X.env)::starEach [] X.env)(hq:wpAny M A (eval e X.env) (λv s1=>Q [v] s1) E s):wpAny M A (spliced (backTo pos (starEach [e] X.env))) Q E s:=by
 rw[h];exact Calls.spliced_cons (thn hq λv s1 q=>Calls.spliced_nil q)
def VD:PV->Option PV
 | .str a=>some (.bl (Txt.isdigit a))
 | _=>none
def Ng(fo:Gx PV):Gx PV:=bnd fo λp=>fy (VD p)
def BD:L6 X "str.isdigit" (λx xs H Q=>∃a,x=.str a/\xs=[]/\Q (.bl (Txt.isdigit a)) H):=by
 rintro ae s σ H x xs v us Q I rx rs ⟨a,e1,e2,q⟩
 subst e1 e2;obtain⟨t,rfl⟩:=rx;have UT:=rs.zero;subst UT;exact SC.isdigit ⟨.bl _,H,I,rfl,q⟩
def Rz(ho:PE X o (tE X aa ab fo))(hb:attributeBase o "isdigit" X.env (eval o X.env)=eval o X.env)(fq:(ap.endLine==cp.line)=true):PE X (.Call (.Attribute o "isdigit" ap) [] [] cp) (tE X aa ab (Ng fo)) :=
 (DL F.plainAttrs_str F.slot_str_isdigit F.type_str_isdigit BD ho hb fq).imp λσ H Q ⟨F,st,R,h⟩=>⟨F,st,R,h.bnd λp v F1 aL H1 R1 g1 b1 h1=>by
  obtain⟨o,e,z⟩:=h1.fy;cases p<;>cases e
  rw[bf.mp b1];exact⟨rfl,_,rfl,rfl,z _ H1 F1 R1 (Gr.refl _) (aR.mpr rfl)⟩⟩
end
end L2.U
namespace PySem
open PyProof.Rows
namespace F
def dQ:entryFor table "dict.update.loop"=some Builtin.«dict.update.loop» := entryFor_of_tree (by kernel_rfl)
def bD:plainId "dict.update.loop"=true:=by decide +kernel
end F
section
variable {prog:Program} {w:World} {K:Type} [DecidableEq K] {knd:KeyKind prog w K} {A:Around} {R:Result->Shared->Prop} {I:Addr} {fp wr:List Addr} {G:Array GenState->Array GenState->Prop} {n:Nat} {P:Nat->Value->Prop} {St:Nat->Shared->Prop}
def oy(h:Heap)(b:Addr)(key v:Value):Prop:=∃o m,h.get? b=some o/\o.cls=.type "tuple"/\o.data=.seq #[key,v] m
def mK(hp:oy s.heap b key v)(h:Q [key,v] s):wpAny (model prog w) A (Builtin.Dict.pairItems (.ref b)) Q E s:=by
 obtain⟨o,m,h1,h2,h3⟩:=hp;unfold Builtin.Dict.pairItems;refine af (jG ⟨o,h1,h2⟩ ?_);rw[if_pos (by decide)]
 refine af ?_;unfold seqItems?;obtain⟨VE,Ku,RA,EM⟩:=o;simp only at h2 h3;subst h2 h3
 wp_walk
 exact h
def qQ(W:WalksS prog w A.in1 I fp wr G n P St)(S:Addr)(hSf:S∉fp)(hl:kvs.length=n)(hn:n<=sizeLine){s₀:Shared}
  (yt:∀i v,P i v->∃b k key u,v=.ref b/\kvs[i]?=some (k,u)/\knd.is k key=true/\b∉S::wr/\oy s₀.heap b key u) :
  ∀(c i:Nat) (s:Shared),n-i=c->i<=n->St i s->(∀b o,b∉S::wr->s₀.heap.get? b=some o->s.heap.get? b=some o)->s.heap.DictOf knd S (merged [] (kvs.take i)) ->
   (∀s',Moved (S::wr) G s s'->s'.heap.DictOf knd S (merged [] kvs)->R (.ok (.ret .none)) s') ->
   codeAny (model prog w) A (.builtin "dict.update.loop" ⟨[.ref S,.ref I,rawInt (i:Int),.none],[]⟩) R s:=by
 have RB:S∉wr:=λh=>hSf (W.sub _ h)
 have tK:∀b∈wr,b∈S::wr:=by grind
 intro c;induction c with
 | zero =>
  intro i s hk hi j9 ho hS hR;have RC:i=n:=by lia
  subst RC;refine iF F.dQ ?_;rw[jx F.bD _];refine af (W.done s _ _ j9 λs' hm=>?_)
  refine af (ag ?_);rw[lj (iK ‹_›)]at hS;refine ag (hR s' (hm.mono tK) ?_);obtain⟨o,es,ep,h1,r⟩:=hS;exact⟨o,es,ep,hm.heap S _ RB h1,r⟩
 | succ c ih =>
  intro i s hk hi j9 ho hS hR;have vn:i<n:=by lia
  refine iF F.dQ ?_;rw[jx F.bD _];refine af (W.item i s _ _ vn j9 λv s' hP EN hm=>?_)
  obtain⟨b,k,key,u,rfl,Zh,LV,Zi,RD⟩:=yt i v hP;have nO:∀b o,b∉S::wr->s₀.heap.get? b=some o->s'.heap.get? b=some o:=λb o hb e=>hm.heap b o (λz=>hb (da _ z)) (ho b o hb e)
  refine af (bX ?_);refine af (wpAny_tryCatch (mK (by
   obtain⟨o,m,h1,r⟩:=RD;exact⟨o,m,nO b o Zi h1,r⟩) ?_))
  refine bX ?_;have hsz:(merged [] (kvs.take i)).length<=sizeLine:=by
   have:=merged_length_le ([]:List (K×Value)) (kvs.take i);rw[lA]at this;simp at this
   lia
  refine wpAny_dictSet_pairs LV (by
   obtain⟨o,es,ep,h1,r⟩:=hS;exact⟨o,es,ep,hm.heap S _ RB h1,r⟩) λh' hd O9=>?_
  rw[<-merged_take_succ _ _ _ _ Zh]at hd;have VF:∀b o,b∉S::wr->s₀.heap.get? b=some o->h'.get? b=some o:=λb o hb e=>(O9.2 b (λh:b=S=>hb (by grind))).trans (nO b o hb e)
  refine ag ⟨jE F.bD _,ih (i+1) _ (by lia) vn (W.frame _ s' _ _ EN (xn ..) λb hb o e=>?_) VF hd λL0 Nh Ni=>?_⟩
  ·exact(O9.2 b (λh:b=S=>hSf (by grind))).trans e
  ·refine hR L0 (Moved.trans W.gtrans ((hm.mono tK).then_heap (xn ..) λb o hb e=>?_) Nh) Ni
   exact(O9.2 b (λh:b=S=>hb (by grind))).trans e
end
namespace F
theorem tN:typeLookup (.type "list") "keys"=pure none:=by rw[sy,rR];kernel_rfl
def p6:typeLookup (.type "tuple") "keys"=pure none:=by rw[sy,rR];kernel_rfl
end F
section
variable {prog:Program} {w:World} {A:Around} {E:Value->Shared->Prop} {s:Shared} {a:Addr} {o:Obj} {xs:Array Value} {k:Nat} {Q:Option Value->Shared->Prop}
def mL(hx:s.heap.get? a=some o)(hc:o.cls=.type "tuple")(lT:o.data=.seq xs k)(hd:o.dict=none)(hA:A.handled=none)
  (h:∀h' tk,(∀b ob,s.heap.get? b=some ob->h'.get? b=some ob)->Q none {s with heap:=h',toks:=tk}) :
  wpAny (model prog w) A (getAttr? (.ref a) "keys") Q E s:=by
 obtain⟨c,IT,Xf,sl⟩:=o;simp only at hc lT hd;subst hc lT hd;obtain⟨hp,g,d,tk,os⟩:=s;have hT:∀EO,(⟨hp,g,d,EO,os⟩:Shared).TypeIs (.ref a) "tuple":=λ_=>⟨_,hx,rfl⟩
 have f1:=sub_AttributeError;have f3:=wK.lookup;have f4:=wK.bind (.ref a);have f5:=am_tuple_getattr_none;unfold getAttr? getAttrBy? getAttrBy
 repeat (any_goals (first | assumption | exact hT _ | ((with_reducible show wpAny _ _ (call (Value.builtin "tuple.__getattribute__") _ _) _ _ _);refine dw wK (hT _) am_entry_tuple_getattribute (F.args_tuple_getattribute_2 _ _) (meets_getattribute_miss_tuple a xs k sl "keys" _ F.p6 (by decide +kernel) (by decide +kernel)) ⟨hx,hA,λh' EO e qJ=>?_⟩) | wp_step))
 obtain⟨t',u',he⟩:=qJ.there;show wpAny _ _ (getattributeRaised _ _ _ _ _ _ _) _ _ _;unfold getattributeRaised
 repeat (any_goals (first | assumption | wp_step))
 exact h _ _ qJ.keeps
theorem oA(hx:s.heap.get? a=some o)(hc:o.cls=.type "list")(lT:o.data=.seq xs k)(hd:o.dict=none)(hA:A.handled=none)
  (h:∀h' tk,(∀b ob,s.heap.get? b=some ob->h'.get? b=some ob)->Q none {s with heap:=h',toks:=tk}) :
  wpAny (model prog w) A (getAttr? (.ref a) "keys") Q E s:=by
 obtain⟨c,IT,Xf,sl⟩:=o;simp only at hc lT hd;subst hc lT hd;obtain⟨hp,g,d,tk,os⟩:=s;have hT:∀EO,(⟨hp,g,d,EO,os⟩:Shared).TypeIs (.ref a) "list":=λ_=>⟨_,hx,rfl⟩
 have f1:=sub_AttributeError;have f3:=wL.lookup;have f4:=wL.bind (.ref a);have f5:=am_list_getattr_none;unfold getAttr? getAttrBy? getAttrBy
 repeat (any_goals (first | assumption | exact hT _ | ((with_reducible show wpAny _ _ (call (Value.builtin "list.__getattribute__") _ _) _ _ _);refine dw wL (hT _) am_entry_list_getattribute (F.args_list_getattribute_2 _ _) (meets_getattribute_miss_list a xs k sl "keys" _ F.tN (by decide +kernel) (by decide +kernel)) ⟨hx,hA,λh' EO e qJ=>?_⟩) | wp_step))
 obtain⟨t',u',he⟩:=qJ.there;show wpAny _ _ (getattributeRaised _ _ _ _ _ _ _) _ _ _;unfold getattributeRaised
 repeat (any_goals (first | assumption | wp_step))
 exact h _ _ qJ.keeps
end
section
variable {prog:Program} {w:World} {A:Around} {E:Value->Shared->Prop} {s:Shared} {K:Type} [DecidableEq K] {knd:KeyKind prog w K}
def jQ(hh:A.handled=none)(hx:s.heap.get? l=some ol)(hc:ol.cls=.type "tuple")(lT:ol.data=.seq items m)(RE:ol.dict=none)
  (hi:∀(i:Nat) (v:Value),items[i]?=some v->∃b k key u,v=.ref b/\kvs[i]?=some (k,u)/\knd.is k key=true/\oy s.heap b key u) (VG:kvs.length=items.size) (hb:items.size<=sizeLine)
  (h:∀(h':Heap) (tk:Nat),h'.DictOf knd s.heap.objs.size (merged [] kvs)->(∀b o,b<s.heap.objs.size->s.heap.get? b=some o->h'.get? b=some o)->Q (.ref s.heap.objs.size) {s with heap:=h',toks:=tk}) :
  wpAny (model prog w) A (call (.type "dict") [.ref l]) Q E s:=by
 refine callType_codes (Q₁:=λobj s₁=>obj=.ref s.heap.objs.size/\s₁={s with heap:=s.heap.push {cls:=.type "dict",data:=.dict #[]}}) F.kt_called_dict (F.kt_typeCall_dict_1 _) F.entry_dict_init (kt_code_dict_new _ ⟨rfl,rfl⟩) ?_
 rintro obj s₁ ⟨rfl,rfl⟩
 have oB:(s.heap.push {cls:=.type "dict",data:=.dict #[]}).DictOf knd s.heap.objs.size []:=xB s.heap
 have qJ:(s.heap.push {cls:=.type "dict",data:=.dict #[]}).get? l=some ol:=aj _ hx
 have Nj:=ay hx;refine⟨oB.typeIs,F.args_dict_init_2 _ _,?_⟩;unfold Builtin.«dict.__init__»;refine af ?_;unfold Builtin.Dict.selfAndRest;refine af (wY oB.typeIs ?_);refine ag ?_;show wpAny _ _ (Builtin.Dict.updateFrom "dict.__init__" s.heap.objs.size (.ref l) [] .none) _ _ _;unfold Builtin.Dict.updateFrom;refine af (jG ⟨ol,qJ,hc⟩ ?_);rw[if_pos (by decide)]
 refine af (mL qJ hc lT RE (by simp[hh]) λh2 Zj kp=>?_)
 rw[if_pos (show(none:Option Value).isNone=true from rfl)]
 have VH:=kp l ol qJ;have vz:h2.DictOf knd s.heap.objs.size []:=by
  obtain⟨o,es,ep,h1,r⟩:=oB;exact⟨o,es,ep,kp _ _ h1,r⟩
 have RF:h2.IsTuple l items:=⟨ol,VH,hc,m,lT⟩;refine af (gm ?_);refine af ?_;refine xf RF ?_;refine ag ⟨jE F.bD _,?_⟩;have Kv:s.heap.objs.size<h2.objs.size:=by
  obtain⟨o,_,_,h1,_⟩:=vz;exact ay h1
 have Nk:=aJ (gO Nj Kv);have yt:∀i (v:Value),items[i]?=some v->∃b k key u,v=.ref b/\kvs[i]?=some (k,u)/\knd.is k key=true/\b∉[s.heap.objs.size,h2.objs.size]/\oy s.heap b key u:=λi v hv=>by
  obtain⟨b,k,key,u,e1,e2,e3,e4⟩:=hi i v hv;refine⟨b,k,key,u,e1,e2,e3,?_,e4⟩;obtain⟨o,_,ho,_⟩:=e4;have:=ay ho;simp only[aX,bH,bJ,not_or];exact⟨aJ this,aJ (gO this Kv)⟩
 refine qQ (knd:=knd) (s₀:=s) ((Walks.tuple (by simp[hh]) h2.objs.size l Nk items).toS) s.heap.objs.size (by grind) VG hb yt (items.size-0) 0 _ (by lia) (gk _) ⟨⟨_,aY _ rfl,rfl,rfl⟩,RF.push _⟩ (λb o _ e=>aj _ (kp _ _ (aj _ e))) ?_ ?_
 ·obtain⟨o,es,ep,h1,r⟩:=vz;exact⟨o,es,ep,aj _ h1,r⟩
 ·intro s' hm wG;obtain⟨h',g',d',EO,Hv⟩:=s';have eg:g'=s.gens:=hm.gens;have ed:d'=s.drawn:=hm.drawn;have eo:Hv=s.os:=hm.os;subst eg;subst ed;subst eo;refine⟨rfl,h h' EO wG λb o hb e=>?_⟩
  refine hm.heap b o ?_ (aj _ (kp _ _ (aj _ e)));simp only[aX,bH,bJ,not_or];exact⟨aJ hb,aJ (gO hb Kv)⟩
theorem vA{l:Addr}{ol:Obj}{items:Array Value}{m:Nat}{kvs:List (K×Value)}{Q:Value->Shared->Prop}(hh:A.handled=none)(hx:s.heap.get? l=some ol)(hc:ol.cls=.type "list")(lT:ol.data=.seq items m)(RE:ol.dict=none)
  (hi:∀(i:Nat) (v:Value),items[i]?=some v->∃b k key u,v=.ref b/\kvs[i]?=some (k,u)/\knd.is k key=true/\oy s.heap b key u) (VG:kvs.length=items.size) (hb:items.size<=sizeLine)
  (h:∀(h':Heap) (tk:Nat),h'.DictOf knd s.heap.objs.size (merged [] kvs)->(∀b o,b<s.heap.objs.size->s.heap.get? b=some o->h'.get? b=some o)->Q (.ref s.heap.objs.size) {s with heap:=h',toks:=tk}) :
  wpAny (model prog w) A (call (.type "dict") [.ref l]) Q E s:=by
 refine callType_codes (Q₁:=λobj s₁=>obj=.ref s.heap.objs.size/\s₁={s with heap:=s.heap.push {cls:=.type "dict",data:=.dict #[]}}) F.kt_called_dict (F.kt_typeCall_dict_1 _) F.entry_dict_init (kt_code_dict_new _ ⟨rfl,rfl⟩) ?_
 rintro obj s₁ ⟨rfl,rfl⟩
 have oB:(s.heap.push {cls:=.type "dict",data:=.dict #[]}).DictOf knd s.heap.objs.size []:=xB s.heap
 have qJ:(s.heap.push {cls:=.type "dict",data:=.dict #[]}).get? l=some ol:=aj _ hx
 have Nj:l<s.heap.objs.size:=ay hx;refine⟨oB.typeIs,F.args_dict_init_2 _ _,?_⟩;unfold Builtin.«dict.__init__»;refine af ?_;unfold Builtin.Dict.selfAndRest;refine af (wY oB.typeIs ?_);show wpAny _ _ (pure (s.heap.objs.size,[Value.ref l])) _ _ _;refine ag ?_;show wpAny _ _ (Builtin.Dict.updateFrom "dict.__init__" s.heap.objs.size (.ref l) [] .none) _ _ _;unfold Builtin.Dict.updateFrom;refine af (jG (T:="list") ⟨ol,qJ,hc⟩ ?_);rw[if_pos (by decide)]
 refine af (oA qJ hc lT RE (by simp[hh]) λh2 Zj kp=>?_)
 rw[if_pos (show(none:Option Value).isNone=true from rfl)]
 have VH:h2.get? l=some ol:=kp l ol qJ;have vz:h2.DictOf knd s.heap.objs.size []:=by
  obtain⟨o,es,ep,h1,r⟩:=oB;exact⟨o,es,ep,kp _ _ h1,r⟩
 have RF:h2.IsList l items:=⟨ol,VH,hc,m,lT⟩;refine af (gm ?_);refine af ?_;refine lx RF ?_;refine ag ⟨jE F.bD _,?_⟩;have Kv:s.heap.objs.size<h2.objs.size:=by
  obtain⟨o,_,_,h1,_⟩:=vz;exact ay h1
 have Nk:l≠h2.objs.size:=aJ (gO Nj Kv);have hSf:s.heap.objs.size∉[h2.objs.size,l]:=by
  simp only[aX,bH,bJ,not_or];exact⟨aJ Kv,lI Nj⟩
 have Zk:A.in1.in1.handled=none:=by simp[hh]
 have yt:∀(i:Nat) (v:Value),items[i]?=some v->∃b k key u,v=.ref b/\kvs[i]?=some (k,u)/\knd.is k key=true/\b∉[s.heap.objs.size,h2.objs.size]/\oy s.heap b key u:=λi v hv=>by
  obtain⟨b,k,key,u,e1,e2,e3,e4⟩:=hi i v hv;refine⟨b,k,key,u,e1,e2,e3,?_,e4⟩;obtain⟨o,_,ho,_⟩:=e4;have:=ay ho;simp only[aX,bH,bJ,not_or];exact⟨aJ this,aJ (gO this Kv)⟩
 refine qQ (knd:=knd) (s₀:=s) ((Walks.list Zk h2.objs.size l Nk items).toS) s.heap.objs.size hSf VG hb yt (items.size-0) 0 _ (by lia) (gk _) ⟨⟨_,aY _ rfl,rfl,rfl⟩,RF.push _⟩ (λb o _ e=>aj _ (kp _ _ (aj _ e))) ?_ ?_
 ·obtain⟨o,es,ep,h1,r⟩:=vz;exact⟨o,es,ep,aj _ h1,r⟩
 ·intro s' hm wG;obtain⟨h',g',d',EO,Hv⟩:=s';have eg:g'=s.gens:=hm.gens;have ed:d'=s.drawn:=hm.drawn;have eo:Hv=s.os:=hm.os;subst eg;subst ed;subst eo;refine⟨rfl,h h' EO wG λb o hb e=>?_⟩
  refine hm.heap b o ?_ (aj _ (kp _ _ (aj _ e)));simp only[aX,bH,bJ,not_or];exact⟨aJ hb,aJ (gO hb Kv)⟩
end
end PySem
namespace L2.U
open PySem PySem.Spec PyProof.Rows
section
variable {X:Cx} {a b:Expr} {ta tb:TE} {p cp bp:Pos}
def kM(K:W.Frag)(H:Hp):List V->List (cz×V)->Prop:=Paired λv kv=>∃c,v=.ref c/\fA K H c [kV kv.1,kv.2]
def cH(kvs:List (cz×V)):List (cz×V):=kvs.foldl (λacc kv=>putK acc kv.1 kv.2) []
def RG(K:W.Frag):R2:=λx y H Q=>∃a b xs ys kvs,x=.ref a/\y=.ref b/\fA K H a xs/\fA K H b ys/\xs.length+ys.length<=1000/\kM K H (xs++ys) kvs/\∀p,H p=none->Q (.ref p) (bZ H p (.dK (cH kvs)))
theorem iU:∀{kvs:List (cz×V)} {vs:List (cz×Value)} {acc:List (cz×V)} {RH:List (cz×Value)},L2.KV kvs vs->L2.KV acc RH->L2.KV (kvs.foldl (λacc kv=>putK acc kv.1 kv.2) acc) (vs.foldl (λacc kv=>stored acc kv.1 kv.2) RH)
 | _,_,_,_,.nil,h=>h
 | _,_,_,_,.cons (a:=x) r t,h=>by
  have h2:=h.put x.1 r.2;rw[nE,nE];rw[r.1]at h2 ⊢;exact iU (t) h2
def kN(f:List (cz×V)):∀acc:List (cz×V),(f.foldl (λacc kv=>putK acc kv.1 kv.2) acc).length<=acc.length+f.length:=by
 induction f with
 | nil=>intro acc;simp
 | cons x f ih =>
  intro acc;have:=ih (putK acc x.1 x.2);have:=zQ acc x.1 x.2;rw[nE,cF]
  lia
theorem kO(I:Inv X ae σ H s):∀{vs:List V} {kvs:List (cz×V)},kM X.K H vs kvs->∀{us:List Value},Vals vs us->∃wH:List (cz×Value),L2.KV kvs wH/\wH.length=us.length/\∀(i:Nat) (u:Value),us[i]?=some u->∃b k key w,u=.ref b/\wH[i]?=some (k,w)/\(br X.prog X.w).is k key=true/\oy s.heap b key w
 | _,_,.nil,us,r=>by
  cases r;exact⟨[],.nil,rfl,λi u h=>by cases h⟩
 | _,_,.cons (b:=kv) q t,us,r=>by
  cases r with
  | cons r1 r2 =>
   obtain⟨wH,g1,g2,g3⟩:=kO I t r2;obtain⟨c,rfl,hs⟩:=q;obtain⟨ai,rr,⟨o,h1,h2,n,h3⟩,_⟩:=I.tuple hs;obtain⟨key,w,e,hk,hw⟩:=rr.two;subst e;cases r1;refine⟨(kv.1,w)::wH,.cons ⟨rfl,hw⟩ g1,by rw[cF,cF,g2],λi u hu=>?_⟩
   cases i with
   | zero =>
    cases hu;exact⟨c,kv.1,key,w,rfl,rfl,mm hk,o,n,h1,h2,h3⟩
   | succ i=>exact g3 i u hu
def IU(hh:X.A.handled=none)(hg:Gl X "dict")(hm:X.mg "dict"=none)(ha:PE X a ta)(hb:PE X b tb)(hs:starEach [.BinOp a .Add b bp] X.env=[(false,eval (.BinOp a .Add b bp) X.env)]):PE X (.Call (.Name "dict" p) [.BinOp a .Add b bp] [] cp) (LJ (RG X.K) ta tb):=by
 intro ae s σ H Q I h;refine Call_ (ld_blt I hg hm (show bootBuiltins "dict"=some (.type "dict") by decide +kernel) (d0 (ox hs (wpAny_BinOp (Hh ha hb I h λv u s2 x y H2 I2 rx ry q=>?_))) hs rfl))
 obtain⟨t1,t2,xs,ys,kvs,rfl,rfl,h1,h2,h5,h6,q⟩:=q;cases rx;cases ry;obtain⟨ai,r1,⟨o1,c1,c2,⟨c3,c4⟩,c5⟩,_⟩:=I2.xK h1;have p1:IsTup s2.heap t1 ai.toArray:=⟨o1,c1,c2,c3,c4⟩;obtain⟨bY,r2,⟨o2,d1,d2,⟨d3,d4⟩,d5⟩,_⟩:=I2.xK h2;have p2:IsTup s2.heap t2 bY.toArray:=⟨o2,d1,d2,d3,d4⟩;by_cases h3:xs=[]
 ·subst h3;cases r1;refine u6 p1 p2 ?_;obtain⟨wH,g1,g2,g3⟩:=kO I2 h6 r2;have ER:1000<=sizeLine:=by decide
  have XB:bY.length<=1000:=by rw[<-r2.length];simpa using h5
  refine jQ (knd:=br X.prog X.w) (items:=bY.toArray) (kvs:=wH) hh d1 d2 d4 d5 (λi v hv=>?_) (by rw[g2];simp) (by simp;lia) λh' tk dd kp=>?_
  ·rw[jw]at hv;exact g3 i v hv
  ·have zF:=iU g1 .nil;refine⟨.ref _,_,I2.laid (o:=.dK (cH kvs)) (λb u e=>kp b u (ay e) e) (ar _) ?_,rfl,q _ (I2.hok.fresh (ar _))⟩
   refine⟨?_,bW.mpr (bA (aJ (gv I2))),_,zF,dd⟩;have:=kN kvs [];have e:kvs.length=wH.length:=gM g1;unfold cH;simp only[lD]at this
   lia
 have hz:ai.length+bY.length<=1000:=by rw[<-r1.length,<-r2.length];exact h5
 have ER:1000<=sizeLine:=by decide
 refine HT.zz p1 p2 (λz=>h3 (r1.kq.mp z)) (λz=>?_) (λz=>?_) (aD ‹_› ‹_›)
 ·cases r2.kq.mp z;rw[gj]at h6;obtain⟨wH,g1,g2,g3⟩:=kO I2 h6 r1;have ER:1000<=sizeLine:=by decide
  have XB:ai.length<=1000:=by rw[<-r1.length];simpa using h5
  refine jQ (knd:=br X.prog X.w) (items:=ai.toArray) (kvs:=wH) hh c1 c2 c4 c5 (λi v hv=>?_) (by rw[g2];simp) (by simp;lia) λh' tk dd kp=>?_
  ·rw[jw]at hv;exact g3 i v hv
  ·have zF:=iU g1 .nil;refine⟨.ref _,_,I2.laid (o:=.dK (cH kvs)) (λb u e=>kp b u (ay e) e) (ar _) ?_,rfl,q _ (I2.hok.fresh (ar _))⟩
   refine⟨?_,bW.mpr (bA (aJ (gv I2))),_,zF,dd⟩;have:=kN kvs [];have e:kvs.length=wH.length:=gM g1;unfold cH;simp only[lD]at this
   lia
 obtain⟨wH,g1,g2,g3⟩:=kO I2 h6 (r1.append r2);obtain⟨CB,Zl⟩:=nw (s2.heap.push {cls:=.type "tuple",data:=.seq (ai++bY).toArray})
 have hsz:(ai++bY).toArray.size=ai.length+bY.length:=by simp
 refine jQ (knd:=br X.prog X.w) hh (aY _ rfl) rfl rfl rfl (λi v hv=>?_) (by rw[g2];simp) (by grind) λh' tk dd kp=>?_
 ·rw[jw]at hv;obtain⟨c,k,key,w,e1,e2,e3,o,n,e4,e5⟩:=g3 i v hv;exact⟨c,k,key,w,e1,e2,e3,o,n,aj _ e4,e5⟩
 ·have hS:s2.heap.objs.size<=(s2.heap.push {cls:=.type "tuple",data:=.seq (ai++bY).toArray}).objs.size:=by simp_all
  have zF:=iU g1 .nil;refine⟨.ref _,_,I2.laid (λb u e=>kp b u (bN (ay e) hS) (aj _ e)) hS ?_,rfl,q _ (I2.hok.fresh hS)⟩
  refine⟨?_,bW.mpr (bA (aJ (bN (gv I2) hS))),_,zF,dd⟩;have:=kN kvs [];have e:=gM g1;rw[dM]at g2;unfold cH;simp only[lD]at this
  lia
end
def XC(K:W.Frag):List V->Hp->VK->Prop:=λxs H Q=>∃a vs kvs,xs=[.ref a]/\gq K H a vs/\vs.length<=1000/\kM K H vs kvs/\∀p,H p=none->Q (.ref p) (bZ H p (.dK (cH kvs)))
theorem yu{X:Cx}(hh:X.A.handled=none):jr X (.type "dict") (XC X.K):=by
 intro ae s σ H xs us Q I rs ⟨a,vs,kvs,ex,ha,hl,hp,q⟩;subst ex;obtain⟨u,rfl,ru⟩:=ia rs;cases ru;obtain⟨ai,n,r,hx,_⟩:=I.kA ha;obtain⟨wH,g1,g2,g3⟩:=kO I hp r;have ER:1000<=sizeLine:=by decide
 have XB:ai.length<=1000:=by rw[<-r.length];exact hl
 refine vA (knd:=br X.prog X.w) (items:=ai.toArray) (kvs:=wH) hh hx rfl rfl rfl (λi v hv=>?_) (by rw[g2];simp) (by simp;lia) λh' tk dd kp=>?_
 ·rw[jw]at hv;exact g3 i v hv
 ·have zF:L2.KV (cH kvs) (merged [] wH):=iU g1 .nil;refine⟨.ref _,_,I.laid (o:=.dK (cH kvs)) (λb u e=>kp b u (ay e) e) (ar _) ?_,rfl,q _ (I.hok.fresh (ar _))⟩
  refine⟨?_,bW.mpr (bA (aJ (gv I))),_,zF,dd⟩;have:=kN kvs [];have e:kvs.length=wH.length:=gM g1;unfold cH;simp only[lD]at this
  lia
def IV{X:Cx}{a:Expr}{ta:TE}{p cp:Pos}(hh:X.A.handled=none)(hg:Gl X "dict")(hm:X.mg "dict"=none)(ha:PE X a ta)(hs:starEach [a] X.env=[(false,eval a X.env)]):PE X (.Call (.Name "dict" p) [a] [] cp) (λσ H Q=>ta σ H λx H1=>XC X.K [x] H1 Q):=by
 intro ae s σ H Q I h;refine Call_ (ld_blt I hg hm (show bootBuiltins "dict"=some (.type "dict") by decide +kernel) (d0 (ox hs (thn (ha ae s σ H _ I h) λv s1 ⟨x,H1,I1,r1,q1⟩=>?_)) hs rfl))
 exact yu hh ae s1 σ H1 [x] [v] Q I1 (.cons r1 .nil) q1
def vB:PV->Option (cz×PV)
 | .nd .aq [k,v]=>(D6 k).map λj=>(j,v)
 | _=>none
def oC:List (cz×PV)->ah->ah
 | [],c=>c
 | (k,v)::r,c=>match c.k with
  | .eJ t ks=>oC r (tD t [k] v ks c.ps)
  | _=>c
def vC(ps:List PV):Option ah:=if ps.length<=1000 then(bj vB ps).map λkvs=>oC kvs ⟨.eJ false [],[]⟩else none
section
variable {K:W.Frag} {F:Fz}
theorem vD:∀{ps:List PV} {kvs:List (cz×PV)} {vs:List V},bj vB ps=some kvs->ao K F ps vs->∃ks:List (cz×V),kM K F.F vs ks/\ks.map (·.1)=kvs.map (·.1)/\ao K F (kvs.map (·.2)) (ks.map (·.2))
 | [],_,_,h,b=>by
  cases h;rw[b.bL];exact⟨[],.nil,rfl,.nil⟩
 | p::ps,kvs,vs,h,b=>by
  obtain⟨kv,r,h1,h2,rfl⟩:=cC h;obtain⟨v,w,rfl,b1,b2⟩:=b.bB;obtain⟨ks,g1,g2,g3⟩:=vD h2 b2;unfold vB at h1;split at h1
  ·rename_i k q;obtain⟨j,e1,rfl⟩:=aM h1;obtain⟨c,ws,rfl,hs,hb⟩:=bg.mp b1;obtain⟨x,y,rfl,bx,bq⟩:=kF hb;rw[oi e1 bx]at hs;exact⟨(j,y)::ks,.cons ⟨c,rfl,hs⟩ g1,by rw[aO,aO,g2],.cons bq g3⟩
  ·cases h1
theorem Ae:∀{kvs:List (cz×PV)} {ks:List (cz×V)} {acc:List (cz×V)} {ps:List PV},ks.map (·.1)=kvs.map (·.1)->ao K F (kvs.map (·.2)) (ks.map (·.2))->ao K F ps (acc.map (·.2)) ->
  ∃qH uy,oC kvs ⟨.eJ false (acc.map λy=>[y.1]),ps⟩=⟨.eJ false qH,uy⟩/\(ks.foldl (λacc kv=>putK acc kv.1 kv.2) acc).map (λy=>[y.1])=qH/\ao K F uy ((ks.foldl (λacc kv=>putK acc kv.1 kv.2) acc).map (·.2))
 | [],ks,acc,ps,h1,h2,h3=>by
  have:=List.map_eq_nil_iff.mp h1;subst this;exact⟨_,_,rfl,rfl,h3⟩
 | (k,q)::kvs,[],acc,ps,h1,h2,h3=>by cases h1
 | (k,q)::kvs,(j,v)::ks,acc,ps,h1,h2,h3=>by
  simp only[aO,xw]at h1;obtain⟨rfl,h1⟩:=h1;obtain⟨v',w,e,b1,b2⟩:=h2.bB;cases e;obtain⟨qH,uy,e1,e2,e3⟩:=D7 b1 h3;obtain⟨Zm,Zn,e4,e5,e6⟩:=Ae h1 b2 e3;refine⟨Zm,Zn,?_,e5,e6⟩;show oC kvs (tD false [j] q (acc.map λy=>[y.1]) ps)=_
  rw[e1,<-e2];exact e4
end
def Af{K:W.Frag}(h:vC ps=some c)(b:ao K F ps vs):∃ks:List (cz×V),kM K F.F vs ks/\ps.length<=1000/\∃qH qs,c=⟨.eJ false qH,qs⟩/\(cH ks).map (λy=>[y.1])=qH/\ao K F qs ((cH ks).map (·.2)):=by
 obtain⟨hl,h⟩:=bE h;obtain⟨kvs,h1,rfl⟩:=aM h;obtain⟨ks,g1,g2,g3⟩:=vD h1 b;obtain⟨qH,uy,e1,e2,e3⟩:=Ae (acc:=[]) g2 g3 .nil;exact⟨ks,g1,hl,qH,uy,e1,e2,e3⟩
theorem kM.mono{K:W.Frag}(h:bU F G):∀{vs:List V} {ks:List (cz×V)},kM K F vs ks->kM K G vs ks
 | _,_,.nil=>.nil
 | _,_,.cons ⟨c,e,q⟩ t=>.cons ⟨c,e,aU h q⟩ (kM.mono h t)
def IW:PV->Option (List PV)
 | .nd .aq ps=>some ps
 | _=>none
def RI(p q:PV):Gx PV:=λst=>(IW p).bind λps=>(IW q).bind λqs=>(vC (ps++qs)).bind λc=>ik c st
def Ag(fa fb:Gx PV):Gx PV:=bnd fa λp=>bnd fb λq=>RI p q
section
variable {X:Cx} {aa:Hp} {ab:Fz} {a b e:Expr} {fa fb fe:Gx PV} {p cp bp:Pos}
def Nl(hh:X.A.handled=none)(hg:Gl X "dict")(hm:X.mg "dict"=none)(ha:PE X a (tE X aa ab fa))(hb:PE X b (tE X aa ab fb))(hs:starEach [.BinOp a .Add b bp] X.env=[(false,eval (.BinOp a .Add b bp) X.env)]):PE X (.Call (.Name "dict" p) [.BinOp a .Add b bp] [] cp) (tE X aa ab (Ag fa fb)) :=
 (IU hh hg hm ha hb hs).imp λσ H Q ⟨F,st,R,h⟩=>⟨F,st,R,h.bnd λq v F1 aL H1 R1 g1 b1 h1=>⟨F1,aL,R1,h1.bnd λq2 v2 F2 dk H2 R2 g2 b2 h2=>by
  obtain⟨r,e1,e2⟩:=h2;obtain⟨ps,e3,e1⟩:=aE e1;obtain⟨qs,e4,e1⟩:=aE e1;obtain⟨c,e5,e1⟩:=aE e1;have t1:q=.aq ps:=by
   unfold IW at e3;split at e3
   ·grind
   ·cases e3
  have t2:q2=.aq qs:=by
   unfold IW at e4;split at e4
   ·grind
   ·cases e4
  subst t1 t2;obtain⟨a1,vs,rfl,VI,Pa⟩:=bg.mp (b1.mono g2);obtain⟨a2,ws,rfl,wF,VJ⟩:=bg.mp b2;obtain⟨ks,k1,hl,qH,uy,rfl,e6,e7⟩:=Af e5 (Pa.append VJ);rw[dM]at hl;refine⟨a1,a2,vs,ws,ks,rfl,rfl,aU R2.sub VI,aU R2.sub wF,by rw[<-Pa.length,<-VJ.length];exact hl,k1.mono R2.sub,λp hp=>?_⟩
  exact Tx.ik (show Tx X aa ab (bc X.K) F2 dk (ik ⟨.eJ false qH,uy⟩) σ Q from⟨r,e1,e2⟩) R2 hp ⟨cH ks,au,e6,rfl⟩ e7⟩⟩
def IX(fa:Gx PV):Gx PV:=bnd fa λp st=>match p with
 | .nd .lst ps=>(vC ps).bind λc=>ik c st
 | _=>none
def ES(hh:X.A.handled=none)(hg:Gl X "dict")(hm:X.mg "dict"=none)(ha:PE X a (tE X aa ab fa))(hs:starEach [a] X.env=[(false,eval a X.env)]):PE X (.Call (.Name "dict" p) [a] [] cp) (tE X aa ab (IX fa)) :=
 (IV hh hg hm ha hs).imp λσ H Q ⟨F,st,R,h⟩=>⟨F,st,R,h.bnd λq v F1 aL H1 R1 g1 b1 h1=>by
  obtain⟨r,e1,e2⟩:=h1;split at e1
  ·rename_i ps;obtain⟨c,e5,e1⟩:=aE e1;obtain⟨ad,vs,rfl,VI,Pa⟩:=cw.mp b1;obtain⟨ks,k1,hl,qH,uy,rfl,e6,e7⟩:=Af e5 Pa;refine⟨ad,vs,ks,rfl,gw R1.sub VI,by rw[<-Pa.length];exact hl,k1.mono R1.sub,λp hp=>?_⟩
   exact Tx.ik (show Tx X aa ab (bc X.K) F1 aL (ik ⟨.eJ false qH,uy⟩) σ Q from⟨r,e1,e2⟩) R1 hp ⟨cH ks,au,e6,rfl⟩ e7
  ·cases e1⟩
end
def Nm:List PV->Option (List Int)
 | [.int n]=>if 0<=n/\n<=1000 then some (rangeInts 0 1 n.toNat)else none
 | [.int a,.int b]=>if 0<=a/\a<=b/\b<=1000 then some (rangeInts a 1 (b-a).toNat)else none
 | _=>none
def kP(m:Nat)(ps:List PV):Gx PV:=λst=>match m with
 | 0=>some (.ok (.lst ps),st)
 | _=>ik ⟨.lst,ps⟩ st
def VL(m:Nat)(ts:Gx (List PV)):Gx PV:=bnd ts λps=>bnd (fy (Nm ps)) λl=>kP m (l.map .int)
def boot_range:bootBuiltins "range"=some (.type "range"):=by kernel_rfl
section
variable {X:Cx} {aa:Hp} {ab:Fz} {e:Expr} {es:List Expr} {ts:Gx (List PV)} {pos p ou zp:Pos} {m:Nat}
def Tx.kP{st:bT}(h:Tx X aa ab (bc X.K) F st (kP m ps) σ Q)(R:Rep X.K aa ab F st σ H)(hq:H q=none)(hb:ao X.K F ps vs):Q (.ref q) (bZ H q (.lst vs)):=by
 cases m with
 | zero =>
  obtain⟨r,e1,e2⟩:=h;cases e1;obtain⟨R2,s2⟩:=R.laid (.lst vs) hq;exact e2 _ _ _ R2 s2 (cw.mpr ⟨q,vs,rfl,gq.of au,hb.mono s2⟩)
 | succ m=>exact Tx.ik (h) R hq au hb
def yv(h:ItemsOf (fun(i:Nat) (v:Value)=>∃t:Tok,v=Value.int (a+i*c) t) acc n):Vals ((rangeInts a c n).map V.int) acc.toList:=by
 have:∀l k,(∀j v,l[j]?=some v->∃t:Tok,v=Value.int (a+(k+j:Nat)*c) t)->Vals (((List.range' k l.length).map fun(i:Nat)=>a+i*c).map V.int) l:=by
  intro l;induction l with
  | nil=>intro k _;exact .nil
  | cons x l ih =>
   intro k hx;obtain⟨t,ht⟩:=hx 0 x rfl;rw[cF,List.range'_succ,aO,aO];refine .cons ⟨t,by rw[ht];rfl⟩ (ih (k+1) λj v hv=>?_)
   have:=hx (j+1) v (by simpa using hv)
   rw[show k+(j+1)=k+1+j by lia]at this
   exact this
 have h2:=this acc.toList 0 λj v hv=>by
  rw[Nat.zero_add];exact h.2 j v (by rw[<-wZ];exact hv)
 rw[lr,h.1,<-List.range_eq_range']at h2;exact h2
def RJ(hh:X.A.handled=none)(Nn:Gl X "list")(Np:X.mg "list"=none)(hg:Gl X "range")(hm:X.mg "range"=none)(ha:PA X (e::es) (tA X aa ab ts))(hs:starEach (e::es) X.env=(false,eval e X.env)::starEach es X.env)(wF:(backTo ou (starEach es X.env)).any (·.1)=false) :
  PE X (.Call (.Name "list" p) [.Call (.Name "range" zp) (e::es) [] ou] [] pos) (tE X aa ab (VL m ts)):=by
 rintro ae s σ H Q I ⟨F,st,Rp,h⟩
 refine iA (ld_blt I Nn Np (gW .list) ?_ (by decide) (by decide))
 refine d0 (ox rfl ?_) rfl rfl;have hA:=ha ou ae s σ H (λvs H'=>∃F' bK ps,Rep X.K aa ab F' bK σ H'/\ao X.K F' ps vs/\Tx X aa ab (bc X.K) F' bK (bnd (fy (Nm ps)) λl=>kP m (l.map .int)) σ Q) I ⟨F,st,Rp,h.bnd λps vs F1 aL H1 R1 g1 b1 h1=>⟨F1,aL,ps,R1,b1,h1⟩⟩
 refine Call_ (ld_blt I hg hm boot_range (d0 (thn hA λus s1 z9=>?_) hs wF))
 obtain⟨vs,H1,I1,r1,F1,aL,ps,R1,b1,h1⟩:=z9;obtain⟨ns,f2,h1⟩:=At.fy (At.bnd h1);have i8:∀r h1 VM (a b c:Int) (t u v:Tok) (n:Nat),(∀b o,s1.heap.get? b=some o->h1.get? b=some o)->IsRange h1 r a b c t u v->Builtin.Range.small a b c=true->Builtin.Range.rangeSize a b c=n->n<=3000->ns=rangeInts a c n ->
   wpAny (model X.prog X.w) X.A (call (.type "list") [.ref r]) (EP X ae σ Q) X.xe {s1 with heap:=h1,toks:=VM}:=λr h2 VM a b c t u v n hk hr Zo hn TF HH=>by
  refine call_list_range hh hr Zo hn (by lia) λh' tk acc c' TK hS VN=>?_
  have I2:=I1.kept (t':=VM) hk;have hz:=I2.hok.fresh (ar _);have hv:=yv VN;rw[<-HH]at hv;refine⟨.ref h2.objs.size,bZ H1 h2.objs.size (.lst (ns.map V.int)),I2.laid TK (ar _) ⟨?_,acc.toList,c',hv,hS⟩,rfl,Tx.kP h1 R1 hz (qP ns)⟩;rw[ak,HH,rangeInts_length];exact aD TF (by decide)
 clear h1;unfold Nm at f2;split at f2
 ·rename_i n;obtain⟨⟨h0,h1⟩,e1⟩:=ax f2;obtain⟨v,rfl,bv⟩:=b7 b1;rw[aw.mp bv]at r1;obtain⟨u,rfl,ru⟩:=ia r1;obtain⟨tk0,rfl⟩:=ru;refine call_range_1 ?_;refine i8 _ _ _ 0 n 1 _ _ _ n.toNat (λb o e=>aj _ e) (IsRange.new ..) ?_ ?_ (by lia) e1.symm
  ·exact small_one (by decide) (by decide) (by lia) (by lia)
  ·unfold Builtin.Range.rangeSize;rw[if_pos (by decide)]
   split<;>lia
 ·rename_i a b;obtain⟨⟨h0,h1,h2⟩,e1⟩:=ax f2;obtain⟨v1,v2,rfl,Zr,Zs⟩:=kF b1;rw[aw.mp Zr,aw.mp Zs]at r1;obtain⟨u1,u2,rfl,MS,RK⟩:=zw r1;obtain⟨k1,rfl⟩:=MS;obtain⟨k2,rfl⟩:=RK;refine call_range_2 ?_;refine i8 _ _ _ a b 1 _ _ _ (b-a).toNat (λb o e=>aj _ e) (IsRange.new ..) (small_one (by lia) (by lia) (by lia) (by lia)) (rangeSize_nat a b) (by lia) e1.symm
 ·cases f2
end
def jR(ps:List PV):Option (List Bool):=bj uY ps
def p7:GC:=λh ps=>match ps with
 | [p]=>(lQ h p).bind λqs=>(jR qs).map λbs=>.bl (bs.all id)
 | _=>none
def IY:GC:=λh ps=>match ps with
 | [p]=>(lQ h p).bind λqs=>(jR qs).map λbs=>.bl (bs.any id)
 | _=>none
section
variable {X:Cx} {aa:Hp} {ab:Fz} {e:Expr} {fe:Gx PV} {pos p:Pos} {m:Nat}
theorem qR{K:W.Frag}{F:Fz}:∀{ps:List PV} {ns:List Bool} {vs:List V},jR ps=some ns->ao K F ps vs->vs=ns.map V.bl
 | [],ns,vs,h,b=>by cases h;exact b.bL
 | p::r,ns,vs,h,b=>by
  obtain⟨i,ms,h1,h2,rfl⟩:=cC h;obtain⟨v,vr,rfl,c,d⟩:=b.bB;rw[jM h1]at c;rw[aR.mp c,qR h2 d];rfl
theorem oE:∀{bs:List Bool} {us:List Value},Vals (bs.map V.bl) us->us=bs.map Value.bool
 | [],_,r=>by cases r;rfl
 | b::bs,_,r=>by
  cases r with
  | cons ra rr =>
   cases ra;rw[oE rr];rfl
theorem BE(bs:List Bool):(List.range bs.length).any (λi=>bs[i]?.getD false)=bs.any id:=by
 rw[dO,lB,lB];refine⟨λ⟨i,hi,h⟩=>?_,λ⟨b,hb,h⟩=>?_⟩
 ·have hi:=gL.mp hi;rw[b9 hi]at h;exact⟨_,xo hi,h⟩
 ·obtain⟨i,hi,e⟩:=List.getElem_of_mem hb;refine⟨i,gL.mpr hi,?_⟩;rw[b9 hi,e];exact h
theorem oF{ae:List (Addr×Obj)}{s:Shared}{σ τ:St}{H aa:Hp}{ab F:Fz}{st:bT}{us:List Value}{v:V}{p:PV}{qs:List PV}{ns:List Bool}(I:Inv X ae σ H s)(rs:Vals [v] us)(R:Rep X.K aa ab F st τ H)(b:bc X.K F p v)(e1:lQ st.h p=some qs)(e2:jR qs=some ns) :
  ∃a,us=[.ref a]/\s.heap.IsList a (ns.map Value.bool).toArray/\a≠s.heap.objs.size:=by
 obtain⟨a,vs,rfl,ha,eM⟩:=R.at (cZ e1) b;obtain⟨ai,r,pl,_⟩:=I.list (gq.sq ha);have ev:=qR e2 eM;subst ev;have ei:=oE r;subst ei;obtain⟨u,rfl,ru⟩:=ia rs;cases ru;refine⟨a,rfl,pl.isList,?_⟩;obtain⟨o,ho,_⟩:=pl.isList;exact aJ (ay ho)
theorem qS{ns:List Bool}{d:Bool}{i:Nat}{v:Value}{s':Shared}{Q':Bool->Shared->Prop}{E':Value->Shared->Prop}{M:Model}{A:Around}(hP:(ns.map Value.bool).toArray[i]?=some v)(hQ:Q' (ns[i]?.getD d) s'):wpAny M A (truthy v) Q' E' s':=by
 rw[jw,bR]at hP;cases w:ns[i]? with
 | none=>rw[w]at hP;cases hP
 | some bb =>
  rw[w]at hP hQ;cases hP;exact iC hQ
theorem BF(hc:X.A.handled=none):yh X (.builtin "any") IY:=by
 intro ae s σ H xs us Q I rs ⟨aa,ab,F,st,τ,ps,p,e,R,bs,k⟩;unfold IY at e;split at e
 ·obtain⟨qs,e1,e⟩:=aE e;obtain⟨ns,e2,rfl⟩:=aM e;obtain⟨v,rfl,b⟩:=b7 bs;obtain⟨a,rfl,hL,zS⟩:=oF I rs R b e1 e2;refine call_any_walk (lx hL ?_);refine⟨_,_,_,_,_,_,λi=>ns[i]?.getD false,rfl,Walks.list (A:=X.A.in1) hc s.heap.objs.size a zS _,⟨⟨_,aY _ rfl,rfl,rfl⟩,xm hL _⟩,λi v s' Q' E' hP hQ=>qS hP hQ,λh' tk hk=>?_⟩
  refine⟨.bl (ns.any id),H,I.kept (t':=tk) λb o e=>?_,?_,k _ H F R (Gr.refl F) (aR.mpr rfl)⟩
  ·exact hk b o (λhm=>absurd (iB.mp hm▸ay e) (dv _)) (aj _ e)
  ·show Value.bool _=_;rw[<-BE ns];simp
 ·cases e
theorem BG(bs:List Bool):(List.range bs.length).all (λi=>bs[i]?.getD true)=bs.all id:=by
 rw[dO,d9,d9];refine⟨λh b hb=>?_,λh i hi=>?_⟩
 ·obtain⟨i,hi,e⟩:=List.getElem_of_mem hb;have:=h i (gL.mpr hi);rw[b9 hi,e]at this;exact this
 ·have hi:=gL.mp hi;rw[b9 hi];exact h _ (xo hi)
theorem BH(hc:X.A.handled=none):yh X (.builtin "all") p7:=by
 intro ae s σ H xs us Q I rs ⟨aa,ab,F,st,τ,ps,p,e,R,bs,k⟩;unfold p7 at e;split at e
 ·obtain⟨qs,e1,e⟩:=aE e;obtain⟨ns,e2,rfl⟩:=aM e;obtain⟨v,rfl,b⟩:=b7 bs;obtain⟨a,rfl,hL,zS⟩:=oF I rs R b e1 e2;refine call_all_walk (lx hL ?_);refine⟨_,_,_,_,_,_,λi=>ns[i]?.getD true,rfl,Walks.list (A:=X.A.in1) hc s.heap.objs.size a zS _,⟨⟨_,aY _ rfl,rfl,rfl⟩,xm hL _⟩,λi v s' Q' E' hP hQ=>qS hP hQ,λh' tk hk=>?_⟩
  refine⟨.bl (ns.all id),H,I.kept (t':=tk) λb o e=>?_,?_,k _ H F R (Gr.refl F) (aR.mpr rfl)⟩
  ·exact hk b o (λhm=>absurd (iB.mp hm▸ay e) (dv _)) (aj _ e)
  ·show Value.bool _=_;rw[<-BG ns];simp
 ·cases e
def Nq(p:PV):Option (List PV):=match p with
 | .nd .aq ps=>some ps
 | _=>none
def IZ(m:Nat)(fe:Gx PV):Gx PV:=bnd fe λp=>bnd (fy (Nq p)) λps=>kP m ps
def Nr(Nn:Gl X "list")(Np:X.mg "list"=none)(he:PE X e (tE X aa ab fe))(hs:∀es,starEach (e::es) X.env=(false,eval e X.env)::starEach es X.env):PE X (.Call (.Name "list" p) [e] [] pos) (tE X aa ab (IZ m fe)):=by
 rintro ae s σ H Q I ⟨F,st,Rp,h⟩
 refine iA (ld_blt I Nn Np (gW .list) ?_ (by decide) (by decide))
 refine d0 (ox (hs []) ?_) (hs []) rfl;have hA:=he ae s σ H (λv H'=>∃F' bK q,Rep X.K aa ab F' bK σ H'/\bc X.K F' q v/\Tx X aa ab (bc X.K) F' bK (bnd (fy (Nq q)) λps=>kP m ps) σ Q) I ⟨F,st,Rp,h.bnd λq v F1 aL H1 R1 g1 b1 h1=>⟨F1,aL,q,R1,b1,h1⟩⟩
 refine thn hA λu s1 z9=>?_
 obtain⟨x,H1,I1,r1,F1,aL,q,R1,b1,h1⟩:=z9;obtain⟨ps,f2,h1⟩:=At.fy (At.bnd h1);obtain rfl:q=.aq ps:=by
  unfold Nq at f2;split at f2
  ·cases f2;rfl
  ·cases f2
 obtain⟨a,vs,rfl,ha,eM⟩:=bg.mp b1;cases r1;obtain⟨ai,rv,⟨o,ho,hc,n,hd⟩,hz⟩:=I1.tuple (aU R1.sub ha);refine call_list_seq (hsz:=by rw[bO,<-rv.length];exact hz) a (.inr rfl) ho hc hd λh' c' hk hS=>?_
 exact⟨.ref s1.heap.objs.size,bZ H1 s1.heap.objs.size (.lst vs),I1.laid hk (ar _) ⟨hz,ai,c',rv,hS⟩,rfl,Tx.kP h1 R1 (I1.hok.fresh (ar _)) eM⟩
def RL(h:List ah)(p q:PV):Option (List PV):=(lQ h p).bind λxs=>(lQ h q).bind λys=>if xs.length+ys.length<=iN then some (xs++ys)else none
def Nt(m:Nat)(fa fb:Gx PV):Gx PV:=bnd fa λp=>bnd fb λq=>bnd (hp λh=>RL h p q) λl=>kP m l
def VO(X:Cx)(aa:Hp)(ab:Fz)(m:Nat):R2:=λx y H Q=>∃F st σ pa pb l,RL st.h pa pb=some l/\Rep X.K aa ab F st σ H/\bc X.K F pa x/\bc X.K F pb y/\Tx X aa ab (bc X.K) F st (kP m l) σ Q
def I0:OpR X (binaryOp .Add) (VO X aa ab m):=by
 rintro ae s σ H x y v u Q I rx ry ⟨F,st,τ,pa,pb,l,e,R,ba,bb,k⟩
 obtain⟨xs,e1,e⟩:=aE e;obtain⟨ys,e2,e⟩:=aE e;obtain⟨hz,rfl⟩:=ax e;obtain⟨a,vs,rfl,ha,eM⟩:=R.at (cZ e1) ba;obtain⟨b,ws,rfl,hb,GD⟩:=R.at (cZ e2) bb;cases rx;cases ry;obtain⟨ai,n,r,e1,z1⟩:=I.kA ha;obtain⟨bY,n2,r2,e2,z2⟩:=I.kA hb;have hl:=r.length;have TC:=r2.length;have YQ:vs.length+ws.length<=sizeLine:=by rw[<-eM.length,<-GD.length];exact cQ hz
 refine PySem.P.add_list e1 e2 ?_ (by grind)
 have ea:ai.toArray++bY.toArray=(ai++bY).toArray:=by simp
 rw[ea];exact⟨.ref _,_,I.Ma (r.append r2) (by grind),rfl,Tx.kP k R I.fresh (eM.append GD)⟩
def Nu{a b:Expr}{fa fb:Gx PV}(ha:PE X a (tE X aa ab fa))(hb:PE X b (tE X aa ab fb)):PE X (.BinOp a .Add b pos) (tE X aa ab (Nt m fa fb)):=(J7 I0 ha hb).imp λσ H Q ⟨F,st,R,h⟩ =>
 ⟨F,st,R,h.bnd λp v F1 aL H1 R1 g1 b1 h1=>⟨F1,aL,R1,h1.bnd λq w F2 dk H2 R2 g2 b2 h2=>by
  obtain⟨l,e,z⟩:=At.hp (At.bnd h2);exact⟨F2,dk,σ,p,q,l,e,R2,b1.mono g2,b2,z⟩⟩⟩
def Nv(h:List ah)(p:PV)(as:List PV):Option PV:=match as with
 | [q]=>(lQ h p).bind λps=>(toT h cf q).bind λx=>(bj (toT h cf) ps).map λys=>.int (ys.countP λy=>eqT y x:Nat)
 | _=>none
def Ja(p:PV)(as:List PV):Gx PV:=hp λh=>Nv h p as
def RM(K:W.Frag):V->List V->Hp->VK->Prop:=λv ws H Q=>∃aa ab F st σ p as o,Nv st.h p as=some o/\Rep K aa ab F st σ H/\bc K F p v/\ao K F as ws/\∀u H' F',Rep K aa ab F' st σ H'->Gr F F'->bc K F' o u->Q u H'
theorem Ah{s:Shared}{p:Tr}:∀{ts:List Tr} {us:List Value},bC s ts us->us.countP (jj s p)=ts.countP λy=>eqT y p
 | [],_,b=>by simp only[bC]at b;subst b;rfl
 | q::ts,_,b=>by
  simp only[bC]at b;obtain⟨u,r,rfl,c1,d1⟩:=b;rw[List.countP_cons,List.countP_cons,tu c1,Ah d1]
def Nw(hu:X.A.units+1150<cLine):L6 X "list.count" (RM X.K):=by
 rintro ae s σ H x vs v us Q I rx rv ⟨aa,ab,F,st,τ,p,as,o,e,R,bp,ba,k⟩
 unfold Nv at e;split at e
 ·obtain⟨ps,e1,e⟩:=aE e;obtain⟨t,e2,e⟩:=aE e;obtain⟨ts,e3,rfl⟩:=aM e;obtain⟨y,rfl,b⟩:=b7 ba;obtain⟨a,ws,rfl,ha,eM⟩:=R.at (cZ e1) bp;cases rx;obtain⟨u,rfl,ru⟩:=rv.one;have tp:=R.tree I _ _ _ _ _ e2 b ru;obtain⟨ai,r,pl,_⟩:=I.list (gq.sq ha);obtain⟨h1,h2⟩:=R.trees I _ _ _ _ _ e3 eM r;obtain⟨⟨cls,dd,data,sl⟩,ho,hc,n,hd⟩:=pl.isList;simp only at hc hd;subst hc hd;refine dw PySem.F.slot_list_count ⟨_,ho,rfl⟩ PySem.F.entry_list_count (PySem.F.args_list_count_2 _ _) (SeqAt.list_countAt a ai.toArray n dd sl u (jj s t)) ⟨ho,λy hy=>mS tp h1 (by rw[nz];unfold cf at h2;lia) y (by simpa using hy),?_⟩
  rw[show ai.toArray.toList=ai from rfl,Ah h1]
  exact⟨.int _,H,I.tok _,⟨_,rfl⟩,k _ H F R (Gr.refl F) (aw.mpr rfl)⟩
 ·cases e
def Nx:Rf X (RM X.K) Ja:=λaa H ab F st σ p as v ws Q h R bp ba=>by
 obtain⟨o,e,z⟩:=At.hp h;exact⟨aa,ab,F,st,σ,p,as,o,e,R,bp,ba,z⟩
def RN{o:Expr}{es:List Expr}{fo:Gx PV}{ts:Gx (List PV)}{kh fR:Pos}(hu:X.A.units+1150<cLine)(ho:PE X o (tE X aa ab fo))(ha:PA X (e::es) (tA X aa ab ts))(fY:attributeBase o "count" X.env (eval o X.env)=eval o X.env)
  (pQ:((backTo fR (starEach (e::es) X.env)).all (λx=>!x.1)&&(backToKw fR (keywordEach [] X.env)).all (λx=>x.1.isSome)&&decide ((e::es).length+([]:List Keyword).length+(if([]:List Keyword).isEmpty then 0 else 1)<30))=true)
  (fq:(kh.endLine==fR.line)=true) (j9:starEach (e::es) X.env=(false,eval e X.env)::starEach es X.env) (kn:(backTo fR (starEach es X.env)).any (·.1)=false):PE X (.Call (.Attribute o "count" kh) (e::es) [] fR) (tE X aa ab (IK "list" Ja fo ts)) :=
 (nZ m9 PySem.F.slot_list_count PySem.F.type_list_count (Nw hu) ho ha fY pQ fq j9 kn).imp λ_ _ _ h=>jP Nx h
def ET:bootBuiltins "all"=some (.builtin "all"):=by kernel_rfl
def EU:bootBuiltins "any"=some (.builtin "any"):=by kernel_rfl
end
theorem ng{a b:Nat}(h:b<a):@Ne Addr a b:=lI h
structure Zp (h:Heap) (z TI TO i1 i2 l1 l2:Nat) (f0:Value) (k:Nat) (xs ys:Array Value):Prop where
 hz:IsZip h z TI TO f0
 hTI:IsPair h TI (.ref i1) (.ref i2)
 hTO:∃a b,IsPair h TO a b
 s1:SI h i1 l1 k xs
 s2:SI h i2 l2 k ys
 ord:i1<i2/\i2<TI/\TI<TO/\TO<z
 o1:l1<i1
 o2:l2<i1
section
variable {prog:Program} {w:World} {A:Around} {E:Value->Shared->Prop} {s:Shared} {z TI TO i1 i2 l1 l2:Nat} {k:Nat} {xs ys:Array Value}
theorem Ai{x y:Value}{Q:Value->Shared->Prop}(Z:Zp s.heap z TI TO i1 i2 l1 l2 .none k xs ys)(hx:xs[k]?=some x)(hy:ys[k]?=some y)
  (hQ:∀h',Zp h' z TI TO i1 i2 l1 l2 (rawInt s.heap.objs.size) (k+1) xs ys->IsPair h' s.heap.objs.size x y->h'.objs.size=s.heap.objs.size+1->(∀c o,c≠z->c≠TO->c≠i1->c≠i2->s.heap.get? c=some o->h'.get? c=some o)->Q (.ref s.heap.objs.size) {s with heap:=h'}) :
  wpAny (model prog w) A (Builtin.«zip.__next__» ⟨[.ref z],[]⟩) (λi8 s'=>∃v,i8=.done (.ret v)/\Q v s') E s:=by
 obtain⟨hz,hTI,⟨a,b,hTO⟩,s1,s2,⟨o1,o2,o3,o4⟩,q1,q2⟩:=Z;show wpAny _ _ (field (.ref z) 2 >>= _) _ _ _;refine af (bu hz rfl (x:=.bool false) rfl ?_);show wpAny _ _ (field (.ref z) 3 >>= _) _ _ _;refine af (bu hz rfl (x:=.ref TI) rfl (af (cN hTI rfl ?_)));show wpAny _ _ (Builtin.SmallTypes.ownedTupleIsFree (.ref z) >>= _) _ _ _;refine af ?_;unfold Builtin.SmallTypes.ownedTupleIsFree;refine af (bu hz rfl (x:=.none) rfl (ag ?_));simp only[ef];refine af (gm (af (bu hz rfl (x:=.ref TO) rfl (af (d8 hz (by simp) λcq hz₁ e₁=>?_)))))
 replace hz₁:IsZip cq z TI TO .ellipsis:=hz₁;refine af ?_;simp only[sg,sv,gK,iI];refine af (af (iJ ?_));show wpAny _ _ (Builtin.SmallTypes.nextOf (.ref i1) >>= _) _ _ _;have dR:SI cq i1 l1 k xs:=s1.at (λo e=>e₁.extBut _ _ (by first | exact nl (by lia) | exact ng (by lia)) e) (λo e=>e₁.extBut _ _ (by first | exact nl (by lia) | exact ng (by lia)) e)
 refine af (SI.next dR hx λfL iV e₂=>ag ?_)
 have fM:IsPair fL TO a b:=e₂.extBut _ _ (by first | exact nl (by lia) | exact ng (by lia)) (e₁.extBut _ _ (by first | exact nl (by lia) | exact ng (by lia)) hTO)
 refine af (cN fM rfl (af (lq fM λdF hTO₃ cG=>?_)))
 replace hTO₃:IsPair dF TO x b:=hTO₃;refine af (gP (ag (af (af (iJ ?_)))));show wpAny _ _ (Builtin.SmallTypes.nextOf (.ref i2) >>= _) _ _ _;have iW:SI dF i2 l2 k ys:=s2.at (λo e=>cG.extBut _ _ (by first | exact nl (by lia) | exact ng (by lia)) (e₂.extBut _ _ (by first | exact nl (by lia) | exact ng (by lia)) (e₁.extBut _ _ (by first | exact nl (by lia) | exact ng (by lia)) e))) (λo e=>cG.extBut _ _ (by first | exact nl (by lia) | exact ng (by lia)) (e₂.extBut _ _ (by first | exact nl (by lia) | exact ng (by lia)) (e₁.extBut _ _ (by first | exact nl (by lia) | exact ng (by lia)) e)))
 refine af (SI.next iW hy λyw EV e₄=>ag ?_)
 have oG:IsPair yw TO x b:=e₄.extBut _ _ (by first | exact nl (by lia) | exact ng (by lia)) hTO₃
 refine af (cN oG rfl (af (lq oG λcS hTO₅ jS=>?_)))
 replace hTO₅:IsPair cS TO x y:=hTO₅;refine af (gP (ag (ag ?_)));refine af (cN hTO₅ rfl (af (sH ?_)));have hsz:cS.objs.size=s.heap.objs.size:=by rw[jS.1,e₄.1,cG.1,e₂.1,e₁.1]
 have vE:IsZip cS z TI TO .ellipsis:=jS.extBut _ _ (by first | exact nl (by lia) | exact ng (by lia)) (e₄.extBut _ _ (by first | exact nl (by lia) | exact ng (by lia)) (cG.extBut _ _ (by first | exact nl (by lia) | exact ng (by lia)) (e₂.extBut _ _ (by first | exact nl (by lia) | exact ng (by lia)) hz₁)))
 have kp:∀c o,c≠z->c≠TO->c≠i1->c≠i2->s.heap.get? c=some o->cS.get? c=some o:=λc o c1 c2 c3 c4 e=>jS.extBut _ _ c2 (e₄.extBut _ _ c4 (cG.extBut _ _ c2 (e₂.extBut _ _ c3 (e₁.extBut _ _ c1 e))))
 have EW:SI cS i1 l1 (k+1) xs:=iV.at (λo e=>jS.extBut _ _ (by first | exact nl (by lia) | exact ng (by lia)) (e₄.extBut _ _ (by first | exact nl (by lia) | exact ng (by lia)) (cG.extBut _ _ (by first | exact nl (by lia) | exact ng (by lia)) e))) (λo e=>jS.extBut _ _ (by first | exact nl (by lia) | exact ng (by lia)) (e₄.extBut _ _ (by first | exact nl (by lia) | exact ng (by lia)) (cG.extBut _ _ (by first | exact nl (by lia) | exact ng (by lia)) e)))
 have EX:SI cS i2 l2 (k+1) ys:=EV.at (λo e=>jS.extBut _ _ (by first | exact nl (by lia) | exact ng (by lia)) e) (λo e=>jS.extBut _ _ (by first | exact nl (by lia) | exact ng (by lia)) e)
 have Zu:z<cS.objs.size:=ay vE;show wpAny _ _ (Builtin.SmallTypes.ownedTupleHandOut (.ref z) (.ref cS.objs.size) >>= _) _ _ _;refine af ?_;unfold Builtin.SmallTypes.ownedTupleHandOut;have EY:IsZip (cS.push {cls:=.type "tuple",data:=.seq #[x,y]}) z TI TO .ellipsis:=aj _ vE
 refine af (d8 EY (by simp) λNy oH e₇=>?_)
 replace oH:IsZip Ny z TI TO (rawInt cS.objs.size):=oH;refine d8 oH (by simp) λoI kQ yx=>?_
 replace kQ:IsZip oI z TI TO (rawInt cS.objs.size):=kQ;have up:∀c o,c≠z->cS.get? c=some o->oI.get? c=some o:=λc o c1 e=>yx.extBut _ _ c1 (e₇.extBut _ _ c1 (aj _ e))
 have hT₈:IsPair oI cS.objs.size x y:=yx.extBut _ _ (by first | exact nl (by lia) | exact ng (by lia)) (e₇.extBut _ _ (by first | exact nl (by lia) | exact ng (by lia)) (aY _ rfl))
 have RO:oI.objs.size=cS.objs.size+1:=by rw[yx.1,e₇.1,cm]
 rw[hsz]at kQ hT₈ RO;refine ag ⟨_,rfl,?_⟩;show Q (.ref cS.objs.size) _;rw[hsz];refine hQ oI ⟨kQ,up _ _ (by first | exact nl (by lia) | exact ng (by lia)) (kp _ _ (by first | exact nl (by lia) | exact ng (by lia)) (by first | exact nl (by lia) | exact ng (by lia)) (by first | exact nl (by lia) | exact ng (by lia)) (by first | exact nl (by lia) | exact ng (by lia)) hTI),⟨x,y,up _ _ (by first | exact nl (by lia) | exact ng (by lia)) hTO₅⟩,EW.at (λo e=>up _ o (by first | exact nl (by lia) | exact ng (by lia)) e) (λo e=>up _ o (by first | exact nl (by lia) | exact ng (by lia)) e),EX.at (λo e=>up _ o (by first | exact nl (by lia) | exact ng (by lia)) e) (λo e=>up _ o (by first | exact nl (by lia) | exact ng (by lia)) e),⟨o1,o2,o3,o4⟩,q1,q2⟩ hT₈ RO λc o c1 c2 c3 c4 e=>up c o c1 (kp c o c1 c2 c3 c4 e)
theorem EZ{Q:Fin->Shared->Prop}(hh:A.handled=none)(Z:Zp s.heap z TI TO i1 i2 l1 l2 .none k xs ys)(lZ:xs[k]?=none\/ys[k]?=none)
  (hE:∀h' e,(∀c o,c≠z->c≠TO->c≠i1->c≠i2->s.heap.get? c=some o->h'.get? c=some o)->(∃o,h'.get? e=some o/\o.cls=.type "StopIteration")->E (.ref e) {s with heap:=h'}):wpAny (model prog w) A (Builtin.«zip.__next__» ⟨[.ref z],[]⟩) Q E s:=by
 obtain⟨hz,hTI,⟨a,b,hTO⟩,s1,s2,⟨o1,o2,o3,o4⟩,q1,q2⟩:=Z;show wpAny _ _ (field (.ref z) 2 >>= _) _ _ _;refine af (bu hz rfl (x:=.bool false) rfl ?_);show wpAny _ _ (field (.ref z) 3 >>= _) _ _ _;refine af (bu hz rfl (x:=.ref TI) rfl (af (cN hTI rfl ?_)));show wpAny _ _ (Builtin.SmallTypes.ownedTupleIsFree (.ref z) >>= _) _ _ _;refine af ?_;unfold Builtin.SmallTypes.ownedTupleIsFree;refine af (bu hz rfl (x:=.none) rfl (ag ?_));simp only[ef];refine af (gm (af (bu hz rfl (x:=.ref TO) rfl (af (d8 hz (by simp) λcq hz₁ e₁=>?_)))))
 replace hz₁:IsZip cq z TI TO .ellipsis:=hz₁;refine af ?_;simp only[sg,sv,gK,iI];refine af (af (iJ ?_));show wpAny _ _ (Builtin.SmallTypes.nextOf (.ref i1) >>= _) _ _ _;have dR:SI cq i1 l1 k xs:=s1.at (λo e=>e₁.extBut _ _ (by first | exact nl (by lia) | exact ng (by lia)) e) (λo e=>e₁.extBut _ _ (by first | exact nl (by lia) | exact ng (by lia)) e)
 cases hx:xs[k]? with
 | none =>
  refine af (SI.stop hh dR hx λfL e hs₂ he=>?_)
  obtain⟨oe,yy,E2⟩:=he;have vF:IsZip fL z TI TO .ellipsis:=hs₂ _ _ (by first | exact nl (by lia) | exact ng (by lia)) hz₁
  have Nz:e≠z:=λx=>by subst x;rw[vF]at yy;cases yy;simp at E2
  exact d8 vF (by simp) λdF _ hs₃=>hE dF e (λc o c1 _ c3 _ x=>hs₃.extBut _ _ c1 (hs₂ _ _ c3 (e₁.extBut _ _ c1 x))) ⟨oe,hs₃.extBut _ _ Nz yy,E2⟩
 | some x =>
  have hy:ys[k]?=none:=by
   rcases lZ with h | h
   ·rw[hx]at h;cases h
   ·exact h
  refine af (SI.next dR hx λfL iV e₂=>ag ?_)
  have fM:IsPair fL TO a b:=e₂.extBut _ _ (by first | exact nl (by lia) | exact ng (by lia)) (e₁.extBut _ _ (by first | exact nl (by lia) | exact ng (by lia)) hTO)
  refine af (cN fM rfl (af (lq fM λdF hTO₃ cG=>?_)))
  refine af (gP (ag (af (af (iJ ?_)))));show wpAny _ _ (Builtin.SmallTypes.nextOf (.ref i2) >>= _) _ _ _;have iW:SI dF i2 l2 k ys:=s2.at (λo e=>cG.extBut _ _ (by first | exact nl (by lia) | exact ng (by lia)) (e₂.extBut _ _ (by first | exact nl (by lia) | exact ng (by lia)) (e₁.extBut _ _ (by first | exact nl (by lia) | exact ng (by lia)) e))) (λo e=>cG.extBut _ _ (by first | exact nl (by lia) | exact ng (by lia)) (e₂.extBut _ _ (by first | exact nl (by lia) | exact ng (by lia)) (e₁.extBut _ _ (by first | exact nl (by lia) | exact ng (by lia)) e)))
  refine af (SI.stop hh iW hy λyw e vG he=>?_)
  obtain⟨oe,yy,E2⟩:=he;have vH:IsZip yw z TI TO .ellipsis:=vG _ _ (by first | exact nl (by lia) | exact ng (by lia)) (cG.extBut _ _ (by first | exact nl (by lia) | exact ng (by lia)) (e₂.extBut _ _ (by first | exact nl (by lia) | exact ng (by lia)) hz₁))
  have Nz:e≠z:=λx=>by subst x;rw[vH]at yy;cases yy;simp at E2
  exact d8 vH (by simp) λcS _ hs₅=>hE cS e (λc o c1 c2 c3 c4 x=>hs₅.extBut _ _ c1 (vG _ _ c4 (cG.extBut _ _ c2 (e₂.extBut _ _ c3 (e₁.extBut _ _ c1 x))))) ⟨oe,hs₅.extBut _ _ Nz yy,E2⟩
theorem vI(l1 l2:Addr)(xs ys:Array Value)(c1 c2:String) :
  Meets (Builtin.«zip.__new__» ⟨[.type "zip",.ref l1,.ref l2],[]⟩) (λ_ R s=>gC s.heap l1 xs c1/\gC s.heap l2 ys c2 /\
   ∀h1 h2 h3 h4:Heap,h1=s.heap.push {cls:=.type c1,data:=.fields #[.ref l1,.int 0 0]}->h2=h1.push {cls:=.type c2,data:=.fields #[.ref l2,.int 0 0]}->h3=h2.push {cls:=.type "tuple",data:=.seq #[.ref s.heap.objs.size,.ref h1.objs.size]}->h4=h3.push {cls:=.type "tuple",data:=.seq #[.none,.none]} ->
    R (.ok (.ret (.ref h4.objs.size))) {s with heap:=h4.push {cls:=.type "zip",data:=.fields #[.none,.bool false,.bool false,.ref h2.objs.size,.ref h3.objs.size]}}) :=
 .of_wp λprog w A R s h=>by
  obtain⟨hp,g,d,tk,os⟩:=s;obtain⟨NA,TC,h⟩:=h;have tK:=sub_zip;have Zv:gC (Shared.heap ⟨hp,g,d,tk,os⟩) l1 xs c1:=NA;have Zw:gC (Shared.heap ⟨hp.push {cls:=.type c1,data:=.fields #[.ref l1,.int 0 0]},g,d,tk,os⟩) l2 ys c2:=by
   rcases TC with⟨e,q⟩ | ⟨e,q⟩
   ·exact .inl ⟨e,xm q _⟩
   ·exact .inr ⟨e,Heap.IsTuple.push q _⟩
  wp_walk using jc Zv,jc Zw
  exact⟨_,rfl,h _ _ _ _ rfl rfl rfl rfl⟩
end
def TU(h:Heap)(z TI TO t:Nat)(f:Bool):Prop:=h.get? z=some {cls:=.type "zip",data:=.fields #[rawInt t,.bool f,.bool false,.ref TI,.ref TO]}
structure Zq (h:Heap) (z TI TO i1 i2 l1 l2 t:Nat) (f:Bool) (k:Nat) (xs ys:Array Value):Prop where
 hz:TU h z TI TO t f
 hTI:IsPair h TI (.ref i1) (.ref i2)
 s1:SI h i1 l1 k xs
 s2:SI h i2 l2 k ys
 al:∃o,h.get? t=some o
 ord:i1<i2/\i2<TI/\TI<TO/\TO<z/\z<t
 o1:l1<i1
 o2:l2<i1
section
variable {prog:Program} {w:World} {A:Around} {E:Value->Shared->Prop} {s:Shared} {z TI TO i1 i2 l1 l2 t:Nat} {f:Bool} {k:Nat} {xs ys:Array Value}
theorem Zq.at{h h':Heap}(Z:Zq h z TI TO i1 i2 l1 l2 t f k xs ys)(kp:∀b o,b<=z->h.get? b=some o->h'.get? b=some o)(ka:∀o,h.get? t=some o->∃o',h'.get? t=some o'):Zq h' z TI TO i1 i2 l1 l2 t f k xs ys:=by
 obtain⟨hz,hTI,s1,s2,⟨oa,ha⟩,⟨o1,o2,o3,o4,o5⟩,q1,q2⟩:=Z;exact⟨kp _ _ (ar _) hz,kp _ _ (by lia) hTI,s1.at (λo e=>kp _ o (by lia) e) (λo e=>kp _ o (by lia) e),s2.at (λo e=>kp _ o (by lia) e) (λo e=>kp _ o (by lia) e),ka _ ha,⟨o1,o2,o3,o4,o5⟩,q1,q2⟩
theorem tO{oa:Obj}{Q:Bool->Shared->Prop}(hz:TU s.heap z TI TO t f)(ha:s.heap.get? t=some oa)(hQ:∀cq,TU cq z TI TO t true->Heap.SameBut z s.heap cq->Q false {s with heap:=cq}):wpAny (model prog w) A (Builtin.SmallTypes.ownedTupleIsFree (.ref z)) Q E s:=by
 unfold Builtin.SmallTypes.ownedTupleIsFree;refine af (bu hz rfl (x:=rawInt t) rfl ?_);show wpAny _ _ (loadIfAlive ((t:Int).toNat) >>= _) _ _ _;rw[lu];refine af (W.kdx_alive ha ?_);simp only[Option.isNone_some,eR,de];refine af (bu hz rfl (x:=.bool f) rfl ?_);cases f with
 | true =>
  rw[if_neg (show ¬((Value.bool true != Value.bool true)=true)from cE)]
  exact ag (hQ _ hz (Heap.SameBut.refl _ _))
 | false =>
  rw[if_pos (show(Value.bool false != Value.bool true)=true from rfl)]
  exact af (d8 hz (by simp) λcq hz₁ e₁=>ag (hQ cq hz₁ e₁))
theorem Jb{x y:Value}{Q:Value->Shared->Prop}(Z:Zq s.heap z TI TO i1 i2 l1 l2 t f k xs ys)(hx:xs[k]?=some x)(hy:ys[k]?=some y)
  (hQ:∀h',Zq h' z TI TO i1 i2 l1 l2 t true (k+1) xs ys->IsPair h' s.heap.objs.size x y->h'.objs.size=s.heap.objs.size+1->(∀c o,c≠z->c≠i1->c≠i2->s.heap.get? c=some o->h'.get? c=some o)->Q (.ref s.heap.objs.size) {s with heap:=h'}) :
  wpAny (model prog w) A (Builtin.«zip.__next__» ⟨[.ref z],[]⟩) (λi8 s'=>∃v,i8=.done (.ret v)/\Q v s') E s:=by
 obtain⟨hz,hTI,s1,s2,⟨oa,ha⟩,⟨o1,o2,o3,o4,o5⟩,q1,q2⟩:=Z;show wpAny _ _ (field (.ref z) 2 >>= _) _ _ _;refine af (bu hz rfl (x:=.bool false) rfl ?_);show wpAny _ _ (field (.ref z) 3 >>= _) _ _ _;refine af (bu hz rfl (x:=.ref TI) rfl (af (cN hTI rfl ?_)));show wpAny _ _ (Builtin.SmallTypes.ownedTupleIsFree (.ref z) >>= _) _ _ _;refine af (tO hz ha λcq hz₁ e₁=>?_)
 simp only[eR,de];refine af ?_;simp only[rZ,gK,iI];refine af (af (bX ?_));show wpAny _ _ (Builtin.SmallTypes.nextOf (.ref i1) >>= _) _ _ _;have dR:SI cq i1 l1 k xs:=s1.at (λo e=>e₁.extBut _ _ (by first | exact nl (by lia) | exact ng (by lia)) e) (λo e=>e₁.extBut _ _ (by first | exact nl (by lia) | exact ng (by lia)) e)
 refine af (SI.next dR hx λfL iV e₂=>ag ?_)
 refine ag (af (af (bX ?_)));show wpAny _ _ (Builtin.SmallTypes.nextOf (.ref i2) >>= _) _ _ _;have oJ:SI fL i2 l2 k ys:=s2.at (λo e=>e₂.extBut _ _ (by first | exact nl (by lia) | exact ng (by lia)) (e₁.extBut _ _ (by first | exact nl (by lia) | exact ng (by lia)) e)) (λo e=>e₂.extBut _ _ (by first | exact nl (by lia) | exact ng (by lia)) (e₁.extBut _ _ (by first | exact nl (by lia) | exact ng (by lia)) e))
 refine af (SI.next oJ hy λdF iW cG=>ag ?_)
 refine ag (ag ?_);have hsz:dF.objs.size=s.heap.objs.size:=by rw[cG.1,e₂.1,e₁.1]
 have kp:∀c o,c≠z->c≠i1->c≠i2->s.heap.get? c=some o->dF.get? c=some o:=λc o c1 c2 c3 e=>cG.extBut _ _ c3 (e₂.extBut _ _ c2 (e₁.extBut _ _ c1 e))
 have up:∀c o,c≠i1->c≠i2->cq.get? c=some o->dF.get? c=some o:=λc o c2 c3 e=>cG.extBut _ _ c3 (e₂.extBut _ _ c2 e)
 refine af (sH (hsz:=by show 2<=sizeLine;decide) ?_)
 show wpAny _ _ (ret (Value.ref dF.objs.size)) _ _ {s with heap:=dF.push {cls:=.type "tuple",data:=.seq #[x,y]}}
 rw[hsz];refine ag ⟨_,rfl,?_⟩;have Z3:Zq dF z TI TO i1 i2 l1 l2 t true (k+1) xs ys:=⟨up _ _ (by first | exact nl (by lia) | exact ng (by lia)) (by first | exact nl (by lia) | exact ng (by lia)) hz₁,kp _ _ (by first | exact nl (by lia) | exact ng (by lia)) (by first | exact nl (by lia) | exact ng (by lia)) (by first | exact nl (by lia) | exact ng (by lia)) hTI,iV.at (λo e=>cG.extBut _ _ (by first | exact nl (by lia) | exact ng (by lia)) e) (λo e=>cG.extBut _ _ (by first | exact nl (by lia) | exact ng (by lia)) e),iW,⟨oa,kp _ _ (by first | exact nl (by lia) | exact ng (by lia)) (by first | exact nl (by lia) | exact ng (by lia)) (by first | exact nl (by lia) | exact ng (by lia)) ha⟩,⟨o1,o2,o3,o4,o5⟩,q1,q2⟩
 refine hQ _ (Z3.at (λb o _ e=>aj _ e) λo e=>⟨o,aj _ e⟩) ?_ (by rw[cm,hsz]) λc o c1 c2 c3 e=>aj _ (kp c o c1 c2 c3 e)
 rw[<-hsz];exact aY _ rfl
theorem NB{Q:Fin->Shared->Prop}(hh:A.handled=none)(Z:Zq s.heap z TI TO i1 i2 l1 l2 t f k xs ys)(lZ:xs[k]?=none\/ys[k]?=none)
  (hE:∀h' e,(∀c o,c≠z->c≠i1->c≠i2->s.heap.get? c=some o->h'.get? c=some o)->(∃o,h'.get? e=some o/\o.cls=.type "StopIteration")->E (.ref e) {s with heap:=h'}):wpAny (model prog w) A (Builtin.«zip.__next__» ⟨[.ref z],[]⟩) Q E s:=by
 obtain⟨hz,hTI,s1,s2,⟨oa,ha⟩,⟨o1,o2,o3,o4,o5⟩,q1,q2⟩:=Z;show wpAny _ _ (field (.ref z) 2 >>= _) _ _ _;refine af (bu hz rfl (x:=.bool false) rfl ?_);show wpAny _ _ (field (.ref z) 3 >>= _) _ _ _;refine af (bu hz rfl (x:=.ref TI) rfl (af (cN hTI rfl ?_)));show wpAny _ _ (Builtin.SmallTypes.ownedTupleIsFree (.ref z) >>= _) _ _ _;refine af (tO hz ha λcq hz₁ e₁=>?_)
 simp only[eR,de];refine af ?_;simp only[rZ,gK,iI];refine af (af (bX ?_));show wpAny _ _ (Builtin.SmallTypes.nextOf (.ref i1) >>= _) _ _ _;have dR:SI cq i1 l1 k xs:=s1.at (λo e=>e₁.extBut _ _ (by first | exact nl (by lia) | exact ng (by lia)) e) (λo e=>e₁.extBut _ _ (by first | exact nl (by lia) | exact ng (by lia)) e)
 cases hx:xs[k]? with
 | none =>
  refine af (SI.stop hh dR hx λfL e hs₂ he=>?_)
  exact hE fL e (λc o c1 c3 _ x=>hs₂ _ _ c3 (e₁.extBut _ _ c1 x)) he
 | some x =>
  have hy:ys[k]?=none:=by
   rcases lZ with h | h
   ·rw[hx]at h;cases h
   ·exact h
  refine af (SI.next dR hx λfL iV e₂=>ag ?_)
  refine ag (af (af (bX ?_)));show wpAny _ _ (Builtin.SmallTypes.nextOf (.ref i2) >>= _) _ _ _;have oJ:SI fL i2 l2 k ys:=s2.at (λo e=>e₂.extBut _ _ (by first | exact nl (by lia) | exact ng (by lia)) (e₁.extBut _ _ (by first | exact nl (by lia) | exact ng (by lia)) e)) (λo e=>e₂.extBut _ _ (by first | exact nl (by lia) | exact ng (by lia)) (e₁.extBut _ _ (by first | exact nl (by lia) | exact ng (by lia)) e))
  refine af (SI.stop hh oJ hy λdF e hs₃ he=>?_)
  exact hE dF e (λc o c1 c2 c3 x=>hs₃ _ _ c3 (e₂.extBut _ _ c2 (e₁.extBut _ _ c1 x))) he
end
def ZS(h:Heap)(z TI TO i1 i2 l1 l2 B i:Nat)(xs ys:Array Value):Prop:=(i=0/\Zp h z TI TO i1 i2 l1 l2 .none 0 xs ys)\/(0<i/\∃f,Zq h z TI TO i1 i2 l1 l2 B f i xs ys)
def jT(B i:Nat):Array Value:=((List.range i).map λj=>Value.ref (B+j)).toArray
theorem BI(B i:Nat):(jT B i).push (.ref (B+i))=jT B (i+1):=by
 unfold jT;rw[xA,dN];simp
theorem qT(B i:Nat):(jT B i).size=i:=by unfold jT;simp
section
variable {prog:Program} {w:World} {A:Around} {E:Value->Shared->Prop} {s:Shared} {z TI TO i1 i2 l1 l2 B:Nat} {i:Nat} {xs ys:Array Value}
theorem ZS.zip{h:Heap}(Z:ZS h z TI TO i1 i2 l1 l2 B i xs ys):∃o,h.get? z=some o/\o.cls=.type "zip":=by
 rcases Z with⟨_,Z⟩ | ⟨_,f,Z⟩
 ·exact⟨_,Z.hz,rfl⟩
 ·exact⟨_,Z.hz,rfl⟩
theorem ZS.at{h h':Heap}(Z:ZS h z TI TO i1 i2 l1 l2 B i xs ys)(kp:∀b o,b<=z->h.get? b=some o->h'.get? b=some o)(ka:∀o,h.get? B=some o->∃o',h'.get? B=some o'):ZS h' z TI TO i1 i2 l1 l2 B i xs ys:=by
 rcases Z with⟨e,⟨hz,hTI,⟨a,b,hTO⟩,s1,s2,⟨o1,o2,o3,o4⟩,q1,q2⟩⟩ | ⟨e,f,Z⟩
 ·exact .inl ⟨e,⟨kp _ _ (ar _) hz,kp _ _ (by lia) hTI,⟨a,b,kp _ _ (by lia) hTO⟩,s1.at (λo e=>kp _ o (by lia) e) (λo e=>kp _ o (by lia) e),s2.at (λo e=>kp _ o (by lia) e) (λo e=>kp _ o (by lia) e),⟨o1,o2,o3,o4⟩,q1,q2⟩⟩
 ·exact .inr ⟨e,f,Z.at kp ka⟩
theorem Jc{x y:Value}{Q:Option Value->Shared->Prop}(Z:ZS s.heap z TI TO i1 i2 l1 l2 B i xs ys)(hsz:s.heap.objs.size=B+i)(hx:xs[i]?=some x)(hy:ys[i]?=some y)
  (hQ:∀h',ZS h' z TI TO i1 i2 l1 l2 B (i+1) xs ys->IsPair h' (B+i) x y->h'.objs.size=B+(i+1)->(∀c o,c≠z->c≠TO->c≠i1->c≠i2->s.heap.get? c=some o->h'.get? c=some o)->Q (some (.ref (B+i))) {s with heap:=h'}) :
  wpAny (model prog w) A (pyNext (.ref z)) Q E s:=by
 obtain⟨oz,TV,VP⟩:=Z.zip;have hT:s.TypeIs (.ref z) "zip":=⟨_,TV,VP⟩;have VQ:z<s.heap.objs.size:=ay TV;unfold pyNext;rcases Z with⟨rfl,Z⟩ | ⟨hi,f,Z⟩
 ·refine af (gN (dJ (name:=Str.ofString "__next__") hT cM (dt cM hT iE
   (Ai Z hx hy λh' Z' GG O6 kp=>ag ?_) (iD _))))
  obtain⟨hz,hTI,_,s1,s2,⟨o1,o2,o3,o4⟩,q1,q2⟩:=Z';rw[hsz]at GG hz VQ ⊢;refine(hQ h' (.inr ⟨Nat.succ_pos _,false,⟨hz,hTI,s1,s2,⟨_,GG⟩,⟨o1,o2,o3,o4,by lia⟩,q1,q2⟩⟩) GG (by lia) kp)
 ·refine af (gN (dJ (name:=Str.ofString "__next__") hT cM (dt cM hT iE
   (Jb Z hx hy λh' Z' GG O6 kp=>ag ?_) (iD _))))
  rw[hsz]at GG ⊢;exact(hQ h' (.inr ⟨Nat.succ_pos _,true,Z'⟩) GG (by lia) λc o c1 _ c3 c4 e=>kp c o c1 c3 c4 e)
theorem Jd{Q:Option Value->Shared->Prop}(hh:A.handled=none)(Z:ZS s.heap z TI TO i1 i2 l1 l2 B i xs ys)(lZ:xs[i]?=none\/ys[i]?=none)
  (hQ:∀h',(∀c o,c≠z->c≠TO->c≠i1->c≠i2->s.heap.get? c=some o->h'.get? c=some o)->Q none {s with heap:=h'}) :
  wpAny (model prog w) A (pyNext (.ref z)) Q E s:=by
 obtain⟨oz,TV,VP⟩:=Z.zip;have hT:s.TypeIs (.ref z) "zip":=⟨_,TV,VP⟩;unfold pyNext;rcases Z with⟨rfl,Z⟩ | ⟨hi,f,Z⟩
 ·refine af (gN (dJ (name:=Str.ofString "__next__") hT cM (dt cM hT iE (EZ hh Z lZ λh' e kp ⟨o,ho,hcl⟩=>?_) (iD _))))
  exact af (nA (T:="StopIteration") (b:=true) ⟨o,ho,hcl⟩ nF (ag (hQ h' kp)))
 ·refine af (gN (dJ (name:=Str.ofString "__next__") hT cM (dt cM hT iE (NB hh Z lZ λh' e kp ⟨o,ho,hcl⟩=>?_) (iD _))))
  exact af (nA (T:="StopIteration") (b:=true) ⟨o,ho,hcl⟩ nF (ag (hQ h' λc o c1 _ c3 c4 e=>kp c o c1 c3 c4 e)))
end
section
variable {prog:Program} {w:World} {A:Around} {R:Result->Shared->Prop} {z TI TO i1 i2 l1 l2 S B n:Nat} {xs ys:Array Value}
def kR(h:Heap)(B i:Nat)(xs ys:Array Value):Prop:=∀j,j<i->∃x y,xs[j]?=some x/\ys[j]?=some y/\IsPair h (B+j) x y
theorem Je(hh:A.handled=none)(hn:n=min xs.size ys.size)(XD:z<S)(XE:S<B)(ord:i1<z/\i2<z/\TO<z)(res:Value)(Pb:n<=sizeLine) :
  ∀(k i:Nat) (s:Shared) (c:Nat),n-i=k->i<=n->ZS s.heap z TI TO i1 i2 l1 l2 B i xs ys->s.heap.objs.size=B+i->kR s.heap B i xs ys->s.heap.get? S=some {cls:=.type "list",dict:=none,data:=.seq (jT B i) c,slots:=#[]} ->
  (∀h' c',(∀b o,b≠z->b≠TO->b≠i1->b≠i2->b≠S->s.heap.get? b=some o->h'.get? b=some o)->h'.get? S=some {cls:=.type "list",dict:=none,data:=.seq (jT B n) c',slots:=#[]}->kR h' B n xs ys->R (.ok (.ret res)) {s with heap:=h'}) ->
  codeAny (model prog w) A (.builtin "list.extend.loop" ⟨[.ref S,.ref z,res],[]⟩) R s:=by
 intro k;induction k with
 | zero =>
  intro i s c hk hi j9 hsz hp hS hR;have RC:i=n:=by lia
  subst RC;refine iF F.entry_extend_loop ?_;rw[jx rX _];show wpAny _ A.in1 (pyNext (.ref z) >>= _) _ _ s;refine af (Jd (by simp[hh]) j9 ?_ λh' kp=>?_)
  ·rcases Nat.le_total xs.size ys.size with q | q
   ·exact .inl (gJ (by lia))
   ·exact .inr (gJ (by lia))
  ·refine ag (hR h' c (λb o c1 c2 c3 c4 _ e=>kp b o c1 c2 c3 c4 e) (kp S _ (by lia) (by lia) (by lia) (by lia) hS) λj hj=>?_)
   obtain⟨x,y,e1,e2,e3⟩:=hp j hj;exact⟨x,y,e1,e2,kp _ _ (by lia) (by lia) (by lia) (by lia) e3⟩
 | succ k ih =>
  intro i s c hk hi j9 hsz hp hS hR;have vn:i<n:=by lia
  have hx:xs[i]?=some (xs[i]'(by lia)):=m6 _
  have hy:ys[i]?=some (ys[i]'(by lia)):=m6 _
  refine iF F.entry_extend_loop ?_;rw[jx rX _];show wpAny _ A.in1 (pyNext (.ref z) >>= _) _ _ s;refine af (Jc j9 hsz hx hy λh' EN Zy VR kp=>?_)
  have wG:=kp S _ (by lia) (by lia) (by lia) (by lia) hS
  show wpAny _ A.in1 (updateSeq S (·.push (.ref (B+i))) >>= _) _ _ _;refine af ?_;have VS:=iz (Obj.mapSeq (·.push (Value.ref (B+i)))) wG rfl;obtain⟨c1,VS⟩:∃c1,(h'.update S (Obj.mapSeq (·.push (Value.ref (B+i))))).get? S=some {cls:=.type "list",dict:=none,data:=.seq (jT B (i+1)) c1,slots:=#[]}:=⟨_,by rw[<-BI];exact VS⟩
  have oth:∀b o,b≠S->h'.get? b=some o->(h'.update S (Obj.mapSeq (·.push (Value.ref (B+i))))).get? b=some o:=λb o hb e=>(ix _ _ (bA hb)).trans e
  refine nB (s:={s with heap:=h'}) wG rfl (ag ⟨jE rX _,ih (i+1) _ c1 (by lia) vn (EN.at (λb o hb e=>oth b o (by lia) e) λo e=>⟨o,oth _ o (by lia) e⟩) ?_ (λj hj=>?_) ?_ λh2 c2 MR VT CB=>?_⟩)
   (by rw[qT];lia) (by show((jT B i).push _).size<=sizeLine+1;rw[Array.size_push,qT];lia)
  ·show(h'.update S _).objs.size=_;rw[sh];exact VR
  ·by_cases Zz:j=i
   ·subst Zz;exact⟨_,_,hx,hy,oth _ _ (by lia) Zy⟩
   ·obtain⟨x,y,e1,e2,e3⟩:=hp j (by lia)
    exact⟨x,y,e1,e2,oth _ _ (by lia) (kp _ _ (by lia) (by lia) (by lia) (by lia) e3)⟩
  ·exact VS
  ·exact hR h2 c2 (λb o c1 c2 c3 c4 c5 e=>MR b o c1 c2 c3 c4 c5 (oth b o c5 (kp b o c1 c2 c3 c4 e))) VT CB
end
theorem yz:typeLookup (.type "zip") "__len__"=pure none:=by rw[sy,rR];kernel_rfl
theorem vJ:typeLookup (.type "zip") "__length_hint__"=pure none:=by rw[sy,rR];kernel_rfl
section
variable {prog:Program} {w:World} {A:Around} {E:Value->Shared->Prop} {s:Shared} {R:Result->Shared->Prop} {z TI TO i1 i2 l1 l2 S B n:Nat} {xs ys:Array Value}
theorem BJ{c:Nat}(hh:A.handled=none)(hn:n=min xs.size ys.size)(XD:z<S)(hB:s.heap.objs.size=B)(XE:S<B)(ord:i1<z/\i2<z/\TO<z)(res:Value)(Pb:n<=sizeLine)
  (Z:Zp s.heap z TI TO i1 i2 l1 l2 .none 0 xs ys) (hS:s.heap.get? S=some {cls:=.type "list",data:=.seq #[] c})
  (hR:∀h' c',(∀b o,b≠z->b≠TO->b≠i1->b≠i2->b≠S->s.heap.get? b=some o->h'.get? b=some o)->h'.get? S=some {cls:=.type "list",dict:=none,data:=.seq (jT B n) c',slots:=#[]}->kR h' B n xs ys->R (.ok (.ret res)) {s with heap:=h'}) :
  wpAny (model prog w) A.in1 (Builtin.List.listExtendWith (.ref S) (.ref z) res)
   (λi8 s'=>match i8 with | .done f=>R (.ok f) s' | .again c'=>c'.quiet=true/\codeAny (model prog w) A c' R s') (λe s'=>R (.error e) s') s:=by
 have hT:s.TypeIs (.ref z) "zip":=⟨_,Z.hz,rfl⟩;unfold Builtin.List.listExtendWith;refine af (jG hT ?_);have h1:Builtin.List.listSameRef (.ref S) (.ref z)=false:=by
  have:(S==z)=false:=by simp;lia
  exact this
 have h2:(Value.type "zip"==Value.type "list")=false:=by decide
 have h3:(Value.type "zip"==Value.type "tuple")=false:=by decide
 simp only[h1,h2,h3,Bool.or_false,eR,de];refine af (xt Z.hz ?_);refine af (bX ?_);unfold Builtin.List.listLengthHint;refine af (wpAny_specialOf hT yz ?_);show wpAny _ A.in1 (specialOf (Value.ref z) (Str.ofString "__length_hint__") >>= _) _ _ _;refine af (wpAny_specialOf hT vJ ?_);refine ag ?_;show wpAny _ A.in1 (rule "list.extend.makes-room" >>= λ_=>Builtin.List.listTouch (.ref S) >>= λ_ =>
  again (.builtin "list.extend.loop" ⟨[.ref S,.ref z,res],[]⟩)) _ _ _
 refine af (gm ?_);refine af ?_;show wpAny _ A.in1 (updateSeq S (·.push .none) >>= λ_=>updateSeq S (·.pop)) _ _ _
 refine af (nB hS rfl ?_);have Aj:=iz (Obj.mapSeq (·.push Value.none)) hS rfl;refine nB (hz:=by seq_fits) Aj rfl ?_
 have RP:=iz (Obj.mapSeq (·.pop)) Aj rfl;have oth:∀b o,b≠S->s.heap.get? b=some o->((s.heap.update S (Obj.mapSeq (·.push Value.none))).update S (Obj.mapSeq (·.pop))).get? b=some o :=
  λb o hb e=>(ix _ _ (bA hb)).trans ((ix _ _ (bA hb)).trans e)
 have Z0:ZS s.heap z TI TO i1 i2 l1 l2 B 0 xs ys:=.inl ⟨rfl,Z⟩;refine ag ⟨jE rX _,Je hh hn XD XE ord res Pb n 0 _ _ rfl (gk _) (Z0.at (λb o hb e=>oth b o (by lia) e) λo e=>?_) ?_ (λj hj=>absurd hj (Nat.not_lt_zero _)) RP λh' c' kp wG hp=>?_⟩
 ·have q:=ay e;rw[hB]at q;exact absurd q (dv _)
 ·show((s.heap.update S _).update S _).objs.size=_;rw[sh,sh];exact hB
 ·exact hR h' c' (λb o c1 c2 c3 c4 c5 e=>kp b o c1 c2 c3 c4 c5 (oth b o c5 e)) wG hp
theorem p8{Q:Value->Shared->Prop}(hh:A.handled=none)(hn:n=min xs.size ys.size)(Pb:n<=sizeLine)(ord:i1<z/\i2<z/\TO<z)(Z:Zp s.heap z TI TO i1 i2 l1 l2 .none 0 xs ys)
  (hQ:∀h' c',(∀b o,b≠z->b≠TO->b≠i1->b≠i2->s.heap.get? b=some o->h'.get? b=some o)->h'.get? s.heap.objs.size=some {cls:=.type "list",dict:=none,data:=.seq (jT (s.heap.objs.size+1) n) c',slots:=#[]}->kR h' (s.heap.objs.size+1) n xs ys->Q (.ref s.heap.objs.size) {s with heap:=h'}) :
  wpAny (model prog w) A (call (.type "list") [.ref z]) Q E s:=by
 refine callType_codes (Q₁:=λobj s₁=>obj=.ref s.heap.objs.size/\s₁={s with heap:=s.heap.push {cls:=.type "list",data:=.seq #[]}}) F.called_list (F.typeCall_list_1 _) F.entry_list_init
  (code_list_new _ ⟨rfl,rfl⟩) λobj s₁ cq=>?_
 obtain⟨rfl,rfl⟩:=cq;have VQ:z<s.heap.objs.size:=ay Z.hz;have hS:(s.heap.push {cls:=.type "list",data:=.seq #[]}).get? s.heap.objs.size=some {cls:=.type "list",data:=.seq #[]}:=aY _ rfl
 refine⟨⟨_,hS,rfl⟩,F.args_list_init_2 _ _,?_⟩;show wpAny _ _ (do let old <-Builtin.List.listItems (.ref s.heap.objs.size);Builtin.List.listUpdate (.ref s.heap.objs.size) (λ_=>#[]);letGo old.toList.reverse;Builtin.List.listExtendWith (.ref s.heap.objs.size) (.ref z) .none) _ _ _
 refine af ?_;unfold Builtin.List.listItems;refine af (cN hS rfl (ag ?_));show wpAny _ _ (updateSeq s.heap.objs.size (λ_=>#[]) >>= λ_=>letGo (#[]:Array Value).toList.reverse >>= λ_=>Builtin.List.listExtendWith (.ref s.heap.objs.size) (.ref z) .none) _ _ _
 refine af (nB hS rfl ?_);have Aj:=iz (Obj.mapSeq (λ_=>(#[]:Array Value))) hS rfl
 have oth:∀b o,b≠s.heap.objs.size->s.heap.get? b=some o->((s.heap.push {cls:=.type "list",data:=.seq #[]}).update s.heap.objs.size (Obj.mapSeq (λ_=>(#[]:Array Value)))).get? b=some o :=
  λb o hb e=>(ix _ _ (bA hb)).trans (aj _ e)
 refine af (gP ?_);have Z1:ZS ((s.heap.push {cls:=.type "list",data:=.seq #[]}).update s.heap.objs.size (Obj.mapSeq (λ_=>(#[]:Array Value)))) z TI TO i1 i2 l1 l2 0 0 xs ys :=
  ZS.at (h:=s.heap) (.inl ⟨rfl,Z⟩) (λb o hb e=>oth b o (by lia) e) λo e=>⟨o,oth _ o (by lia) e⟩
 rcases Z1 with⟨_,Z1⟩ | ⟨h0,_⟩
 ·refine BJ (A:=A.in1) (by simp[hh]) hn VQ (B:=s.heap.objs.size+1) ?_ (lC _) ord .none Pb Z1 Aj λh' c' kp wG hp=>⟨rfl,?_⟩
  ·show((s.heap.push _).update _ _).objs.size=_;rw[sh,cm]
  ·exact hQ h' c' (λb o c1 c2 c3 c4 e=>kp b o c1 c2 c3 c4 (aJ (ay e)) (oth b o (aJ (ay e)) e)) wG hp
 ·exact absurd h0 (dv _)
end
theorem qU{vs:List V}{us:List Value}(r:Vals vs us):∀{i:Nat} {u:Value},us[i]?=some u->∃v,vs[i]?=some v/\RelV v u:=by
 induction r with
 | nil=>intro i u e;simp at e
 | @cons v w vs ws h t ih =>
  intro i u e;cases i with
  | zero=>simp at e;subst e;exact⟨v,rfl,h⟩
  | succ i=>obtain⟨x,h1,h2⟩:=ih (i:=i) (u:=u) (by simpa using e);exact⟨x,by simpa using h1,h2⟩
theorem BK(B n:Nat):Vals ((List.range n).map λj=>V.ref (B+j)) (jT B n).toList:=by
 unfold jT;induction n with
 | zero=>exact .nil
 | succ n ih =>
  rw[xA,dN,dN];exact ih.append (.cons rfl .nil)
theorem vK{X:Cx}{ae:List (Addr×Obj)}{σ:St}{H1 aa:Hp}{ab F1:Fz}{st:bT}{s:Shared}{B m:Nat}{xs ys:List Value}{vs ws:List V}{ps qs:List PV}(b0:Nat)(Xd:b0<=B)(fo:∀b,b0<=b->H1 b=none/\nR X ae H1 b)(hsz:X.s₀.heap.objs.size<=b0)(I:Inv X ae σ H1 s)(R:Rep X.K aa ab F1 st σ H1)(r1:Vals vs xs)(r2:Vals ws ys)(b1:ao X.K F1 ps vs)(b2:ao X.K F1 qs ws)
  (hp:kR s.heap B m xs.toArray ys.toArray):∀i,i<=m->∃Hi Fi,Inv X ae σ Hi s/\Rep X.K aa ab Fi st σ Hi/\Gr F1 Fi/\ao X.K Fi ((List.zipWith dZ ps qs).take i) ((List.range i).map λj=>V.ref (B+j))/\∀b,b0<=b->(b<B\/B+i<=b)->Hi b=none:=by
 intro i;induction i with
 | zero=>intro _;exact⟨H1,F1,I,R,Gr.refl _,by simp only[List.take_zero,List.range_zero,eW];exact .nil,λb hb _=>(fo b hb).1⟩
 | succ i ih =>
  intro hi;obtain⟨Hi,Fi,Ii,Ri,si,bi,ni⟩:=ih (by lia)
  obtain⟨x,y,e1,e2,e3⟩:=hp i hi;obtain⟨v,ev,rv⟩:∃v,vs[i]?=some v/\RelV v x:=by
   exact qU r1 (by simpa using e1)
  obtain⟨w,ew,HC⟩:∃w,ws[i]?=some w/\RelV w y:=by
   exact qU r2 (by simpa using e2)
  obtain⟨p,ep⟩:∃p,ps[i]?=some p:=⟨_,b9 (by have:=(dI.mp ev).1;rw[b1.length];exact this)⟩
  obtain⟨v',ZA,bp⟩:=b1.get ep;cases bt (ev.symm.trans ZA);obtain⟨q,XF⟩:∃q,qs[i]?=some q:=⟨_,b9 (by have:=(dI.mp ew).1;rw[b2.length];exact this)⟩
  obtain⟨w',ZC,bq⟩:=b2.get XF;cases bt (ew.symm.trans ZC);have hn:Hi (B+i)=none:=ni (B+i) (by lia) (.inr (ar _))
  obtain⟨_,f2,f3,f4,f5,f6⟩:=(fo (B+i) (by lia)).2
  have I2:=Inv.adopt (D:=B+i) (o:=.aq [v,w]) Ii hn (aD hsz (by lia)) f2 f5 f6 ⟨(by show 2<=sizeLine;decide),[x,y],.cons rv (.cons HC .nil),⟨_,e3,rfl,⟨0,rfl⟩,rfl⟩⟩
  obtain⟨R2,s2⟩:=Ri.laid (.aq [v,w]) hn;refine⟨_,_,I2,R2,si.trans s2,?_,λb hb hc=>?_⟩
  ·have hz:(List.zipWith dZ ps qs)[i]?=some (dZ p q):=by rw[List.getElem?_zipWith,ep,XF]
   rw[List.take_succ,hz,xA,dN];exact(bi.mono s2).append (.cons (bg.mpr ⟨B+i,[v,w],rfl,fA.of au,.cons (bp.mono (si.trans s2)) (.cons (bq.mono (si.trans s2)) .nil)⟩) .nil)
  ·rw[aI (show b≠B+i from λz=>by lia)]
   exact ni b hb (by lia)
def TX(p q:PV):Option (List PV):=(mH p).bind λps=>(mH q).bind λqs=>if(List.zipWith dZ ps qs).length<=iN then some (List.zipWith dZ ps qs)else none
def NC(m:Nat)(fa fb:Gx PV):Gx PV:=bnd fa λp=>bnd fb λq=>bnd (fy (TX p q)) λl=>kP m l
section
variable {X:Cx} {aa:Hp} {ab:Fz} {a b:Expr} {fa fb:Gx PV} {pos p ou zp:Pos} {m:Nat}
def ND(hh:X.A.handled=none)(Nn:Gl X "list")(Np:X.mg "list"=none)(hg:Gl X "zip")(hm:X.mg "zip"=none)(ha:PE X a (tE X aa ab fa))(hb:PE X b (tE X aa ab fb))(hs:starEach [a,b] X.env=(false,eval a X.env)::starEach [b] X.env)(wF:starEach [b] X.env=[(false,eval b X.env)]) :
  PE X (.Call (.Name "list" p) [.Call (.Name "zip" zp) [a,b] [] ou] [] pos) (tE X aa ab (NC m fa fb)):=by
 rintro ae s σ H Q I ⟨F,st,Rp,h⟩
 refine iA (ld_blt I Nn Np (gW .list) ?_ (by decide) (by decide))
 refine d0 (ox rfl ?_) rfl rfl;have hA:=fX ha (fX hb nW wF) hs ou ae s σ H (λvs H'=>∃F' bK x y pa pb,vs=[x,y]/\Rep X.K aa ab F' bK σ H'/\bc X.K F' pa x/\bc X.K F' pb y/\Tx X aa ab (bc X.K) F' bK (bnd (fy (TX pa pb)) λl=>kP m l) σ Q) I
  ⟨F,st,Rp,h.bnd λpa v F1 aL H1 R1 g1 b1 h1=>⟨F1,aL,R1,h1.bnd λpb w F2 dk H2 R2 g2 b2 h2=>⟨F2,dk,v,w,pa,pb,rfl,R2,b1.mono g2,b2,h2⟩⟩⟩
 refine Call_ (ld_blt I hg hm boot_zip (d0 (thn hA λus s1 z9=>?_) hs (by rw[wF];rfl)))
 obtain⟨vs,H1,I1,r1,F1,aL,x,y,pa,pb,ev,R1,b1,b2,hT⟩:=z9;subst ev;obtain⟨l,e,hT⟩:=At.fy (At.bnd hT);obtain⟨ps,f3,e⟩:=aE e;obtain⟨qs,f4,e⟩:=aE e;obtain⟨yc,rfl⟩:=ax e;obtain⟨u1,u2,rfl,MS,RK⟩:=zw r1;obtain⟨c1,l1,Xs,rfl,q1,MT,k1⟩:=iS f3 b1;obtain⟨c2,l2,ZD,rfl,q2,RQ,k2⟩:=iS f4 b2;cases MS;cases RK;obtain⟨ai,v1,IC⟩:=(k1 H1 R1.sub).get I1;obtain⟨bY,v2,Pc⟩:=(k2 H1 R1.sub).get I1;have lt:∀{l:Addr} {xs:Array Value} {c:String},gC s1.heap l xs c->l<s1.heap.objs.size:=λh=>by
  rcases h with⟨_,⟨o,e,_⟩⟩ | ⟨_,⟨o,e,_⟩⟩
  ·exact ay e
  ·exact ay e
 have O7:=lt IC;have Ir:=lt Pc;refine callType_new PySem.F.called_zip (by decide) (PySem.F.typeCall_zip_2 _ _) (PySem.F.newCall_zip_2 _ _) (λobj=>CM obj _ _) PySem.F.entry_zip_new (vI l1 l2 ai.toArray bY.toArray (jl c1) (jl c2)) ⟨IC,Pc,λh1 h2 h3 h4 e1 e2 e3 e4=>?_⟩
 have z1:h1.objs.size=s1.heap.objs.size+1:=by rw[e1];exact cm ..
 have z2:h2.objs.size=s1.heap.objs.size+2:=by rw[e2,cm,z1]
 have z3:h3.objs.size=s1.heap.objs.size+3:=by rw[e3,cm,z2]
 have z4:h4.objs.size=s1.heap.objs.size+4:=by rw[e4,cm,z3]
 generalize e5:h4.push {cls:=.type "zip",data:=.fields #[.none,.bool false,.bool false,.ref h2.objs.size,.ref h3.objs.size]}=h5
 have z5:h5.objs.size=s1.heap.objs.size+5:=by rw[<-e5,cm,z4]
 have p1:∀b o,s1.heap.get? b=some o->h1.get? b=some o:=λb o e=>by rw[e1];exact aj _ e
 have p2:∀b o,h1.get? b=some o->h2.get? b=some o:=λb o e=>by rw[e2];exact aj _ e
 have p3:∀b o,h2.get? b=some o->h3.get? b=some o:=λb o e=>by rw[e3];exact aj _ e
 have p4:∀b o,h3.get? b=some o->h4.get? b=some o:=λb o e=>by rw[e4];exact aj _ e
 have p5:∀b o,h4.get? b=some o->h5.get? b=some o:=λb o e=>by rw[<-e5];exact aj _ e
 have pp:∀b o,s1.heap.get? b=some o->h5.get? b=some o:=λb o e=>p5 _ _ (p4 _ _ (p3 _ _ (p2 _ _ (p1 _ _ e))))
 have g5:IsZip h5 h4.objs.size h2.objs.size h3.objs.size .none:=by rw[<-e5];exact aY _ rfl
 have g4:IsPair h5 h3.objs.size .none .none:=p5 _ _ (by rw[e4];exact aY _ rfl)
 have g3:IsPair h5 h2.objs.size (.ref s1.heap.objs.size) (.ref h1.objs.size):=p5 _ _ (p4 _ _ (by rw[e3];exact aY _ rfl))
 have g2:h5.get? h1.objs.size=some {cls:=.type (jl c2),data:=.fields #[.ref l2,.int 0 0]}:=p5 _ _ (p4 _ _ (p3 _ _ (by rw[e2];exact aY _ rfl)))
 have g1:h5.get? s1.heap.objs.size=some {cls:=.type (jl c1),data:=.fields #[.ref l1,.int 0 0]}:=p5 _ _ (p4 _ _ (p3 _ _ (p2 _ _ (by rw[e1];exact aY _ rfl))))
 have XG:∀{c:Bool} {it l:Addr} {xs:Array Value},h5.get? it=some {cls:=.type (jl c),data:=.fields #[.ref l,.int 0 0]}->gC s1.heap l xs (jl c)->SI h5 it l 0 xs:=λ{c it l xs} e k=>by
  cases c with
  | true =>
   rcases k with⟨_,⟨o,eo,r⟩⟩ | ⟨k,_⟩
   ·exact .inl ⟨⟨_,e,rfl,rfl⟩,⟨o,pp _ _ eo,r⟩⟩
   ·exact absurd k (by decide)
  | false =>
   rcases k with⟨k,_⟩ | ⟨_,⟨o,eo,r⟩⟩
   ·exact absurd k (by decide)
   ·exact .inr ⟨⟨_,e,rfl,rfl⟩,⟨o,pp _ _ eo,r⟩⟩
 have Z:Zp h5 h4.objs.size h2.objs.size h3.objs.size s1.heap.objs.size h1.objs.size l1 l2 .none 0 ai.toArray bY.toArray:=⟨g5,g3,⟨_,_,g4⟩,XG g1 IC,XG g2 Pc,⟨by lia,by lia,by lia,by lia⟩,O7,Ir⟩
 refine⟨⟨_,g5,rfl⟩,?_⟩;have ZE:=MT.length;have ZF:=RQ.length;have vl1:=v1.length;have vl2:=v2.length;have VU:min ai.toArray.size bY.toArray.size=(List.zipWith dZ ps qs).length:=by rw[List.length_zipWith,bO,bO];lia
 refine p8 (s:={s1 with heap:=h5,toks:=s1.toks}) hh VU.symm (cQ yc) ⟨by lia,by lia,by lia⟩ Z λh' c' kp hS hp=>?_
 have hS:h'.get? h5.objs.size=some {cls:=.type "list",dict:=none,data:=.seq (jT (h5.objs.size+1) (List.zipWith dZ ps qs).length) c',slots:=#[]}:=hS
 have I2:Inv X ae σ H1 {s1 with heap:=h',toks:=s1.toks}:=I1.kept λb o e=>by
  have hb:@LT.lt Nat _ b s1.heap.objs.size:=ay e;exact kp b o (show @Ne Nat _ _ by lia) (show @Ne Nat _ _ by lia) (show @Ne Nat _ _ by lia) (show @Ne Nat _ _ by lia) (pp _ _ e)
 have fo:∀b,s1.heap.objs.size<=b->H1 b=none/\nR X ae H1 b:=λb hb=>⟨I1.hok.fresh hb,I1.nS hb (I1.hok.fresh hb)⟩
 obtain⟨Hn,Fn,In,Rn,sn,bn,nn⟩:=vK s1.heap.objs.size (B:=h5.objs.size+1) (by lia) fo I1.sz I2 R1 v1 v2 MT RQ hp _ (ar _)
 rw[se]at bn;have XH:Hn h5.objs.size=none:=nn _ (by lia) (.inl (by lia))
 obtain⟨_,f2,f3,f4',f5,f6⟩:=(fo h5.objs.size (by lia)).2
 have I3:=Inv.adopt (D:=h5.objs.size) (o:=.lst ((List.range (List.zipWith dZ ps qs).length).map λj=>V.ref (h5.objs.size+1+j))) In XH (aD I1.sz (by lia)) f2 f5 f6
  ⟨by simp only[ak,ny];exact cQ yc,(jT (h5.objs.size+1) (List.zipWith dZ ps qs).length).toList,c',BK _ _,by simpa using hS⟩
 exact⟨.ref h5.objs.size,_,I3,rfl,Tx.kP (Tx.mono hT sn λ_ _ z=>z) Rn XH bn⟩
end
section
variable {X:Cx}
theorem tP{α:Type}(xs:List α):∀n:Nat,(List.replicate n xs).flatten.length=n*xs.length
 | 0=>by simp
 | n+1=>by rw[jz,ly,dM,tP xs n,Nat.succ_mul,Nat.add_comm]
theorem tQ(ai:List Value):∀(m:Nat) (acc:List Value),List.foldl (λx1 x2=>x1++x2) acc.toArray (List.replicate m ai.toArray)=(acc++(List.replicate m ai).flatten).toArray
 | 0,acc=>by simp
 | m+1,acc=>by
  rw[jz,nE,show acc.toArray++ai.toArray=(acc++ai).toArray by simp,tQ ai m,jz,ly,xg]
theorem oK{xs:List V}{ai:List Value}(r:Vals xs ai):∀n:Nat,Vals (List.replicate n xs).flatten (List.replicate n ai).flatten
 | 0=>.nil
 | n+1=>by rw[jz,jz,ly,ly];exact r.append (oK r n)
theorem tU{K:W.Frag}{F:Fz}{ps:List PV}{vs:List V}(r:ao K F ps vs):∀n:Nat,ao K F (List.replicate n ps).flatten (List.replicate n vs).flatten
 | 0=>.nil
 | n+1=>by rw[jz,jz,ly,ly];exact r.append (tU r n)
def RR(K:W.Frag):R2:=λx y H Q=>∃l k xs,x=.ref l/\y=.int k/\gq K H l xs /\ -(2^63)<=k/\k<2^63/\xs.length*k.toNat<=sizeLine /\
 ∀p,H p=none->Q (.ref p) (bZ H p (.lst (List.replicate k.toNat xs).flatten))
theorem Jf:OpR X (binaryOp .Mult) (RR X.K):=by
 intro ae s σ H x y v u Q I rx ry h;obtain⟨l,k,xs,rfl,rfl,hH,h1,h2,hz,q⟩:=h;cases rx;obtain⟨t,rfl⟩:=ry;obtain⟨ai,n,r,e,z⟩:=I.kA hH;have hl:=r.length;have cX:ai.toArray.size*k.toNat<=sizeLine:=by rw[bO,<-hl];exact hz
 have VV:¬ai.toArray.size*k.toNat>(2^63-1)/8:=by
  have:(sizeLine:Nat)<=(2^63-1)/8:=by decide
  lia
 have QN:¬(!Builtin.List.listFitsIndex k)=true:=by
  rw[fitsIndex_both h1 h2];exact cE
 have RS:¬Builtin.List.listTooLong (ai.toArray.size*k.toNat)=true:=by
  rw[uU cX];exact cE
 have oB:List.foldl (λx1 x2=>x1++x2) #[] (List.replicate (if ai.toArray.isEmpty=true then 0 else k.toNat) ai.toArray)=(List.replicate k.toNat ai).flatten.toArray:=by
  have f0:∀m:Nat,List.foldl (λx1 x2=>x1++x2) #[] (List.replicate m ai.toArray)=(List.replicate m ai).flatten.toArray:=λm=>by
   have:=tQ ai m [];rw[sk]at this;exact this
  rw[f0];cases ai with
  | nil=>simp
  | cons a r'=>rw[if_neg (by simp)]
 refine wpAny_binaryOp_repeat_ref (T:="list") (U:="int") (by decide) ⟨_,e,rfl⟩ (λs'=>nI s' k t) noFill_list_mul F.fills_int_mul F.slot_int_rmul repeat_list F.slot_int_index.lookup
  (dw F.slot_int_rmul (nI s k t) F.entry_int_rmul (F.args_int_rmul_2 _ _) (int___rmul___int_list k t l ai.toArray n)
   ⟨e,rfl,⟨_,e,rfl⟩,dw F.slot_list_mul ⟨_,e,rfl⟩ F.entry_list_mul (F.args_list_mul_2 _ _) (AutoListH.list___mul___list_int_3 l ai.toArray n k t QN VV RS) ⟨e,?_⟩⟩)
 rw[oB];exact⟨.ref _,_,I.Ma (t':=s.toks) (oK r k.toNat) (by rw[tP,Nat.mul_comm];exact hz),rfl,q _ I.fresh⟩
theorem BL:fillsNumberSlot (.type "tuple") "mul"=pure false:=PySem.fillsNumberSlot_seq (id:="tuple.__mul__") (r:=some (.builtin "tuple.__rmul__")) F.slot_tuple_mul.lookup (by decide +kernel) F.slot_tuple_rmul.lookup (by decide +kernel)
theorem NF:seqRepeat? (.type "tuple")=pure (some (.builtin "tuple.__mul__")):=by
  unfold seqRepeat?;rw[PySem.seqSlot_of (T:="tuple") (name:="__mul__") (id:="tuple.__mul__") F.slot_tuple_mul.lookup (by decide +kernel),PySem.seqSlot_of (T:="tuple") (name:="__rmul__") (id:="tuple.__rmul__") F.slot_tuple_rmul.lookup (by decide +kernel)]
  rfl
theorem Jg(a:Int)(t:Tok)(l:Addr)(items:Array Value)(n:Nat)(IT:Option Addr)(sl:Array (Option Value)) :
    Meets (Builtin.«int.__rmul__» ⟨[.int a t,.ref l],[]⟩) (λ_ R s=>s.heap.get? l=some {cls:=.type "tuple",dict:=IT,data:=.seq items n,slots:=sl}/\R (.ok (.ret Value.notImplemented)) s) :=
  .of_wp λprog w A R s h=>by
    obtain⟨hp,g,d,tk,os⟩:=s;obtain⟨hl,h⟩:=h
    wp_walk
    exact⟨_,rfl,h⟩
theorem NG(l:Addr)(items:Array Value)(n:Nat)(u:Tok)(IT:Option Addr)(sl:Array (Option Value)) :
    Meets (Builtin.«tuple.__mul__» ⟨[.ref l,.int 1 u],[]⟩) (λ_ R s=>s.heap.get? l=some {cls:=.type "tuple",dict:=IT,data:=.seq items n,slots:=sl}/\R (.ok (.ret (.ref l))) s) :=
  .of_wp λprog w A R s h=>by
    obtain⟨hp,g,d,tk,os⟩:=s;obtain⟨hl,h⟩:=h
    wp_walk
    exact⟨_,rfl,h⟩
theorem Jh(l:Addr)(items:Array Value)(n:Nat)(x:Int)(u:Tok)(IT:Option Addr)(sl:Array (Option Value))(h2:2<=x)(h3:x<=1000)(ne:items.isEmpty=false)(hz:items.size<=1000) :
    Meets (Builtin.«tuple.__mul__» ⟨[.ref l,.int x u],[]⟩) (λ_ R s=>s.heap.get? l=some {cls:=.type "tuple",dict:=IT,data:=.seq items n,slots:=sl}/\R (.ok (.ret (.ref s.heap.objs.size))) {s with heap:=s.heap.push {cls:=.type "tuple",data:=.seq (List.foldl (λx1 x2=>x1++x2) #[] (List.replicate x.toNat items))}}) :=
  .of_wp λprog w A R s h=>by
    obtain⟨hp,g,d,tk,os⟩:=s;obtain⟨hl,h⟩:=h;have hx:(items.size:Int)*x<=1000*1000:=by
      have h0:(0:Int)<=items.size:=Int.natCast_nonneg _;have h1:(items.size:Int)<=1000:=by lia
      exact Int.mul_le_mul h1 h3 (by lia) (by lia)
    have hsz:(List.foldl (λx1 x2=>x1++x2) #[] (List.replicate x.toNat items)).size<=sizeLine:=by
      rw[AutoListH.size_joined,jH];have h4:x.toNat*items.size<=1000*1000:=sG (by lia) hz
      simp
      lia
    wp_walk
    refine nC (aP ?_) ?_
    · simp
      lia
    wp_walk
    refine nC (aP ?_) ?_
    · rw[ne]
      simp
      lia
    wp_walk
    refine nC (aP ?_) ?_
    · rw[ne]
      simp
      lia
    wp_walk
    refine nC (aP ?_) ?_
    · lia
    wp_walk
    refine nC (aP ?_) ?_
    · unfold Builtin.Tuple.tupleTooMany
      rw[jH];simp
      lia
    wp_walk
    exact⟨_,rfl,h⟩
theorem Ji(l:Addr)(items:Array Value)(n:Nat)(u:Tok)(IT:Option Addr)(sl:Array (Option Value))(ne:items.isEmpty=false) :
  Meets (Builtin.«tuple.__mul__» ⟨[.ref l,.int 0 u],[]⟩) (λ_ R s=>s.heap.get? l=some {cls:=.type "tuple",dict:=IT,data:=.seq items n,slots:=sl}/\R (.ok (.ret (.ref s.heap.objs.size))) {s with heap:=s.heap.push {cls:=.type "tuple",data:=.seq #[]}}) :=
 .of_wp λprog w A R s h=>by
  obtain⟨hp,g,d,tk,os⟩:=s;obtain⟨hl,h⟩:=h
  wp_walk
  exact⟨_,rfl,h⟩
theorem NH{xs:List PV}{j:Int}(h1:0<=j)(h2:j<=1000)(h3:1<=xs.length)(h4:xs.length<=100){ae:List (Addr×Obj)}{s:Shared}{σ τ:St}{H aa:Hp}{ab F:Fz}{st:bT}{x y:V}{v u:Value}{Q:V->Hp->Prop}(I:Inv X ae σ H s)(rx:RelV x v)(ry:RelV y u)(R:Rep X.K aa ab F st τ H)(ba:bc X.K F (.aq xs) x)(bb:bc X.K F (.int j) y)
    (k:∀v' H' F',Rep X.K aa ab F' st τ H'->Gr F F'->bc X.K F' (.aq (List.replicate j.toNat xs).flatten) v'->Q v' H'):wpAny (model X.prog X.w) X.A (binaryOp .Mult v u) (EP X ae σ Q) X.xe s:=by
  obtain⟨a,vs,rfl,ha,eM⟩:=bg.mp ba;rw[aw.mp bb]at ry;cases rx;obtain⟨t,rfl⟩:=ry;obtain⟨ai,r,pl,_⟩:=I.tuple (aU R.sub ha);obtain⟨⟨cls,dd,data,sl⟩,e,hc,n,hd⟩:=id pl;simp only at hc hd;subst hc hd;have hl:=r.length;have hxl:=eM.length;refine wpAny_binaryOp_repeat_ref (T:="tuple") (U:="int") (by decide) ⟨_,e,rfl⟩ (λs'=>nI s' j t) BL PySem.F.fills_int_mul PySem.F.slot_int_rmul NF PySem.F.slot_int_index.lookup
    (dw PySem.F.slot_int_rmul (nI s j t) PySem.F.entry_int_rmul (PySem.F.args_int_rmul_2 _ _) (Jg j t a ai.toArray n dd sl) ⟨e,rfl,⟨_,e,rfl⟩,?_⟩)
  have nt:ai.toArray.isEmpty=false:=by
    cases ai with
    | nil=>rw[lD]at hl;lia
    | cons _ _=>simp
  by_cases VW:j=0
  · subst VW
    refine dw wW ⟨_,e,rfl⟩ wO (wN _ _) (Ji a ai.toArray n t dd sl nt) ⟨e,?_⟩;obtain⟨R2,s2⟩:=R.laid (.aq []) I.fresh;exact⟨.ref s.heap.objs.size,_,I.laid (t':=s.toks) (o:=.aq []) (λb ob q=>aj _ q) (ar _) ⟨gk _,[],.nil,mB.new _ _⟩,rfl,k _ _ _ R2 s2 (bg.mpr ⟨_,_,rfl,fA.of au,.nil⟩)⟩
  by_cases hj:j=1
  · subst hj
    refine dw wW ⟨_,e,rfl⟩ wO (wN _ _) (NG a ai.toArray n t dd sl) ⟨e,?_⟩;refine⟨.ref a,H,I,rfl,k _ H F R (Gr.refl F) ?_⟩;simpa using ba
  · refine dw wW ⟨_,e,rfl⟩ wO (wN _ _) (Jh a ai.toArray n j t dd sl (by lia) h2 nt (by rw[bO];lia)) ⟨e,?_⟩
    have oB:List.foldl (λx1 x2=>x1++x2) #[] (List.replicate j.toNat ai.toArray)=(List.replicate j.toNat ai).flatten.toArray:=by
      have:=tQ ai j.toNat [];rw[sk]at this;exact this
    rw[oB];obtain⟨R2,s2⟩:=R.laid (.aq (List.replicate j.toNat vs).flatten) I.fresh;have cX:(List.replicate j.toNat vs).flatten.length<=sizeLine:=by
      rw[tP,jH];have:j.toNat*vs.length<=1000*100:=sG (by lia) (by lia)
      lia
    exact⟨.ref s.heap.objs.size,_,I.laid (t':=s.toks) (o:=.aq (List.replicate j.toNat vs).flatten) (λb ob q=>aj _ q) (ar _) ⟨cX,_,oK r j.toNat,mB.new _ _⟩,rfl,k _ _ _ R2 s2 (bg.mpr ⟨_,_,rfl,fA.of au,(tU eM j.toNat).mono s2⟩)⟩
def NI{x':Str}{j:Int}(h1:2<=j)(h2:j<=100)(h3:1<=x'.length)(h4:x'.length<=100){ae:List (Addr×Obj)}{s:Shared}{σ τ:St}{H aa:Hp}{ab F:Fz}{st:bT}{x y:V}{v u:Value}{Q:V->Hp->Prop}(I:Inv X ae σ H s)(rx:RelV x v)(ry:RelV y u)(R:Rep X.K aa ab F st τ H)(ba:bc X.K F (.str x') x)(bb:bc X.K F (.int j) y)
 (k:∀v' H' F',Rep X.K aa ab F' st τ H'->Gr F F'->bc X.K F' (.str (Txt.mul x' j)) v'->Q v' H'):wpAny (model X.prog X.w) X.A (binaryOp .Mult v u) (EP X ae σ Q) X.xe s:=by
 rw[aw.mp bb]at ry;rw[bf.mp ba]at rx;obtain⟨t,rfl⟩:=rx;obtain⟨t',rfl⟩:=ry;refine SB.mul ⟨by simp;lia,λ_ _=>?_,λ_ _=>?_⟩ λt' m=>⟨.str _,H,I.kept (t':=m) (λ_ _ e=>e),⟨t',rfl⟩,k _ H F R (Gr.refl F) (bf.mpr rfl)⟩
 ·have:100<=(2^63-1:Int)/j:=by
   rw[Int.le_ediv_iff_mul_le (by lia)]
   lia
  lia
 ·unfold Builtin.Str.tooLong;have:x'.length*j.toNat<=100*100:=sG h4 (by lia)
  exact aP (Nat.not_lt.mpr (aD this (by decide)))
def VX(h:List ah)(p:PV)(j:Int):Option (List PV):=(lQ h p).bind λxs=>if(-1000<=j/\j<=1000/\xs.length<=100)then some (List.replicate j.toNat xs).flatten else none
def l4:G2:=λh p q=>match p,q with
 | .int i,.int j=>if((-pV<i/\i<pV)\/(-pV<j/\j<pV))then some (.int (i*j))else none
 | .nd .aq xs,.int j=>if(0<=j/\j<=1000/\1<=xs.length/\xs.length<=100)then some (.aq (List.replicate j.toNat xs).flatten)else none
 | .str x,.int j=>if(2<=j/\j<=100/\1<=x.length/\x.length<=100)then some (.str (Txt.mul x j))else none
 | p,.int j=>(VX h p j).map .lst
 | _,_=>none
theorem NJ{xs:List PV}{vs:List V}{F:Fz}{j:Int}(h:-1000<=j/\j<=1000/\xs.length<=100)(b:ao X.K F xs vs):-(2^63)<=j/\j<2^63/\vs.length*j.toNat<=sizeLine:=by
 refine⟨by lia,by lia,?_⟩
 have:=b.length;rw[jH];have:vs.length*j.toNat<=100*1000:=sG (by lia) (by lia)
 lia
theorem E3:pE X (binaryOp .Mult) l4:=by
 intro ae s σ H x y v u Q I rx ry ⟨aa,ab,F,st,τ,pa,pb,p,e,R,ba,bb,k⟩;unfold l4 at e;split at e
 ·rename_i i j;obtain⟨hc,rfl⟩:=ax e;exact zI (op:=.Mult) (g:=Mr) rfl ae s σ H x y v u Q I rx ry ⟨aa,ab,F,st,τ,.int i,.int j,.int (i*j),(show(if decide ((-pV<i/\i<pV)\/(-pV<j/\j<pV))=true then some (PV.int (i*j))else none)=_ from if_pos (aG hc)),R,ba,bb,k⟩
 ·obtain⟨⟨h1,h2,h3,h4⟩,rfl⟩:=ax e;exact NH h1 h2 h3 h4 I rx ry R ba bb k
 ·obtain⟨⟨h1,h2,h3,h4⟩,rfl⟩:=ax e;exact NI h1 h2 h3 h4 I rx ry R ba bb k
 ·obtain⟨qs,e1,rfl⟩:=aM e;obtain⟨xs,e2,e1⟩:=aE e1;obtain⟨hc,rfl⟩:=ax e1;obtain⟨a,vs,rfl,ha,eM⟩:=R.at (cZ e2) ba;obtain⟨c1,c2,c3⟩:=NJ hc eM;refine Jf ae s σ H _ y v u Q I rx ry ⟨a,_,vs,rfl,aw.mp bb,ha,c1,c2,c3,λp hp=>?_⟩
  obtain⟨R2,s2⟩:=R.laid (.lst (List.replicate _ vs).flatten) hp;exact k _ _ _ R2 s2 (cw.mpr ⟨p,_,rfl,gq.of au,(tU eM _).mono s2⟩)
 ·cases e
def Jj(op:Operator):Option G2:=match op with
 | .Mult=>some l4
 | op=>Mt op
theorem E4{op:Operator}{g:G2}(h:Jj op=some g):pE X (binaryOp op) g:=by
 cases op<;>first | (cases h;exact E3) | exact zI h
end
def VY(K:W.Frag)(c1 c2:Bool)(l1 l2:Addr):It where
 go:=λi H=>∃vs ws v w,mV K H c1 l1 vs/\mV K H c2 l2 ws/\vs[i]?=some v/\ws[i]?=some w
 yld:=λi H x H'=>∃T v w,H T=none/\x=.ref T/\H'=bZ H T (.aq [v,w])/\∀vs ws,mV K H c1 l1 vs->mV K H c2 l2 ws->vs[i]?=some v/\ws[i]?=some w
 stop:=λi H=>∃vs ws,mV K H c1 l1 vs/\mV K H c2 l2 ws/\(vs.length<=i\/ws.length<=i)
def ZG(z TI TO i1 i2 l1 l2:Nat)(c1 c2:Bool)(i:Nat)(h:Heap):Prop:=IsZip h z TI TO .none/\IsPair h TI (.ref i1) (.ref i2)/\(∃a b,IsPair h TO a b)/\zW h c1 i1 l1 i/\zW h c2 i2 l2 i
theorem E5{P:Program}{w:World}{K:W.Frag}{elts:List Expr}{x1:Nat}{sU:Pos}{z TI TO i1 i2 l1 l2:Nat}{c1 c2:Bool}(ord:i1<i2/\i2<TI/\TI<TO/\TO<z)(o1:l1<i1)(o2:l2<i1) :
  Turn P w K (.Tuple elts x1 sU) (VY K c1 c2 l1 l2) [z,TI,TO,i1,i2] z (ZG z TI TO i1 i2 l1 l2 c1 c2) where
 mem:=dc
 obj:=by
  rintro i h ⟨a1,a2,⟨_,_,a3⟩,a4,a5⟩ b hb
  simp only[aX,bH,bJ]at hb;rcases hb with rfl | rfl | rfl | rfl | rfl
  ·exact⟨_,a1,λv=>by simp⟩
  ·exact⟨_,a2,λv=>by simp⟩
  ·exact⟨_,a3,λv=>by simp⟩
  ·exact a4.obj
  ·exact a5.obj
 keep:=λi h h' ⟨a1,a2,⟨p,q,a3⟩,a4,a5⟩ k=>⟨k z (by simp) _ a1,k TI (by simp) _ a2,⟨p,q,k TO (by simp) _ a3⟩,a4.at λo e=>k i1 (by simp) o e,a5.at λo e=>k i2 (by simp) o e⟩
 item:=by
  rintro X hP hw hK hc i ae s σ H E I hf ⟨a1,a2,a3,a4,a5⟩ ⟨vs,ws,v,w',hv,Jk,ev,ew⟩
  subst hP hw hK;obtain⟨ai,r1,k1⟩:=hv.get I;obtain⟨bY,r2,k2⟩:=Jk.get I;obtain⟨x,ex,rx⟩:=r1.get ev;obtain⟨y,ey,ry⟩:=r2.get ew;have Z:Zp s.heap z TI TO i1 i2 l1 l2 .none i ai.toArray bY.toArray:=⟨a1,a2,a3,jt a4 k1,jt a5 k2,ord,o1,o2⟩;have hT:s.TypeIs (.ref z) "zip":=⟨_,a1,rfl⟩;unfold pyNext;refine af (gN (dJ (name:=Str.ofString "__next__") hT cM (dt cM hT iE
   (Ai Z (by simpa using ex) (by simpa using ey) λh' Z' GG O6 kp=>ag ⟨_,rfl,?_⟩) (iD _))))
  refine wpAny_letOwnedTupleGo_zip Z'.hz λMQ NK sb=>?_
  have Kk:∀b∈[z,TI,TO,i1,i2],b<s.heap.objs.size:=λb hb=>by
   simp only[aX,bH,bJ]at hb;have h1:=ay a1;have h2:z<s.heap.objs.size:=h1;obtain⟨q1,q2,q3,q4⟩:=ord;rcases hb with rfl | rfl | rfl | rfl | rfl<;>lia
  have zT:z≠s.heap.objs.size:=aJ (Kk z (by simp))
  have MR:∀b o,b∉[z,TI,TO,i1,i2]->s.heap.get? b=some o->MQ.get? b=some o:=λb o hb e=>by
   simp only[aX,bH,bJ,not_or]at hb;exact sb.extBut _ _ hb.1 (kp b o hb.1 hb.2.2.1 hb.2.2.2.1 hb.2.2.2.2 e)
  have I1:Inv X ae σ H {s with heap:=MQ,toks:=s.toks}:=Inv.turns I hf MR
  have hn:H s.heap.objs.size=none:=I.fresh;have zX:=I.nS (H':=H) (ar _) hn;have pr:IsPair MQ s.heap.objs.size x y:=sb.extBut _ _ (bA zT) GG;have I2:=Inv.adopt (D:=s.heap.objs.size) (o:=.aq [v,w']) I1 hn (by
    rcases zX.2.2.2.1 with q | q
    ·exact I.sz
    ·exact q) zX.2.1 zX.2.2.2.2.1 zX.2.2.2.2.2 ⟨(by show 2<=sizeLine;decide),[x,y],.cons rx (.cons ry .nil),⟨_,pr,rfl,⟨0,rfl⟩,rfl⟩⟩
  refine⟨.ref s.heap.objs.size,_,I2,rfl,⟨s.heap.objs.size,v,w',hn,rfl,rfl,λuz Xz h1 h2=>?_⟩,⟨NK,sb.extBut _ _ (by first | exact nl (by lia) | exact ng (by lia)) Z'.hTI,?_,?_,?_⟩,λb hb=>?_⟩
  ·rw[<-mV.inj I hv h1,<-mV.inj I Jk h2];exact⟨ev,ew⟩
  ·obtain⟨p,q,e⟩:=Z'.hTO;exact⟨p,q,sb.extBut _ _ (by first | exact nl (by lia) | exact ng (by lia)) e⟩
  ·have q:=kK (k':=i) Z'.s1 k1 λo e=>kp l1 o (by first | exact nl (by lia) | exact ng (by lia)) (by first | exact nl (by lia) | exact ng (by lia)) (by first | exact nl (by lia) | exact ng (by lia)) (by first | exact nl (by lia) | exact ng (by lia)) e
   exact q.at λo e=>sb.extBut _ _ (by first | exact nl (by lia) | exact ng (by lia)) e
  ·have q:=kK (k':=i) Z'.s2 k2 λo e=>kp l2 o (by first | exact nl (by lia) | exact ng (by lia)) (by first | exact nl (by lia) | exact ng (by lia)) (by first | exact nl (by lia) | exact ng (by lia)) (by first | exact nl (by lia) | exact ng (by lia)) e
   exact q.at λo e=>sb.extBut _ _ (by first | exact nl (by lia) | exact ng (by lia)) e
  ·rw[aI (aJ (Kk b hb))];exact(hf b hb).1
 done:=by
  rintro X hP hw hK hc i ae s σ H E I hf ⟨a1,a2,a3,a4,a5⟩ ⟨vs,ws,hv,Jk,he⟩
  subst hP hw hK;obtain⟨ai,r1,k1⟩:=hv.get I;obtain⟨bY,r2,k2⟩:=Jk.get I;have Z:Zp s.heap z TI TO i1 i2 l1 l2 .none i ai.toArray bY.toArray:=⟨a1,a2,a3,jt a4 k1,jt a5 k2,ord,o1,o2⟩;have hT:s.TypeIs (.ref z) "zip":=⟨_,a1,rfl⟩;have lZ:ai.toArray[i]?=none\/bY.toArray[i]?=none:=by
   rcases he with q | q
   ·exact .inl (gJ (by rw[bO,<-r1.length];exact q))
   ·exact .inr (gJ (by rw[bO,<-r2.length];exact q))
  unfold pyNext;refine af (gN (dJ (name:=Str.ofString "__next__") hT cM (dt cM hT iE (EZ (I.ok.hd hc) Z lZ λh' e kp ⟨o,ho,hcl⟩=>?_) (iD _))))
  refine af (nA (T:="StopIteration") (b:=true) ⟨o,ho,hcl⟩ nF (ag ⟨rfl,?_⟩));exact Inv.turns (t':=s.toks) I hf λb o hb e=>by
   simp only[aX,bH,bJ,not_or]at hb;exact kp b o hb.1 hb.2.2.1 hb.2.2.2.1 hb.2.2.2.2 e
 self:=λA i s Q E ⟨a1,_⟩ q=>xt a1 q
theorem vL{K:W.Frag}{F:Fz}{c1 c2:Bool}{l1 l2:Addr}{ps qs:List PV}{vs ws:List V}(k1:∀F',bU F.F F'->mV K F' c1 l1 vs)(k2:∀F',bU F.F F'->mV K F' c2 l2 ws)(b1:ao K F ps vs)(b2:ao K F qs ws):Walk K F (List.zipWith dZ ps qs) (VY K c1 c2 l1 l2):=by
 intro aa ab F' ρ σ H R s i;have h1:=k1 H (s.s.trans R.sub);have h2:=k2 H (s.s.trans R.sub);refine⟨λp e=>?_,λe=>?_⟩
 ·rw[List.getElem?_zipWith]at e;cases z1:ps[i]? with
  | none=>rw[z1]at e;cases e
  | some p1 =>
   cases z2:qs[i]? with
   | none=>rw[z1,z2]at e;cases e
   | some p2 =>
    rw[z1,z2]at e;cases e;obtain⟨v,e1,Vm⟩:=b1.get z1;obtain⟨w,e2,ZH⟩:=b2.get z2;refine⟨⟨vs,ws,v,w,h1,h2,e1,e2⟩,λx H' ⟨T,v',w',hn,hx,hH,DM⟩=>?_⟩
    obtain⟨g1,g2⟩:=DM vs ws h1 h2;rw[e1]at g1;rw[e2]at g2;cases g1;cases g2;subst hx hH;obtain⟨R2,s2⟩:=R.laid (.aq [v,w]) hn;exact⟨_,R2,s2,bg.mpr ⟨T,[v,w],rfl,fA.of au,.cons (Vm.mono (s.trans s2)) (.cons (ZH.mono (s.trans s2)) .nil)⟩⟩
 ·refine⟨vs,ws,h1,h2,?_⟩;have:=gg.mp e;rw[List.length_zipWith,b1.length,b2.length]at this
  lia
section
variable {X:Cx} {aa:Hp} {ab:Fz} {a b tg:Expr} {fa fb:Gx PV} {pos p:Pos}
def VZ(p q:PV):Option (List PV):=(mH p).bind λps=>(mH q).map λqs=>List.zipWith dZ ps qs
def NL(fa fb:Gx PV):Gx (List PV):=bnd fa λp=>bnd fb λq=>fy (VZ p q)
end
def oM(h:Heap)(z TI TO:Nat)(g:Value)(f:Bool):Prop:=h.get? z=some {cls:=.type "zip",data:=.fields #[g,.bool f,.bool false,.ref TI,.ref TO]}
def XI(h:Heap)(z TI TO:Nat):Prop:=∃g f,(g=.none\/∃t:Nat,g=rawInt t)/\oM h z TI TO g f
structure Zx (h:Heap) (z TI TO i1 i2 l1 l2:Nat) (k:Nat) (xs ys:Array Value):Prop where
 hz:XI h z TI TO
 hTI:IsPair h TI (.ref i1) (.ref i2)
 hTO:∃a b,IsPair h TO a b
 s1:SI h i1 l1 k xs
 s2:SI h i2 l2 k ys
 ord:i1<i2/\i2<TI/\TI<TO/\TO<z
 o1:l1<i1
 o2:l2<i1
section
variable {prog:Program} {w:World} {A:Around} {E:Value->Shared->Prop} {s:Shared} {z TI TO i1 i2 l1 l2:Nat} {k:Nat} {xs ys:Array Value} {g:Value} {f:Bool}
theorem NM{Q:Value->Shared->Prop}(hz:oM s.heap z TI TO g f)(h:Q (.ref z) s):wpAny (model prog w) A (pyIter (.ref z)) Q E s:=by
 have hT:s.TypeIs (.ref z) "zip":=⟨_,hz,rfl⟩;refine wpAny_pyIter_slot hT F.slot_zip_iter (dt F.slot_zip_iter hT F.entry_zip_iter ?_ (F.args_zip_iter_1 _));show wpAny _ _ (ret (.ref z)) _ _ s;exact ag ⟨_,rfl,"zip",_,hT,cM.lookup,h⟩
theorem NN{a:Addr}{Q:Option Obj->Shared->Prop}(ho:s.heap.get? a=none)(h:Q none s):wpAny (model prog w) A (loadIfAlive a) Q E s:=by
 have h':Q (s.heap.get? a) s:=by rw[ho];exact h
 exact λ_ _ _=>h'
theorem Ak{Q:Bool->Shared->Prop}(hg:oM s.heap z TI TO g f)(hk:g=.none\/∃t:Nat,g=rawInt t)(hT:Q true s)(hF:∀cq,(∃t,TU cq z TI TO t true)->Heap.SameBut z s.heap cq->Q false {s with heap:=cq}):wpAny (model prog w) A (Builtin.SmallTypes.ownedTupleIsFree (.ref z)) Q E s:=by
 rcases hk with rfl | ⟨t,rfl⟩
 ·unfold Builtin.SmallTypes.ownedTupleIsFree;exact af (bu hg rfl (x:=.none) rfl (ag hT))
 ·cases ha:s.heap.get? t with
  | some oa=>exact tO hg ha λcq a b=>hF cq ⟨t,a⟩ b
  | none =>
   unfold Builtin.SmallTypes.ownedTupleIsFree;refine af (bu hg rfl (x:=rawInt t) rfl ?_);show wpAny _ _ (loadIfAlive ((t:Int).toNat) >>= _) _ _ _;rw[lu];refine af (NN ha ?_);simp only[Option.isNone_none,ef];exact ag hT
theorem Jl{x y:Value}{Q:Value->Shared->Prop}(Z:Zx s.heap z TI TO i1 i2 l1 l2 k xs ys)(hx:xs[k]?=some x)(hy:ys[k]?=some y)
  (hQ:∀h',Zx h' z TI TO i1 i2 l1 l2 (k+1) xs ys->IsPair h' s.heap.objs.size x y->h'.objs.size=s.heap.objs.size+1->(∀c o,c≠z->c≠TO->c≠i1->c≠i2->s.heap.get? c=some o->h'.get? c=some o)->Q (.ref s.heap.objs.size) {s with heap:=h'}) :
  wpAny (model prog w) A (Builtin.«zip.__next__» ⟨[.ref z],[]⟩) (λi8 s'=>∃v,i8=.done (.ret v)/\Q v s') E s:=by
 obtain⟨⟨g,f,hk,hg⟩,hTI,⟨a,b,hTO⟩,s1,s2,⟨o1,o2,o3,o4⟩,q1,q2⟩:=Z;show wpAny _ _ (field (.ref z) 2 >>= _) _ _ _;refine af (bu hg rfl (x:=.bool false) rfl ?_);show wpAny _ _ (field (.ref z) 3 >>= _) _ _ _;refine af (bu hg rfl (x:=.ref TI) rfl (af (cN hTI rfl ?_)));show wpAny _ _ (Builtin.SmallTypes.ownedTupleIsFree (.ref z) >>= _) _ _ _;refine af (Ak hg hk ?_ λcq ⟨t,hz₁⟩ e₁=>?_)
 ·simp only[ef];refine af (gm (af (bu hg rfl (x:=.ref TO) rfl (af (d8 hg (by simp) λcq hz₁ e₁=>?_)))))
  replace hz₁:oM cq z TI TO .ellipsis f:=hz₁;refine af ?_;simp only[sg,sv,gK,iI];refine af (af (iJ ?_));show wpAny _ _ (Builtin.SmallTypes.nextOf (.ref i1) >>= _) _ _ _;have dR:SI cq i1 l1 k xs:=s1.at (λo e=>e₁.extBut _ _ (by first | exact nl (by lia) | exact ng (by lia)) e) (λo e=>e₁.extBut _ _ (by first | exact nl (by lia) | exact ng (by lia)) e)
  refine af (SI.next dR hx λfL iV e₂=>ag ?_)
  have fM:IsPair fL TO a b:=e₂.extBut _ _ (by first | exact nl (by lia) | exact ng (by lia)) (e₁.extBut _ _ (by first | exact nl (by lia) | exact ng (by lia)) hTO)
  refine af (cN fM rfl (af (lq fM λdF hTO₃ cG=>?_)))
  replace hTO₃:IsPair dF TO x b:=hTO₃;refine af (gP (ag (af (af (iJ ?_)))));show wpAny _ _ (Builtin.SmallTypes.nextOf (.ref i2) >>= _) _ _ _;have iW:SI dF i2 l2 k ys:=s2.at (λo e=>cG.extBut _ _ (by first | exact nl (by lia) | exact ng (by lia)) (e₂.extBut _ _ (by first | exact nl (by lia) | exact ng (by lia)) (e₁.extBut _ _ (by first | exact nl (by lia) | exact ng (by lia)) e))) (λo e=>cG.extBut _ _ (by first | exact nl (by lia) | exact ng (by lia)) (e₂.extBut _ _ (by first | exact nl (by lia) | exact ng (by lia)) (e₁.extBut _ _ (by first | exact nl (by lia) | exact ng (by lia)) e)))
  refine af (SI.next iW hy λyw EV e₄=>ag ?_)
  have oG:IsPair yw TO x b:=e₄.extBut _ _ (by first | exact nl (by lia) | exact ng (by lia)) hTO₃
  refine af (cN oG rfl (af (lq oG λcS hTO₅ jS=>?_)))
  replace hTO₅:IsPair cS TO x y:=hTO₅;refine af (gP (ag (ag ?_)));refine af (cN hTO₅ rfl (af (sH ?_)));have hsz:cS.objs.size=s.heap.objs.size:=by rw[jS.1,e₄.1,cG.1,e₂.1,e₁.1]
  have vE:oM cS z TI TO .ellipsis f:=jS.extBut _ _ (by first | exact nl (by lia) | exact ng (by lia)) (e₄.extBut _ _ (by first | exact nl (by lia) | exact ng (by lia)) (cG.extBut _ _ (by first | exact nl (by lia) | exact ng (by lia)) (e₂.extBut _ _ (by first | exact nl (by lia) | exact ng (by lia)) hz₁)))
  have kp:∀c o,c≠z->c≠TO->c≠i1->c≠i2->s.heap.get? c=some o->cS.get? c=some o:=λc o c1 c2 c3 c4 e=>jS.extBut _ _ c2 (e₄.extBut _ _ c4 (cG.extBut _ _ c2 (e₂.extBut _ _ c3 (e₁.extBut _ _ c1 e))))
  have EW:SI cS i1 l1 (k+1) xs:=iV.at (λo e=>jS.extBut _ _ (by first | exact nl (by lia) | exact ng (by lia)) (e₄.extBut _ _ (by first | exact nl (by lia) | exact ng (by lia)) (cG.extBut _ _ (by first | exact nl (by lia) | exact ng (by lia)) e))) (λo e=>jS.extBut _ _ (by first | exact nl (by lia) | exact ng (by lia)) (e₄.extBut _ _ (by first | exact nl (by lia) | exact ng (by lia)) (cG.extBut _ _ (by first | exact nl (by lia) | exact ng (by lia)) e)))
  have EX:SI cS i2 l2 (k+1) ys:=EV.at (λo e=>jS.extBut _ _ (by first | exact nl (by lia) | exact ng (by lia)) e) (λo e=>jS.extBut _ _ (by first | exact nl (by lia) | exact ng (by lia)) e)
  have Zu:z<cS.objs.size:=ay vE;show wpAny _ _ (Builtin.SmallTypes.ownedTupleHandOut (.ref z) (.ref cS.objs.size) >>= _) _ _ _;refine af ?_;unfold Builtin.SmallTypes.ownedTupleHandOut;have EY:oM (cS.push {cls:=.type "tuple",data:=.seq #[x,y]}) z TI TO .ellipsis f:=aj _ vE
  refine af (d8 EY (by simp) λNy oH e₇=>?_)
  replace oH:oM Ny z TI TO (rawInt cS.objs.size) f:=oH;refine d8 oH (by simp) λoI kQ yx=>?_
  replace kQ:oM oI z TI TO (rawInt cS.objs.size) false:=kQ;have up:∀c o,c≠z->cS.get? c=some o->oI.get? c=some o:=λc o c1 e=>yx.extBut _ _ c1 (e₇.extBut _ _ c1 (aj _ e))
  have hT₈:IsPair oI cS.objs.size x y:=yx.extBut _ _ (by first | exact nl (by lia) | exact ng (by lia)) (e₇.extBut _ _ (by first | exact nl (by lia) | exact ng (by lia)) (aY _ rfl))
  have RO:oI.objs.size=cS.objs.size+1:=by rw[yx.1,e₇.1,cm]
  rw[hsz]at kQ hT₈ RO;refine ag ⟨_,rfl,?_⟩;show Q (.ref cS.objs.size) _;rw[hsz];refine hQ oI ⟨⟨_,_,.inr ⟨_,rfl⟩,kQ⟩,up _ _ (by first | exact nl (by lia) | exact ng (by lia)) (kp _ _ (by first | exact nl (by lia) | exact ng (by lia)) (by first | exact nl (by lia) | exact ng (by lia)) (by first | exact nl (by lia) | exact ng (by lia)) (by first | exact nl (by lia) | exact ng (by lia)) hTI),⟨x,y,up _ _ (by first | exact nl (by lia) | exact ng (by lia)) hTO₅⟩,EW.at (λo e=>up _ o (by first | exact nl (by lia) | exact ng (by lia)) e) (λo e=>up _ o (by first | exact nl (by lia) | exact ng (by lia)) e),EX.at (λo e=>up _ o (by first | exact nl (by lia) | exact ng (by lia)) e) (λo e=>up _ o (by first | exact nl (by lia) | exact ng (by lia)) e),⟨o1,o2,o3,o4⟩,q1,q2⟩ hT₈ RO λc o c1 c2 c3 c4 e=>up c o c1 (kp c o c1 c2 c3 c4 e)
 ·simp only[eR,de];refine af ?_;simp only[rZ,gK,iI];refine af (af (bX ?_));show wpAny _ _ (Builtin.SmallTypes.nextOf (.ref i1) >>= _) _ _ _;have dR:SI cq i1 l1 k xs:=s1.at (λo e=>e₁.extBut _ _ (by first | exact nl (by lia) | exact ng (by lia)) e) (λo e=>e₁.extBut _ _ (by first | exact nl (by lia) | exact ng (by lia)) e)
  refine af (SI.next dR hx λfL iV e₂=>ag ?_)
  refine ag (af (af (bX ?_)));show wpAny _ _ (Builtin.SmallTypes.nextOf (.ref i2) >>= _) _ _ _;have oJ:SI fL i2 l2 k ys:=s2.at (λo e=>e₂.extBut _ _ (by first | exact nl (by lia) | exact ng (by lia)) (e₁.extBut _ _ (by first | exact nl (by lia) | exact ng (by lia)) e)) (λo e=>e₂.extBut _ _ (by first | exact nl (by lia) | exact ng (by lia)) (e₁.extBut _ _ (by first | exact nl (by lia) | exact ng (by lia)) e))
  refine af (SI.next oJ hy λdF iW cG=>ag ?_)
  refine ag (ag ?_);have hsz:dF.objs.size=s.heap.objs.size:=by rw[cG.1,e₂.1,e₁.1]
  have kp:∀c o,c≠z->c≠i1->c≠i2->s.heap.get? c=some o->dF.get? c=some o:=λc o c1 c2 c3 e=>cG.extBut _ _ c3 (e₂.extBut _ _ c2 (e₁.extBut _ _ c1 e))
  have up:∀c o,c≠i1->c≠i2->cq.get? c=some o->dF.get? c=some o:=λc o c2 c3 e=>cG.extBut _ _ c3 (e₂.extBut _ _ c2 e)
  refine af (sH (hsz:=by show 2<=sizeLine;decide) ?_)
  show wpAny _ _ (ret (Value.ref dF.objs.size)) _ _ {s with heap:=dF.push {cls:=.type "tuple",data:=.seq #[x,y]}}
  rw[hsz];refine ag ⟨_,rfl,?_⟩;refine hQ _ ⟨⟨_,_,.inr ⟨_,rfl⟩,aj _ (up _ _ (by first | exact nl (by lia) | exact ng (by lia)) (by first | exact nl (by lia) | exact ng (by lia)) hz₁)⟩,aj _ (kp _ _ (by first | exact nl (by lia) | exact ng (by lia)) (by first | exact nl (by lia) | exact ng (by lia)) (by first | exact nl (by lia) | exact ng (by lia)) hTI),⟨a,b,aj _ (kp _ _ (by first | exact nl (by lia) | exact ng (by lia)) (by first | exact nl (by lia) | exact ng (by lia)) (by first | exact nl (by lia) | exact ng (by lia)) hTO)⟩,iV.at (λo e=>aj _ (cG.extBut _ _ (by first | exact nl (by lia) | exact ng (by lia)) e)) (λo e=>aj _ (cG.extBut _ _ (by first | exact nl (by lia) | exact ng (by lia)) e)),iW.at (λo e=>aj _ e) (λo e=>aj _ e),⟨o1,o2,o3,o4⟩,q1,q2⟩ ?_ (by rw[cm,hsz]) λc o c1 _ c3 c4 e=>aj _ (kp c o c1 c3 c4 e)
  rw[<-hsz];exact aY _ rfl
theorem NO{Q:Fin->Shared->Prop}(hh:A.handled=none)(Z:Zx s.heap z TI TO i1 i2 l1 l2 k xs ys)(lZ:xs[k]?=none\/ys[k]?=none)
  (hE:∀h' e,(∀c o,c≠z->c≠TO->c≠i1->c≠i2->s.heap.get? c=some o->h'.get? c=some o)->(∃o,h'.get? e=some o/\o.cls=.type "StopIteration")->E (.ref e) {s with heap:=h'}):wpAny (model prog w) A (Builtin.«zip.__next__» ⟨[.ref z],[]⟩) Q E s:=by
 obtain⟨⟨g,f,hk,hg⟩,hTI,⟨a,b,hTO⟩,s1,s2,⟨o1,o2,o3,o4⟩,q1,q2⟩:=Z;show wpAny _ _ (field (.ref z) 2 >>= _) _ _ _;refine af (bu hg rfl (x:=.bool false) rfl ?_);show wpAny _ _ (field (.ref z) 3 >>= _) _ _ _;refine af (bu hg rfl (x:=.ref TI) rfl (af (cN hTI rfl ?_)));show wpAny _ _ (Builtin.SmallTypes.ownedTupleIsFree (.ref z) >>= _) _ _ _;refine af (Ak hg hk ?_ λcq ⟨t,hz₁⟩ e₁=>?_)
 ·simp only[ef];refine af (gm (af (bu hg rfl (x:=.ref TO) rfl (af (d8 hg (by simp) λcq hz₁ e₁=>?_)))))
  replace hz₁:oM cq z TI TO .ellipsis f:=hz₁;refine af ?_;simp only[sg,sv,gK,iI];refine af (af (iJ ?_));show wpAny _ _ (Builtin.SmallTypes.nextOf (.ref i1) >>= _) _ _ _;have dR:SI cq i1 l1 k xs:=s1.at (λo e=>e₁.extBut _ _ (by first | exact nl (by lia) | exact ng (by lia)) e) (λo e=>e₁.extBut _ _ (by first | exact nl (by lia) | exact ng (by lia)) e)
  cases hx:xs[k]? with
  | none =>
   refine af (SI.stop hh dR hx λfL e hs₂ he=>?_)
   obtain⟨oe,yy,E2⟩:=he;have vF:oM fL z TI TO .ellipsis f:=hs₂ _ _ (by first | exact nl (by lia) | exact ng (by lia)) hz₁
   have Nz:e≠z:=λx=>by subst x;rw[vF]at yy;cases yy;simp at E2
   exact d8 vF (by simp) λdF _ hs₃=>hE dF e (λc o c1 _ c3 _ x=>hs₃.extBut _ _ c1 (hs₂ _ _ c3 (e₁.extBut _ _ c1 x))) ⟨oe,hs₃.extBut _ _ Nz yy,E2⟩
  | some x =>
   have hy:ys[k]?=none:=by
    rcases lZ with h | h
    ·rw[hx]at h;cases h
    ·exact h
   refine af (SI.next dR hx λfL iV e₂=>ag ?_)
   have fM:IsPair fL TO a b:=e₂.extBut _ _ (by first | exact nl (by lia) | exact ng (by lia)) (e₁.extBut _ _ (by first | exact nl (by lia) | exact ng (by lia)) hTO)
   refine af (cN fM rfl (af (lq fM λdF hTO₃ cG=>?_)))
   refine af (gP (ag (af (af (iJ ?_)))));show wpAny _ _ (Builtin.SmallTypes.nextOf (.ref i2) >>= _) _ _ _;have iW:SI dF i2 l2 k ys:=s2.at (λo e=>cG.extBut _ _ (by first | exact nl (by lia) | exact ng (by lia)) (e₂.extBut _ _ (by first | exact nl (by lia) | exact ng (by lia)) (e₁.extBut _ _ (by first | exact nl (by lia) | exact ng (by lia)) e))) (λo e=>cG.extBut _ _ (by first | exact nl (by lia) | exact ng (by lia)) (e₂.extBut _ _ (by first | exact nl (by lia) | exact ng (by lia)) (e₁.extBut _ _ (by first | exact nl (by lia) | exact ng (by lia)) e)))
   refine af (SI.stop hh iW hy λyw e vG he=>?_)
   obtain⟨oe,yy,E2⟩:=he;have vH:oM yw z TI TO .ellipsis f:=vG _ _ (by first | exact nl (by lia) | exact ng (by lia)) (cG.extBut _ _ (by first | exact nl (by lia) | exact ng (by lia)) (e₂.extBut _ _ (by first | exact nl (by lia) | exact ng (by lia)) hz₁))
   have Nz:e≠z:=λx=>by subst x;rw[vH]at yy;cases yy;simp at E2
   exact d8 vH (by simp) λcS _ hs₅=>hE cS e (λc o c1 c2 c3 c4 x=>hs₅.extBut _ _ c1 (vG _ _ c4 (cG.extBut _ _ c2 (e₂.extBut _ _ c3 (e₁.extBut _ _ c1 x))))) ⟨oe,hs₅.extBut _ _ Nz yy,E2⟩
 ·simp only[eR,de];refine af ?_;simp only[rZ,gK,iI];refine af (af (bX ?_));show wpAny _ _ (Builtin.SmallTypes.nextOf (.ref i1) >>= _) _ _ _;have dR:SI cq i1 l1 k xs:=s1.at (λo e=>e₁.extBut _ _ (by first | exact nl (by lia) | exact ng (by lia)) e) (λo e=>e₁.extBut _ _ (by first | exact nl (by lia) | exact ng (by lia)) e)
  cases hx:xs[k]? with
  | none =>
   refine af (SI.stop hh dR hx λfL e hs₂ he=>?_)
   exact hE fL e (λc o c1 _ c3 _ x=>hs₂ _ _ c3 (e₁.extBut _ _ c1 x)) he
  | some x =>
   have hy:ys[k]?=none:=by
    rcases lZ with h | h
    ·rw[hx]at h;cases h
    ·exact h
   refine af (SI.next dR hx λfL iV e₂=>ag ?_)
   refine ag (af (af (bX ?_)));show wpAny _ _ (Builtin.SmallTypes.nextOf (.ref i2) >>= _) _ _ _;have oJ:SI fL i2 l2 k ys:=s2.at (λo e=>e₂.extBut _ _ (by first | exact nl (by lia) | exact ng (by lia)) (e₁.extBut _ _ (by first | exact nl (by lia) | exact ng (by lia)) e)) (λo e=>e₂.extBut _ _ (by first | exact nl (by lia) | exact ng (by lia)) (e₁.extBut _ _ (by first | exact nl (by lia) | exact ng (by lia)) e))
   refine af (SI.stop hh oJ hy λdF e hs₃ he=>?_)
   exact hE dF e (λc o c1 _ c2 c3 x=>hs₃ _ _ c3 (e₂.extBut _ _ c2 (e₁.extBut _ _ c1 x))) he
end
def ZI(z TI TO i1 i2 l1 l2:Nat)(c1 c2:Bool)(i:Nat)(h:Heap):Prop:=XI h z TI TO/\IsPair h TI (.ref i1) (.ref i2)/\(∃a b,IsPair h TO a b)/\zW h c1 i1 l1 i/\zW h c2 i2 l2 i
theorem BM{P:Program}{w:World}{K:W.Frag}{nm:Str}{sU:Pos}{z TI TO i1 i2 l1 l2:Nat}{c1 c2:Bool}(ord:i1<i2/\i2<TI/\TI<TO/\TO<z)(o1:l1<i1)(o2:l2<i1) :
  Turn P w K (.Name nm sU) (VY K c1 c2 l1 l2) [z,TI,TO,i1,i2] z (ZI z TI TO i1 i2 l1 l2 c1 c2) where
 mem:=dc
 obj:=by
  rintro i h ⟨a1,a2,⟨_,_,a3⟩,a4,a5⟩ b hb
  simp only[aX,bH,bJ]at hb;rcases hb with rfl | rfl | rfl | rfl | rfl
  ·obtain⟨_,_,_,a1⟩:=a1;exact⟨_,a1,λv=>by simp⟩
  ·exact⟨_,a2,λv=>by simp⟩
  ·exact⟨_,a3,λv=>by simp⟩
  ·exact a4.obj
  ·exact a5.obj
 keep:=λi h h' ⟨a1,a2,⟨p,q,a3⟩,a4,a5⟩ k=>⟨let ⟨g,f,e,a⟩:=a1;⟨g,f,e,k z (by simp) _ a⟩,k TI (by simp) _ a2,⟨p,q,k TO (by simp) _ a3⟩,a4.at λo e=>k i1 (by simp) o e,a5.at λo e=>k i2 (by simp) o e⟩
 item:=by
  rintro X hP hw hK hc i ae s σ H E I hf ⟨a1,a2,a3,a4,a5⟩ ⟨vs,ws,v,w',hv,Jk,ev,ew⟩
  subst hP hw hK;obtain⟨ai,r1,k1⟩:=hv.get I;obtain⟨bY,r2,k2⟩:=Jk.get I;obtain⟨x,ex,rx⟩:=r1.get ev;obtain⟨y,ey,ry⟩:=r2.get ew;have Z:Zx s.heap z TI TO i1 i2 l1 l2 i ai.toArray bY.toArray:=⟨a1,a2,a3,jt a4 k1,jt a5 k2,ord,o1,o2⟩;obtain⟨g0,f0,ZJ,az⟩:=a1;have hT:s.TypeIs (.ref z) "zip":=⟨_,az,rfl⟩;unfold pyNext;refine af (gN (dJ (name:=Str.ofString "__next__") hT cM (dt cM hT iE
   (Jl Z (by simpa using ex) (by simpa using ey) λh' Z' GG O6 kp=>ag ⟨_,rfl,?_⟩) (iD _))))
  refine ag ?_;have sb:=Heap.SameBut.refl z h';have NK:=Z'.hz;have Kk:∀b∈[z,TI,TO,i1,i2],b<s.heap.objs.size:=λb hb=>by
   simp only[aX,bH,bJ]at hb;have h1:=ay az;have h2:z<s.heap.objs.size:=h1;obtain⟨q1,q2,q3,q4⟩:=ord;rcases hb with rfl | rfl | rfl | rfl | rfl<;>lia
  have zT:z≠s.heap.objs.size:=aJ (Kk z (by simp))
  have MR:∀b o,b∉[z,TI,TO,i1,i2]->s.heap.get? b=some o->h'.get? b=some o:=λb o hb e=>by
   simp only[aX,bH,bJ,not_or]at hb;exact sb.extBut _ _ hb.1 (kp b o hb.1 hb.2.2.1 hb.2.2.2.1 hb.2.2.2.2 e)
  have I1:Inv X ae σ H {s with heap:=h',toks:=s.toks}:=Inv.turns I hf MR
  have hn:H s.heap.objs.size=none:=I.fresh;have zX:=I.nS (H':=H) (ar _) hn;have pr:IsPair h' s.heap.objs.size x y:=sb.extBut _ _ (bA zT) GG;have I2:=Inv.adopt (D:=s.heap.objs.size) (o:=.aq [v,w']) I1 hn (by
    rcases zX.2.2.2.1 with q | q
    ·exact I.sz
    ·exact q) zX.2.1 zX.2.2.2.2.1 zX.2.2.2.2.2 ⟨(by show 2<=sizeLine;decide),[x,y],.cons rx (.cons ry .nil),⟨_,pr,rfl,⟨0,rfl⟩,rfl⟩⟩
  refine⟨.ref s.heap.objs.size,_,I2,rfl,⟨s.heap.objs.size,v,w',hn,rfl,rfl,λuz Xz h1 h2=>?_⟩,⟨NK,sb.extBut _ _ (by first | exact nl (by lia) | exact ng (by lia)) Z'.hTI,?_,?_,?_⟩,λb hb=>?_⟩
  ·rw[<-mV.inj I hv h1,<-mV.inj I Jk h2];exact⟨ev,ew⟩
  ·obtain⟨p,q,e⟩:=Z'.hTO;exact⟨p,q,sb.extBut _ _ (by first | exact nl (by lia) | exact ng (by lia)) e⟩
  ·have q:=kK (k':=i) Z'.s1 k1 λo e=>kp l1 o (by first | exact nl (by lia) | exact ng (by lia)) (by first | exact nl (by lia) | exact ng (by lia)) (by first | exact nl (by lia) | exact ng (by lia)) (by first | exact nl (by lia) | exact ng (by lia)) e
   exact q.at λo e=>sb.extBut _ _ (by first | exact nl (by lia) | exact ng (by lia)) e
  ·have q:=kK (k':=i) Z'.s2 k2 λo e=>kp l2 o (by first | exact nl (by lia) | exact ng (by lia)) (by first | exact nl (by lia) | exact ng (by lia)) (by first | exact nl (by lia) | exact ng (by lia)) (by first | exact nl (by lia) | exact ng (by lia)) e
   exact q.at λo e=>sb.extBut _ _ (by first | exact nl (by lia) | exact ng (by lia)) e
  ·rw[aI (aJ (Kk b hb))];exact(hf b hb).1
 done:=by
  rintro X hP hw hK hc i ae s σ H E I hf ⟨a1,a2,a3,a4,a5⟩ ⟨vs,ws,hv,Jk,he⟩
  subst hP hw hK;obtain⟨ai,r1,k1⟩:=hv.get I;obtain⟨bY,r2,k2⟩:=Jk.get I;have Z:Zx s.heap z TI TO i1 i2 l1 l2 i ai.toArray bY.toArray:=⟨a1,a2,a3,jt a4 k1,jt a5 k2,ord,o1,o2⟩;obtain⟨g0,f0,ZJ,az⟩:=a1;have hT:s.TypeIs (.ref z) "zip":=⟨_,az,rfl⟩;have lZ:ai.toArray[i]?=none\/bY.toArray[i]?=none:=by
   rcases he with q | q
   ·exact .inl (gJ (by rw[bO,<-r1.length];exact q))
   ·exact .inr (gJ (by rw[bO,<-r2.length];exact q))
  unfold pyNext;refine af (gN (dJ (name:=Str.ofString "__next__") hT cM (dt cM hT iE (NO (I.ok.hd hc) Z lZ λh' e kp ⟨o,ho,hcl⟩=>?_) (iD _))))
  refine af (nA (T:="StopIteration") (b:=true) ⟨o,ho,hcl⟩ nF (ag ⟨rfl,?_⟩));exact Inv.turns (t':=s.toks) I hf λb o hb e=>by
   simp only[aX,bH,bJ,not_or]at hb;exact kp b o hb.1 hb.2.2.1 hb.2.2.2.1 hb.2.2.2.2 e
 self:=λA i s Q E ⟨a1,_⟩ q=>(let ⟨_,_,_,a⟩:=a1;NM a q)
def Kw:Expr->Bool
 | .Tuple .. => true
 | .Name .. => true
 | _=>false
section
variable {X:Cx} {aa:Hp} {ab:Fz} {a b tg:Expr} {fa fb:Gx PV} {pos p:Pos}
theorem RT(ht:Kw tg=true)(hg:Gl X "zip")(hm:X.mg "zip"=none)(ha:PE X a (tE X aa ab fa))(hb:PE X b (tE X aa ab fb))(hs:starEach [a,b] X.env=(false,eval a X.env)::starEach [b] X.env)(wF:starEach [b] X.env=[(false,eval b X.env)]) :
  PI X tg (.Call (.Name "zip" p) [a,b] [] pos) (tI X aa ab (NL fa fb)):=by
 rintro ae s σ H R I ⟨F,st,Rp,h⟩
 have hA:=fX ha (fX hb nW wF) hs pos ae s σ H (λvs H'=>∃F' bK x y pa pb ps qs,vs=[x,y]/\Rep X.K aa ab F' bK σ H'/\bc X.K F' pa x/\bc X.K F' pb y/\mH pa=some ps/\mH pb=some qs/\∀b Q2 DY,Rep X.K aa ab DY bK σ Q2->Gr F' DY->Walk X.K DY (List.zipWith dZ ps qs) b->R b Q2) I
  ⟨F,st,Rp,h.bnd λp v F1 aL H1 R1 g1 b1 h1=>⟨F1,aL,R1,h1.bnd λq w F2 dk H2 R2 g2 b2 h2=>by
   obtain⟨o,e,z⟩:=h2.fy;obtain⟨ps,e1,e⟩:=aE e;obtain⟨qs,e2,rfl⟩:=aM e;exact⟨F2,dk,v,w,p,q,ps,qs,rfl,R2,b1.mono g2,b2,e1,e2,z⟩⟩⟩
 refine Call_ (ld_blt I hg hm boot_zip (d0 (thn hA λus s1 z9=>?_) hs (by rw[wF];rfl)))
 obtain⟨vs,H1,I1,r1,F1,aL,x,y,pa,pb,ps,qs,ev,R1,b1,b2,f3,f4,q⟩:=z9;subst ev;obtain⟨u1,u2,rfl,MS,RK⟩:=zw r1;obtain⟨c1,l1,Xs,rfl,q1,MT,k1⟩:=iS f3 b1;obtain⟨c2,l2,ZD,rfl,q2,RQ,k2⟩:=iS f4 b2;cases MS;cases RK;obtain⟨ai,v1,IC⟩:=(k1 H1 R1.sub).get I1;obtain⟨bY,v2,Pc⟩:=(k2 H1 R1.sub).get I1;have lt:∀{l:Addr} {xs:Array Value} {c:String},gC s1.heap l xs c->l<s1.heap.objs.size:=λh=>by
  rcases h with⟨_,⟨o,e,_⟩⟩ | ⟨_,⟨o,e,_⟩⟩
  ·exact ay e
  ·exact ay e
 have O7:=lt IC;have Ir:=lt Pc;refine callType_new PySem.F.called_zip (by decide) (PySem.F.typeCall_zip_2 _ _) (PySem.F.newCall_zip_2 _ _) (λobj=>CM obj _ _) PySem.F.entry_zip_new (vI l1 l2 ai.toArray bY.toArray (jl c1) (jl c2)) ⟨IC,Pc,λh1 h2 h3 h4 e1 e2 e3 e4=>?_⟩
 have z1:h1.objs.size=s1.heap.objs.size+1:=by rw[e1];exact cm ..
 have z2:h2.objs.size=s1.heap.objs.size+2:=by rw[e2,cm,z1]
 have z3:h3.objs.size=s1.heap.objs.size+3:=by rw[e3,cm,z2]
 have z4:h4.objs.size=s1.heap.objs.size+4:=by rw[e4,cm,z3]
 generalize e5:h4.push {cls:=.type "zip",data:=.fields #[.none,.bool false,.bool false,.ref h2.objs.size,.ref h3.objs.size]}=h5
 have p1:∀b o,s1.heap.get? b=some o->h1.get? b=some o:=λb o e=>by rw[e1];exact aj _ e
 have p2:∀b o,h1.get? b=some o->h2.get? b=some o:=λb o e=>by rw[e2];exact aj _ e
 have p3:∀b o,h2.get? b=some o->h3.get? b=some o:=λb o e=>by rw[e3];exact aj _ e
 have p4:∀b o,h3.get? b=some o->h4.get? b=some o:=λb o e=>by rw[e4];exact aj _ e
 have p5:∀b o,h4.get? b=some o->h5.get? b=some o:=λb o e=>by rw[<-e5];exact aj _ e
 have g5:IsZip h5 h4.objs.size h2.objs.size h3.objs.size .none:=by rw[<-e5];exact aY _ rfl
 have g4:IsPair h5 h3.objs.size .none .none:=p5 _ _ (by rw[e4];exact aY _ rfl)
 have g3:IsPair h5 h2.objs.size (.ref s1.heap.objs.size) (.ref h1.objs.size):=p5 _ _ (p4 _ _ (by rw[e3];exact aY _ rfl))
 have g2:h5.get? h1.objs.size=some {cls:=.type (jl c2),data:=.fields #[.ref l2,.int 0 0]}:=p5 _ _ (p4 _ _ (p3 _ _ (by rw[e2];exact aY _ rfl)))
 have g1:h5.get? s1.heap.objs.size=some {cls:=.type (jl c1),data:=.fields #[.ref l1,.int 0 0]}:=p5 _ _ (p4 _ _ (p3 _ _ (p2 _ _ (by rw[e1];exact aY _ rfl))))
 have TY:∀{c:Bool} {it l:Addr},h5.get? it=some {cls:=.type (jl c),data:=.fields #[.ref l,.int 0 0]}->zW h5 c it l 0:=λ{c it l} e=>by
  cases c with
  | true=>exact(show h5.IsListIter it l 0 from⟨_,e,rfl,rfl⟩)
  | false=>exact(show h5.IsTupleIter it l 0 from⟨_,e,rfl,rfl⟩)
 have I2:Inv X ae σ H1 {s1 with heap:=h5,toks:=s1.toks}:=I1.kept λb o e=>p5 _ _ (p4 _ _ (p3 _ _ (p2 _ _ (p1 _ _ e))))
 have j8:∀b,s1.heap.objs.size<=b->H1 b=none:=λb hb=>I1.hok.fresh hb
 refine⟨⟨_,g5,rfl⟩,?_⟩;show wpAny _ _ (pyIter (.ref h4.objs.size)) _ _ {s1 with heap:=h5,toks:=s1.toks}
 refine xt g5 ?_;cases tg with
 | Tuple elts x1 sU =>
  refine⟨h4.objs.size,[h4.objs.size,h2.objs.size,h3.objs.size,s1.heap.objs.size,h1.objs.size],_,_,H1,rfl,I2,E5 (TI:=h2.objs.size) (TO:=h3.objs.size) (i1:=s1.heap.objs.size) (i2:=h1.objs.size) (l1:=l1) (l2:=l2) (c1:=c1) (c2:=c2) ⟨by lia,by lia,by lia,by lia⟩ O7 Ir,⟨g5,g3,⟨_,_,g4⟩,TY g1,TY g2⟩,λb hb=>?_,q _ H1 F1 R1 (Gr.refl _) (vL k1 k2 MT RQ)⟩
  simp only[aX,bH,bJ]at hb;have Ko:s1.heap.objs.size<=b:=by rcases hb with rfl | rfl | rfl | rfl | rfl<;>lia
  have fo:=I1.nS (H':=H1) Ko (j8 b Ko);exact fo
 | Name nm sU =>
  refine⟨h4.objs.size,[h4.objs.size,h2.objs.size,h3.objs.size,s1.heap.objs.size,h1.objs.size],_,_,H1,rfl,I2,BM (TI:=h2.objs.size) (TO:=h3.objs.size) (i1:=s1.heap.objs.size) (i2:=h1.objs.size) (l1:=l1) (l2:=l2) (c1:=c1) (c2:=c2) ⟨by lia,by lia,by lia,by lia⟩ O7 Ir,⟨⟨_,_,.inl rfl,g5⟩,g3,⟨_,_,g4⟩,TY g1,TY g2⟩,λb hb=>?_,q _ H1 F1 R1 (Gr.refl _) (vL k1 k2 MT RQ)⟩
  simp only[aX,bH,bJ]at hb;have Ko:s1.heap.objs.size<=b:=by rcases hb with rfl | rfl | rfl | rfl | rfl<;>lia
  have fo:=I1.nS (H':=H1) Ko (j8 b Ko);exact fo
 | _=>cases ht
end
end L2.U
namespace PySem
open PyProof.Rows
def jn(l:List Str)(v:Str):List Str:=if l.any (· == v)=true then l else l++[v]
theorem E6(l:List Str)(v k:Str):(l.any (· == k) || decide (k=v))=(jn l v).any (· == k):=by
 unfold jn;by_cases hk:k=v
 ·subst hk;split
  ·rename_i hc;rw[hc];simp
  ·simp
 ·have:(v==k)=false:=by simpa using bA hk
  split<;>simp[hk,this]
theorem vM(l:List Str)(v:Str):(if l.any (· == v)=true then l.length else l.length+1)=(jn l v).length:=by
 unfold jn;split<;>simp
def oN(val:Nat->Str):Nat->List Str
 | 0=>[]
 | i+1=>jn (oN val i) (val i)
def oO(val:Nat->Str):∀i,(oN val i).length<=i
 | 0=>ar _
 | i+1=>by
  have:=oO val i;unfold oN;rw[<-vM];split<;>lia
section
variable {prog:Program} {w:World} {A:Around} {R:Result->Shared->Prop} {I:Addr} {fp wr:List Addr} {G:Array GenState->Array GenState->Prop} {n:Nat} {P:Nat->Value->Prop} {St:Nat->Shared->Prop}
abbrev BN(prog:Program)(w:World)(h:Heap)(S:Addr)(ks:List Str):Prop:=h.SetOf (strKind prog w) S (λk=>ks.any (· == k)) ks.length
def BO(W:WalksS prog w A.in1 I fp wr G n P St)(S:Addr)(hSf:S∉fp)(val:Nat->Str)(yt:∀i v,P i v->∃t,v=.str (val i) t)(hn:n<=1000) :
  ∀(k i:Nat) (s:Shared),n-i=k->i<=n->St i s->BN prog w s.heap S (oN val i) ->
   (∀s',Moved (S::wr) G s s'->BN prog w s'.heap S (oN val n)->R (.ok (.ret .none)) s') ->
   codeAny (model prog w) A (.builtin "set.update.loop" ⟨[.ref S,.ref I],[]⟩) R s:=by
 have RB:S∉wr:=λh=>hSf (W.sub _ h)
 have tK:∀b∈wr,b∈S::wr:=by grind
 intro k;induction k with
 | zero =>
  intro i s hk hi j9 hS hR;have RC:i=n:=by lia
  subst RC;refine iF F.entry_set_update_loop ?_;rw[jx wU _];refine af (W.done s _ _ j9 λs' hm=>?_)
  exact ag (hR s' (hm.mono tK) (by
   obtain⟨o,es,ep,t,ho,rest⟩:=hS;exact⟨o,es,ep,t,hm.heap S _ RB ho,rest⟩))
 | succ k ih =>
  intro i s hk hi j9 hS hR;have vn:i<n:=by lia
  refine iF F.entry_set_update_loop ?_;rw[jx wU _];refine af (W.item i s _ _ vn j9 λv s' hP EN hm=>?_)
  obtain⟨t,rfl⟩:=yt i v hP;have wG:BN prog w s'.heap S (oN val i):=by
   obtain⟨o,es,ep,t,ho,rest⟩:=hS;exact⟨o,es,ep,t,hm.heap S _ RB ho,rest⟩
  refine af (bX ?_);unfold setAdd;refine bX ?_;refine af ((strKind prog w).pyHash (nJ _ _ _ _) ?_);have NA:=oO val i;have ZK:scanBound=4096:=rfl;refine wpAny_setAddHashed_of (nJ _ _ _ _) rfl wG (by lia) λh' O9 VT=>?_
  have ZL:BN prog w h' S (oN val (i+1)):=by
   exact SetOf_congr VT (λk'=>E6 _ _ _) (vM _ _)
  refine ag ⟨jE wU _,ih (i+1) _ (by lia) vn (W.frame _ s' _ _ EN (Nat.le_succ _) λb hb o e=>?_) ZL λL0 Nh Ni=>?_⟩
  ·rw[O9.2 b (λh:b=S=>hSf (by grind))];exact e
  ·refine hR L0 (Moved.trans W.gtrans ((hm.mono tK).then_heap (Nat.le_succ _) λb o hb e=>?_) Nh) Ni
   rw[O9.2 b (λh:b=S=>hb (by grind))];exact e
end
section
variable {prog:Program} {w:World} {A:Around} {E:Value->Shared->Prop} {s:Shared}
set_option maxHeartbeats 3200000 in
theorem BP(hh:A.handled=none)(hl:s.heap.IsList l items)(val:Nat->Str)(hi:∀(i:Nat) (v:Value),items[i]?=some v->∃t,v=.str (val i) t)(hb:items.size<=1000)
  (h:∀(h':Heap) (tk:Nat),BN prog w h' s.heap.objs.size (oN val items.size)->(∀b o,b<s.heap.objs.size->s.heap.get? b=some o->h'.get? b=some o)->Q (.ref s.heap.objs.size) {s with heap:=h',toks:=tk}) :
  wpAny (model prog w) A (call (.type "set") [.ref l]) Q E s:=by
 obtain⟨c,tl,ZM⟩:=F.called_set.mro;have XJ:=F.called_set.made;have tK:=F.called_set.sub;refine wpAny_call (codeAny_of_tree ?_);refine ag ⟨Code.quiet_builtin _ (by decide +kernel),iF F.entry_type_call ?_⟩
 rw[Around.under_plain (weight_type_call_type "set" [.ref l] []) rfl];have h1:=F.called_set.notType;have h2:=F.called_set.canCreate;have hct:=F.typeCall_set_1 (.ref l)
 repeat (any_goals (first | assumption | wp_step))
 refine lJ (p0 (.ref l) (E:=E) (Q₁:=λobj s₁=>obj=.ref s.heap.objs.size/\s₁={s with heap:=s.heap.push {cls:=.type "set",dict:=none,data:=.set #[] 0 (.fresh 0 0 (!BT w))}}) ⟨rfl,rfl⟩) λr s₁ hr=>?_
 cases r with
 | error e=>exact hr
 | ok fl =>
  cases fl with
  | ret obj =>
   obtain⟨rfl,rfl⟩:=hr;obtain⟨led,V0⟩:∃led,led = !BT w:=⟨_,rfl⟩
   rw[<-V0];have hS:(s.heap.push {cls:=.type "set",dict:=none,data:=.set #[] 0 (.fresh 0 0 led)}).get? s.heap.objs.size=some {cls:=.type "set",dict:=none,data:=.set #[] 0 (.fresh 0 0 led)}:=aY _ rfl
   have hT:Shared.TypeIs {s with heap:=s.heap.push {cls:=.type "set",dict:=none,data:=.set #[] 0 (.fresh 0 0 led)}} (.ref s.heap.objs.size) "set":=⟨_,hS,rfl⟩
   have hli:=F.called_set.init.lookup;have hbi:=F.called_set.init.bind (.ref s.heap.objs.size)
   repeat (any_goals (first | assumption | wp_step))
   refine lJ (codeAny_call_builtin (R:=wants (λr A0=>r=.none/\∃h' tk,A0={s with heap:=h',toks:=tk} /\
     BN prog w h' s.heap.objs.size (oN val items.size) /\
     (∀b o,b<s.heap.objs.size->s.heap.get? b=some o->h'.get? b=some o)) E) F.called_set.init.plain F.entry_set_init (check_set_init_1 hT ?_)) λV1 A0 E7=>?_
   ·obtain⟨ol,jk,hcl,nl,Kj⟩:=hl;obtain⟨VE,Ku,RA,EM⟩:=ol;simp only at hcl Kj;subst hcl;subst Kj;have V2:(s.heap.push {cls:=.type "set",dict:=none,data:=.set #[] 0 (.fresh 0 0 led)}).get? l=some {cls:=.type "list",dict:=Ku,data:=.seq items nl,slots:=EM}:=aj _ jk
    have ZN:=F.sub_list_set;have ZO:=F.sub_list_frozenset;have zS:(Value.type "list"==Value.type "dict")=false:=by decide
    have NA:(s.heap.push {cls:=.type "set",dict:=none,data:=.set #[] 0 (.fresh 0 0 led)}).IsList l items:=⟨_,V2,rfl,nl,rfl⟩
    unfold Builtin.«set.__init__» noKeywords Builtin.Frozenset.updateFrom
    generalize ZP:pyIter=PI
    wp_walk
    subst ZP;refine lx NA ?_;refine af (wpAny_runValue ?_);have Nj:l<s.heap.objs.size:=ay jk;refine BO ((Walks.list (by simp[hh]) _ l (by rw[cm];exact aJ (Nat.lt_succ_of_lt Nj)) items).toS) s.heap.objs.size (by
     rw[cm];simp only[aX,iB,bH,bJ,not_or];exact⟨aJ (lC _),lI Nj⟩) val hi hb (items.size-0) 0 _ (by lia) (gk _)
     ⟨⟨_,aY _ rfl,rfl,rfl⟩,(NA.push _)⟩ ?ZQ ?hR
    case ZQ =>
     exact PySem.Obj.SetObjOf.setOf (setObjOf_fresh (knd:=strKind prog w) led) (aj _ hS) (show(0:Nat)<scanBound by decide)
    case hR =>
     intro s' hm wG;obtain⟨h',g',d',EO,Hv⟩:=s';have eg:g'=s.gens:=hm.gens;have ed:d'=s.drawn:=hm.drawn;have eo:Hv=s.os:=hm.os;subst eg;subst ed;subst eo;show wpAny _ _ _ _ _ _;refine ag ?_;show wpAny _ _ (ret Value.none) _ _ _;refine ag ⟨rfl,h',EO,rfl,wG,λb o hb e=>?_⟩
     have Pa:b≠s.heap.objs.size:=by grind
     have VJ:b≠(s.heap.push {cls:=.type "set",dict:=none,data:=.set #[] 0 (.fresh 0 0 led)}).objs.size:=by
      rw[cm];exact aJ (Nat.lt_succ_of_lt hb)
     exact hm.heap b o (by grind) (aj _ (aj _ e))
   ·cases V1 with
    | error e=>exact E7
    | ok RU =>
     cases RU with
     | ret r =>
      obtain⟨rfl,h',tk,rfl,wG,ZR⟩:=E7
      repeat (any_goals (first | assumption | wp_step))
      exact h _ _ wG ZR
     | _=>exact E7.elim
  | _=>exact hr.elim
end
end PySem
namespace L2.U
open PySem PySem.Spec PyProof.Rows
def BQ(ks:List Str):List Str:=ks.foldl jn []
def E8:PV->Option PV
 | .nd .lst ps=>if ps.length<=1000 then(bj vw ps).map λks=>.int ((BQ ks).length:Nat)else none
 | _=>none
def NP(fa:Gx PV):Gx PV:=bnd fa λp=>fy (E8 p)
theorem oP(ks:List Str):∀i,i<=ks.length->oN (λi=>ks.getD i ⟨#[]⟩) i=(ks.take i).foldl jn []
 | 0,_=>by simp[oN]
 | i+1,h=>by
  rw[List.take_add_one,List.foldl_append,<-oP ks i (by lia)]
  have:ks[i]?=some (ks[i]'(by lia)):=b9 _
  rw[this];show jn _ (ks.getD i ⟨#[]⟩)=jn _ _;rw[List.getD,this];rfl
theorem vN{α β:Type}{f:α->Option β}:∀{ps:List α} {ks:List β},bj f ps=some ks->ks.length=ps.length
 | [],_,h=>by cases h;rfl
 | p::ps,ks,h=>by
  obtain⟨k,r,h1,h2,rfl⟩:=cC h;rw[cF,cF,vN h2]
theorem Al{α β:Type}{f:α->Option β}:∀{ps:List α} {ks:List β},bj f ps=some ks->∀(i:Nat) (p:α),ps[i]?=some p->∃k,ks[i]?=some k/\f p=some k
 | [],_,h,i,p,e=>by cases e
 | q::ps,ks,h,i,p,e=>by
  obtain⟨k,r,h1,h2,rfl⟩:=cC h;cases i with
  | zero=>cases e;exact⟨k,rfl,h1⟩
  | succ i=>exact Al h2 i p e
section
variable {X:Cx} {aa:Hp} {ab:Fz} {e:Expr} {fe:Gx PV} {pos p ou zp:Pos}
def NQ(hh:X.A.handled=none)(Nn:Gl X "len")(Np:X.mg "len"=none)(hg:Gl X "set")(hm:X.mg "set"=none)(he:PE X e (tE X aa ab fe))(hs:starEach [e] X.env=[(false,eval e X.env)]) :
  PE X (.Call (.Name "len" p) [.Call (.Name "set" zp) [e] [] ou] [] pos) (tE X aa ab (NP fe)):=by
 rintro ae s σ H Q I ⟨F,st,R,h⟩
 refine Call_ (ld_blt I Nn Np PySem.boot_len ?_);refine CI (ox rfl ?_) rfl rfl;have hA:=he ae s σ H (λv H1=>∃n ps vs ks c F1 aL,v=.ref c/\Rep X.K aa ab F1 aL σ H1/\gq X.K F1.F c vs/\ao X.K F1 ps vs/\ps.length<=1000/\bj vw ps=some ks/\n=(BQ ks).length/\Q (.int (n:Nat)) H1) I
  ⟨F,st,R,h.bnd λq v F1 aL H1 R1 g1 b1 h1=>by
   obtain⟨o,e,z⟩:=h1.fy;unfold E8 at e;split at e
   ·rename_i ps;obtain⟨hl,e⟩:=bE e;obtain⟨ks,e1,rfl⟩:=aM e;obtain⟨c,vs,rfl,hs,hb⟩:=cw.mp b1;exact⟨_,ps,vs,ks,c,F1,aL,rfl,R1,hs,hb,hl,e1,rfl,z _ _ _ R1 (Gr.refl _) (aw.mpr rfl)⟩
   ·cases e⟩
 refine Call_ (ld_blt I hg hm (show bootBuiltins "set"=some (.type "set") by decide +kernel) (d0 (ox hs (thn hA λu s1 ⟨v,H1,I1,r1,n,ps,vs,ks,c,F1,aL,ev,R1,NA,b1,hl,hk,hn,q⟩=>?_)) hs rfl))
 subst ev;cases r1;obtain⟨ai,r,pl,_⟩:=I1.list (gw R1.sub NA).sq;have cX:ai.length=ps.length:=by rw[<-r.length,b1.length]
 have XM:=vN hk;have hsz:ai.toArray.size=ks.length:=by rw[bO,cX,XM]
 refine BP (items:=ai.toArray) hh pl.isList (λi=>ks.getD i ⟨#[]⟩) (λi v hv=>?_) (by rw[hsz,XM];exact hl) λh' tk hS kp=>?_
 ·rw[jw]at hv;have hi:i<ps.length:=by rw[<-cX];exact(dI.mp hv).1
  obtain⟨k,e1,e2⟩:=Al hk i _ (b9 hi);obtain⟨x,hx,bx⟩:=b1.get (b9 hi);rw[jd e2]at bx;cases bf.mp bx;obtain⟨u,hu,t,ru⟩:=r.get hx;rw[hv]at hu;cases hu;refine⟨t,?_⟩;rw[ru,List.getD,e1];rfl
 ·rw[hsz,oP ks _ (ar _),se]at hS;have I2:Inv X ae σ H1 {s1 with heap:=h',toks:=tk}:=I1.kept λb o e=>kp b o (ay e) e
  obtain⟨o,es,ep,t,ho,Vb,hd,hel,ZT,hb,hf,P9⟩:=hS;have TF:(BQ ks).length<=1000:=by
   have:=oO (λi=>ks.getD i ⟨#[]⟩) ks.length
   rw[oP ks _ (ar _),se]at this;unfold BQ
   lia
  refine call_len_set ho Vb hd hf (by rw[P9];unfold BQ at TF;have h63:(2:Int)^63=9223372036854775808:=(by decide);lia) ?_
  refine⟨.int es.size,H1,I2.tok _,⟨_,rfl⟩,?_⟩;rw[P9];rw[hn]at q;exact q
end
structure Gm where
 sc:List (Str×NameKind)
 N:List Str
 own:Bool
 fns:List (Str×Nat)
 call:Str->mI
 cons:List (Str×PV)
 cb:List Str
 tabs:List (Str×List (Str×Str))
 cP:List (Str×List (Str×PV))
 cls:List (Str×Nat)
 make:Str->mI
 clss:List Str
 flds:List Str
 /-- what V3 in a cell: 1 a list,2 a list of cells,10 a dict JX keys T5 tuples -/
 Pq:List (Str×Nat)
 E9:Option ((PV->Gx PV)->Nat->mI)
 Fb:Option (Nat×(PV->Gx PV))
def slot(Γ:Gm)(x:Str):Option Nat:=Γ.N.findIdx? (· == x)
def Hf(Γ:Gm)(x:Str):Bool:=match Γ.sc.lookup x with | some .local=>true | some .cell=>true | some .free=>true | _=>false
def Pd(Γ:Gm)(x:Str):Bool:=match Γ.sc.lookup x with | some .local=>true | some .cell=>Γ.own | _=>false
def p9(Γ:Gm)(x:Str):Bool:=match Γ.sc.lookup x with | some .globalImplicit=>true | _=>false
def eZ(x:Str):Bool:=!(x==("__debug__":Str))&&!(x==("__classdict__":Str))&&!(x==("__name__":Str))
def md(Γ:Gm)(x:Str):Nat:=(Γ.Pq.lookup x).getD 0
def BR(m:Nat):Nat:=if m<10 then m-1 else 0
def RV(X:Cx)(k:Nat)(fns:List (Str×Nat))(call:Str->mI):Prop:=∀x n,fns.lookup x=some n->∃j f fd ps,j<=k/\FnOk X.prog X.w X.K X.mg X.base (kc X.prog X.w) j f fd ps (BA X.K n (call x))/\X.mg x=some (.ref f)/\W.keepIn X.K (.ref f)=true/\fG X.K fd ps []
structure Kx (Γ:Gm) (X:Cx) (rs:(PV->Gx PV)->Nat->mI):Prop where
 ex:∃(st:Stmt) (fs:Addr) (XN:FuncData) (pr Ns:List Str) (k:Nat) (rb:(PV->Gx PV)->Nat->Gx ek),rs=(λω n=>il (rb ω n) Ns.length)/\AM X.K "spread" "spread" st fs XN/\X.mg "spread"=some (.ref fs)/\fG X.K XN pr []/\cV Ns pr (aA st)/\pr.length=2/\dP (k+2) X.A /\
  (∀(eE:Value) (A:Around) (aB:List Env) (s:Shared) (H:Hp) (E:XK) (aa:Hp) (ab:Fz) (n:Nat) (ω:PV->Gx PV),dP (k+1) (A.deeper (envOfC "spread" (aA st) s.heap.objs.size fs eE))->EL (fH (kc X.prog X.w) X.prog X.w X.K X.mg X.base Ns "spread" (aA st) fs eE A aB s H E) aa ab n ω ->
   PSs (fH (kc X.prog X.w) X.prog X.w X.K X.mg X.base Ns "spread" (aA st) fs eE A aB s H E) (cW st) (tS (fH (kc X.prog X.w) X.prog X.w X.K X.mg X.base Ns "spread" (aA st) fs eE A aB s H E) aa ab (rb ω n))) /\
  RV X k Γ.fns Γ.call
 lam:Ry X
structure GOk (Γ:Gm) (X:Cx) (aa:Hp) (ab:Fz):Prop where
 names:X.env.scope.names=Γ.sc
 N:X.N=Γ.N
 nd:X.N.Nodup
 kind:X.env.scope.kind=.function
 calm:X.calm=true
 hd:X.A.handled=none
 un:X.A.units+1150<cLine
 own:Γ.own=true->∀x,X.fn x=true
 fns:EJ X Γ.fns Γ.call
 cons:∀x p,Γ.cons.lookup x=some p->∃u v,X.mg x=some u/\RelV v u/\∀F,bc X.K F p v
 cb:∀x,Γ.cb.contains x=true->X.mg x=none
 tabs:∀T rows,Γ.tabs.lookup T=some rows->Ab X.K X.mg X.w.params T rows
 cP:∀T rows,Γ.cP.lookup T=some rows->ot X.K X.mg X.w.params T rows
 ns:∀x a,W.nsIn X.K mainGlobals x=some (some (.ref a))->X.mg x=some (.ref a)
 Pe:EK X.K Γ.clss Γ.flds
 cls:∀C n,Γ.cls.lookup C=some n->∃k Ca f fd ps,ClsAt X.K C (.ref Ca)/\AL X.K Ca/\Mk X.K Ca f/\FnOk X.prog X.w X.K X.mg X.base (kc X.prog X.w) k f fd ps (BA X.K n (Γ.make C))/\dP (k+1) X.A/\X.mg C=some (.ref Ca)/\fG X.K fd ps []
 E9:∀rs,Γ.E9=some rs->Kx Γ X rs
 Fb:∀n ω,Γ.Fb=some (n,ω)->EL X aa ab n ω
def aQ:Expr->Bool
 | .Starred _ _=>false
 | .Set _ _ _=>false
 | _=>true
def mX:Expr->Bool
 | .Slice _ _ _ _=>false
 | _=>true
def Am:Expr->Bool
 | .Tuple _ _ _=>false
 | .ListComp _ _ _ _=>false
 | .SetComp _ _ _ _=>false
 | .DictComp _ _ _ _ _=>false
 | _=>true
def iX:Expr->Bool
 | .ListComp _ _ _ _=>false
 | .SetComp _ _ _ _=>false
 | .DictComp _ _ _ _ _=>false
 | _=>true
def tV:Expr->Bool
 | .Name _ _=>true
 | .Subscript _ _ _=>true
 | .Attribute _ _ _=>true
 | .Call _ (_::_) _ _=>true
 | _=>false
def kT(h:tV e=true):attributeBase e f env (eval e env)=eval e env:=by
 cases e with
 | Call f as ks=>cases as with
  | nil=>cases h
  | cons=>cases f<;>rfl
 | _=>first | rfl | cases h
def tW(h:Am e=true):iX e=true:=by
 cases e<;>first | rfl | cases h
def yA:Expr->Bool
 | .UnaryOp .Not _ _=>false
 | .BoolOp _ _ _=>false
 | .IfExp _ _ _ _=>false
 | .Compare _ _ _ _=>false
 | _=>true
def aK(h:aQ e=true)(es:List Expr)(env:Env):starEach (e::es) env=(false,eval e env)::starEach es env:=by
 cases e<;>first | rfl | cases h
def dB(h:aQ e=true)(op:CmpOp):behindInMarks op e=false:=by
 cases e<;>first | rfl | cases h
def fN(h:aQ e=true)(env:Env)(x:Value):foldedSetIterable e env x=pure x:=by
 cases e<;>first | rfl | cases h
def oQ(h:mX e=true):kr e:=by
 intro o i;cases e<;>first | rfl | cases h
def Fc(h:yA e=true)(env:Env)(hZ:Sem Value):isTrue e env hZ=(do let v <-hZ;standAt e.pos;holding [v] (truthy v)):=by
 cases e with
 | UnaryOp op a p=>cases op<;>first | rfl | cases h
 | BoolOp _ _ _=>cases h
 | IfExp _ _ _ _=>cases h
 | Compare _ _ _ _=>cases h
 | _=>rfl
def iY(h:iX e=true)(t:Option Expr)(l:Nat)(env:Env):swapsWith e t l env=pure false:=by
 cases e<;>first | rfl | cases h
def dC(h:es.all aQ=true)(env:Env)(pos:Pos):(backTo pos (starEach es env)).any (·.1)=false:=by
 induction es with
 | nil=>rfl
 | cons e es ih =>
  rw[fE,aC]at h;rw[aK h.1];exact ih h.2
def yB(h:es.all aQ=true)(env:Env)(pos:Pos):(backTo pos (starEach es env)).all (λx=>!x.1)=true:=by
 induction es with
 | nil=>rfl
 | cons e es ih =>
  rw[fE,aC]at h;rw[aK h.1];exact ih h.2
def An(h:es.all aQ=true)(hl:es.length<30):((backTo cp (starEach es env)).all (λx=>!x.1)&&(backToKw cp (keywordEach [] env)).all (λx=>x.1.isSome)
   && decide (es.length+([]:List Keyword).length+(if([]:List Keyword).isEmpty then 0 else 1)<30))=true:=by
 rw[yB h];simp only[bz,aC,dr];exact⟨rfl,hl⟩
def eN(h:eZ x=true):(x==("__debug__":Str))=false/\(x==("__classdict__":Str))=false/\x≠"__name__":=by
 unfold eZ at h;simp only[aC,xh]at h;exact⟨h.1.1,h.1.2,by simpa using h.2⟩
noncomputable def tY:Nat->Gm->Expr->Option (Tg×List Nat)
 | 0,_,_=>none
 | n+1,Γ,e=>match e with
  | .Name x _=>if Pd Γ x=true then(slot Γ x).map λi=>(di i,[i])else none
  | .Tuple es _ _=>(es.foldr (λe r=>(tY n Γ e).bind λg=>r.map λgs=>(fZ g.1 gs.1,g.2++gs.2)) (some (td,[]))).map λgs=>(pU es.length gs.1,gs.2)
  | _=>none
def Fe(h:slot Γ x=some i):Γ.N[i]?=some x:=by
 unfold slot at h;obtain⟨hi,hp,_⟩:=CG.mp h;rw[b9 hi];exact eX some (aH hp)
section
variable {Γ:Gm} {X:Cx} {x:Str} {pos:Pos} {aa:Hp} {ab:Fz}
def GOk.V4(G:GOk Γ X aa ab)(h:Hf Γ x=true):PD X.env.scope x:=by
 unfold Hf at h;unfold PD;rw[G.names];split at h<;>simp_all
def GOk.NR(G:GOk Γ X aa ab)(h:Pd Γ x=true):J1 X.env.scope x/\(X.fn x=true\/X.env.scope.names.lookup x=some .local):=by
 unfold Pd at h;unfold J1;rw[G.names];split at h
 ·grind
 ·rename_i z;exact⟨.inr z,.inl (G.own h x)⟩
 ·cases h
def GOk.fz(G:GOk Γ X aa ab)(h:p9 Γ x=true):Gl X x:=by
 unfold p9 at h;show X.env.scope.names.lookup x=_;rw[G.names];split at h
 ·assumption
 ·cases h
def GOk.qV(G:GOk Γ X aa ab)(h:slot Γ x=some i):X.N[i]?=some x:=by
 rw[G.N];exact Fe h
theorem kU(G:GOk Γ X aa ab):∀(n:Nat) (e:Expr) (g:Tg×List Nat),tY n Γ e=some g->PG X e (tG X.K aa ab g.1)/\KG g.2 g.1/\(∀env:Env,(assignEach [e] env).map (·.2)=[assign e env])/\∀(es:List Expr) (env:Env),assignEach (e::es) env=(false,assign e env)::assignEach es env
 | 0,_,_,h=>by cases h
 | n+1,e,g,h=>by
  cases e with
  | Name x p =>
   have h:=h;obtain⟨hs,h⟩:=bE h;obtain⟨i,z,rfl⟩:=aM h;obtain⟨h1,h2⟩:=G.NR hs;exact⟨Mo i (Hb G.nd (G.qV z) h1 h2),Iu i,λ_=>rfl,λ_ _=>rfl⟩
  | Tuple es k p =>
   have all:∀es gs,es.foldr (λe r=>(tY n Γ e).bind λg=>r.map λgs=>(fZ g.1 gs.1,g.2++gs.2)) (some (td,[]))=some gs ->
     PGs X es (QH X.K aa ab gs.1)/\QZ gs.2 gs.1/\∀env:Env,(assignEach es env).length=es.length/\(assignEach es env).findIdx? (·.1)=none:=by
    intro es;induction es with
    | nil =>
     intro gs h;cases h;exact⟨Mp,Iv,λenv=>⟨rfl,rfl⟩⟩
    | cons e es ih =>
     intro gs h;rw[List.foldr_cons]at h;obtain⟨g1,e1,h⟩:=aE h;obtain⟨g2,z,rfl⟩:=aM h;obtain⟨a1,a2,a3,a4⟩:=kU G n e g1 e1;obtain⟨b1,b2,b3⟩:=ih g2 z;refine⟨HQ a1 b1 (by grind),Ee a2 b2,λenv=>?_⟩
     rw[a4];obtain⟨c1,c2⟩:=b3 env;exact⟨by rw[cF,cF,c1],by grind⟩
   have h:=h;obtain⟨gs,z,rfl⟩:=aM h;obtain⟨b1,b2,b3⟩:=all es gs z;exact⟨QI G.calm b1 (b3 _).1 (b3 _).2,MO b2,λ_=>rfl,λ_ _=>rfl⟩
  | _=>cases h
def qW(G:GOk Γ X aa ab)(hn:eZ x=true)(hv:Hf Γ x=true)(hs:slot Γ x=some i):PE X (.Name x pos) (Lq i) :=
 pe_var (G.qV hs) (G.V4 hv) (eN hn).1 (eN hn).2.1
end
def tZ(x:Str):Option GC :=
 if x==("len":Str)then some jK
 else if x==("tuple":Str)then some D2
 else if x==("int":Str)then some D3
 else if x==("sum":Str)then some H0
 else if x==("str":Str)then some HZ
 else if x==("any":Str)then some IY
 else if x==("all":Str)then some p7
 else none
def Ff:bootBuiltins "sum"=some (.builtin "sum"):=by kernel_rfl
set_option maxHeartbeats 4000000 in
theorem NS(h:tZ x=some g)(hh:X.A.handled=none)(hg:Gl X x)(hm:X.mg x=none)(ha:PA X (a::es) (tA X aa ab ts))
  (he:starEach (a::es) X.env=(false,eval a X.env)::starEach es X.env) (kn:(backTo pos (starEach es X.env)).any (·.1)=false):PE X (.Call (.Name x p) (a::es) [] pos) (tE X aa ab (yi g ts)):=by
 unfold tZ at h;split at h
 ·rename_i e;cases h;have e:=aH e;subst e;exact(iL Bi hg hm PySem.boot_len ha (by decide) (by decide) he kn).imp λ_ _ _ h=>gV h
 ·split at h
  ·rename_i e;cases h;have e:=aH e;subst e;exact(lN Bj hg hm (gW .tuple) ha (by decide) (by decide) he kn).imp λ_ _ _ h=>gV h
  ·split at h
   ·rename_i e;cases h;have e:=aH e;subst e;exact(lN Bk hg hm (gW .int) ha (by decide) (by decide) he kn).imp λ_ _ _ h=>gV h
   ·split at h
    ·rename_i e;cases h;have e:=aH e;subst e;exact(iL (Bn hh) hg hm Ff ha (by decide) (by decide) he kn).imp λ_ _ _ h=>gV h
    ·split at h
     ·rename_i e;cases h;have e:=aH e;subst e;exact(lN Bm hg hm (gW .str) ha (by decide) (by decide) he kn).imp λ_ _ _ h=>gV h
     ·split at h
      ·rename_i e;cases h;have e:=aH e;subst e;exact(iL (BF hh) hg hm EU ha (by decide) (by decide) he kn).imp λ_ _ _ h=>gV h
      ·split at h
       ·rename_i e;cases h;have e:=aH e;subst e;exact(iL (BH hh) hg hm ET ha (by decide) (by decide) he kn).imp λ_ _ _ h=>gV h
       ·cases h
def Fg:ScopeKind->Bool
 | .function=>true
 | _=>false
def qX(scope:Scope):List Str:=(scope.names.filter λy=>match y.2 with | .local=>true | .free=>true | _=>false).map (·.1)
def fO(Γ:Gm)(scope:Scope):List (Option Nat):=(qX scope).map λx=>match scope.names.lookup x with | some .free=>slot Γ x | _=>none
def yC(Γ:Gm)(scope:Scope):List (Str×NameKind):=scope.names.map fun(n,k)=>if(k==NameKind.free&&Γ.sc.lookup n==some .cell)then(n,NameKind.cell)else(n,k)
def qY(Γ:Gm)(scope:Scope):Gm:={Γ with sc:=yC Γ scope,N:=qX scope,own:=false,E9:=none,Fb:=none}
def oR(Γ:Gm)(scope:Scope)(L:List Nat):Bool :=
 Fg scope.kind&&scope.names.all (λy=>match y.2 with
  | .cell=>false
  | .local=>(match scope.names.lookup y.1 with | some .local=>true | _=>false)
  | .free=>(match Γ.sc.lookup y.1 with | some .cell=>true | some .free=>true | _=>false)
  | _=>true)&&decide (qX scope).Nodup&&L.all λi=>match(fO Γ scope)[i]? with | some none=>true | _=>false
section
variable {Γ:Gm} {X:Cx} {scope:Scope} {L:List Nat} {aa:Hp} {ab:Fz}
def kW(h:oR Γ scope L=true):scope.kind=.function/\(∀y∈scope.names,(match y.2 with
  | .cell=>false
  | .local=>(match scope.names.lookup y.1 with | some .local=>true | _=>false)
  | .free=>(match Γ.sc.lookup y.1 with | some .cell=>true | some .free=>true | _=>false)
  | _=>true)=true)/\(qX scope).Nodup/\∀i∈L,(fO Γ scope)[i]?=some none:=by
 unfold oR at h;simp only[aC,d9,dr]at h;obtain⟨⟨⟨h1,h2⟩,h3⟩,h4⟩:=h;refine⟨?_,h2,h3,λi hi=>?_⟩
 ·unfold Fg at h1;split at h1
  ·assumption
  ·cases h1
 ·grind
def yD(G:GOk Γ X aa ab)(h:oR Γ scope L=true):gA X (qX scope) (fO Γ scope) scope:=by
 obtain⟨h1,h2,h3,h4⟩:=kW h;refine⟨h1,λy hy z=>?_,λy hy z=>?_,λy hy z=>?_,by unfold fO;rw[ak],λi j x hl hx=>?_⟩
 ·grind
 ·grind
 ·have:=h2 y hy;rw[z]at this;simp only at this;show X.env.scope.names.lookup y.1=_\/X.env.scope.names.lookup y.1=_;rw[G.names];split at this
  ·grind
  ·grind
  ·cases this
 ·unfold fO at hl;rw[bR,hx]at hl;have hl:(match scope.names.lookup x with | some .free=>slot Γ x | _=>none)=some j:=by grind
  split at hl
  ·exact⟨G.qV hl,by assumption⟩
  ·cases hl
def Fh(G:GOk Γ X aa ab)(h:oR Γ scope L=true)(C:Addr)(s:Shared)(H:Hp)(fp:List Addr)(V5:Hp)(V6:Fz):GOk (qY Γ scope) (bQ X (qX scope) scope C s H fp) V5 V6 where
 names:=by
  show(relabel scope X.env).names=yC Γ scope;have e:∀n,X.env.kindOf n=Γ.sc.lookup n:=λn=>by show X.env.scope.names.lookup n=_;rw[G.names]
  unfold yC relabel;simp only[G.kind,e]
  congr 1
  funext y
  obtain⟨n,k⟩:=y;simp
 N:=rfl
 nd:=(kW h).2.2.1
 kind:=by
  exact(kW h).1
 calm:=G.calm
 hd:=G.hd
 un:=G.un
 own:=λz=>by cases z
 fns:=G.fns
 cons:=G.cons
 cb:=G.cb
 tabs:=G.tabs
 cP:=G.cP
 ns:=G.ns
 Pe:=G.Pe
 cls:=G.cls
 E9:=λ_ z=>by cases z
 Fb:=λ_ _ z=>by cases z
end
def bM{α:Type}:Gx α:=λ_=>none
section
variable {X:Cx} {aa:Hp} {ab:Fz} {e:Expr} {es:List Expr}
def qZ{C:Prop}(h:tX X aa ab rl bM σ H Q):C:=by
 obtain⟨F,st,R,r,z,_⟩:=h;cases z
def aV:PE X e (tE X aa ab bM):=λ_ _ _ _ _ _ h=>qZ h
def q0:PT X e (tT X aa ab bM):=λ_ _ _ _ _ _ h=>qZ h
def Fj:PW X e (tT X aa ab bM):=λ_ _ _ _ _ _ _ h=>qZ h
def Kz:PA X es (tA X aa ab bM):=λ_ _ _ _ _ _ _ h=>qZ h
def vO{tg:Expr}:PI X tg e (Bw X aa ab bM):=λ_ _ _ _ _ _ h=>qZ h
end
def iZ(m n:Nat)(g:mI)(as:List PV):Gx PV:=λst=>if((m==0)&&(st.h.isEmpty || aT as))=true then jO n g as st else ED n g as st
def V7(G:FnOk X.prog X.w X.K X.mg X.base (kc X.prog X.w) k f fd ps (BA X.K n g))(hr:dP k X.A)(hb:fG X.K fd ps []):IG X f (iZ m n g):=by
 rintro aa H ab F st σ ae s Q as us vs I R b r ⟨q,e1,e2⟩
 unfold iZ at e1;split at e1
 ·exact M3 G hr hb aa H ab F st σ ae s Q as us vs I R b r ⟨q,e1,e2⟩
 ·exact Vu G hr hb aa H ab F st σ ae s Q as us vs I R b r ⟨q,e1,e2⟩
def RW(Γ:Gm):Expr->Nat
 | .Name x _=>BR (md Γ x)
 | .Attribute _ f _=>BR (md Γ f)
 | _=>0
def V8(Γ:Gm)(g:Str)(o:Expr):Nat:=if g==("get":Str)then 0 else RW Γ o
def t5(e:Expr):Option {x:Option Expr×Option Expr // ∃p,e=.Slice x.1 x.2 none p}:=match e with
 | .Slice lo hi none p=>some ⟨(lo,hi),p,rfl⟩
 | _=>none
def yE(e:Expr):Option {x:Option Expr×Expr // ∃p,e=.Slice x.1 none (some x.2) p}:=match e with
 | .Slice lo none (some m) p=>some ⟨(lo,m),p,rfl⟩
 | _=>none
def V9:Const->Gx PV
 | .int i=>bV (.int i)
 | .bool i=>bV (.bl i)
 | .none=>bV .aN
 | .str i=>bV (.str i)
 | _=>bM
def NT(Γ:Gm)(x:Str):Gx PV:=if eZ x=true then(if Hf Γ x=true then(match slot Γ x with | some i=>rd i | none=>bM)else if p9 Γ x=true then(match Γ.cons.lookup x with | some p=>bV p | none=>bM)else bM)else bM
def yF(a:Expr):Option {x:Str×Expr×List Expr // ∃p q,a=.Call (.Name x.1 p) (x.2.1::x.2.2) [] q}:=match a with
 | .Call (.Name z p) (b::bs) [] q=>some ⟨(z,b,bs),p,q,rfl⟩
 | _=>none
def t6(a:Expr)(es:List Expr):Option {x:Str×Expr // es=[]/\∃p q,a=.Call (.Name x.1 p) [x.2] [] q}:=match a,es with
 | .Call (.Name z p) [e] [] q,[]=>some ⟨(z,e),rfl,p,q,rfl⟩
 | _,_=>none
def dD(Γ:Gm)(x:Str):Bool:=p9 Γ x&&Γ.cb.contains x
def Wa:Expr->Expr
 | .Call _ [e] _ _=>e
 | a=>a
def NU(Γ:Gm)(x:Str)(a:Expr)(es:List Expr):Bool:=x==("len":Str)&&(match t6 a es with
 | some ⟨ze,_⟩=>ze.1==("set":Str)&&dD Γ ze.1&&aQ ze.2
 | none=>false)
def BS{Γ:Gm}(h:NU Γ x a es=true):x="len"/\es=[]/\∃e p q,a=.Call (.Name "set" p) [e] [] q/\p9 Γ "set"=true/\Γ.cb.contains "set"=true/\aQ e=true:=by
 unfold NU at h;rw[aC]at h;obtain⟨h0,h⟩:=h
 generalize t6 a es=o at h
 rcases o with _ | ⟨⟨z,e⟩,h1,p,q,rfl⟩
 ·cases h
 ·simp only[dD,aC]at h;obtain⟨⟨hx,hg,hb⟩,hp⟩:=h;have hx:=aH hx;subst hx;exact⟨aH h0,h1,e,p,q,rfl,hg,hb,hp⟩
def Fl(Γ:Gm)(op:CmpOp):Expr->Option (List (Str×PV)×Bool)
 | .Name T _=>if(eZ T&&p9 Γ T)=true then(Γ.cP.lookup T).bind λrows=>(match op with | .In=>some (rows,false) | .NotIn=>some (rows,true) | _=>none)else none
 | _=>none
def oS{Γ:Gm}(h:Fl Γ op b=some y):∃T p,b=.Name T p/\eZ T=true/\p9 Γ T=true/\Γ.cP.lookup T=some y.1/\(op=.In/\y.2=false\/op=.NotIn/\y.2=true):=by
 cases b with
 | Name T p =>
  obtain⟨hc,h⟩:=bE h;obtain⟨rows,e1,e2⟩:=aE h;rw[aC]at hc;refine⟨T,p,rfl,hc.1,hc.2,?_⟩;cases op<;>cases e2
  ·exact⟨e1,.inl ⟨rfl,rfl⟩⟩
  ·exact⟨e1,.inr ⟨rfl,rfl⟩⟩
 | _=>cases h
def RX:Operator->Bool
 | .Add=>true
 | _=>false
mutual
noncomputable def aZ:Nat->Gm->Nat->Expr->Gx PV
 | 0,_,_,_=>bM
 | n+1,Γ,m,e=>match e with
  | .Constant c _ _=>V9 c
  | .Name x _=>NT Γ x
  | .BinOp a op b _=>if(m != 0&&RX op)=true then Nt m (aZ n Γ 0 a) (aZ n Γ 0 b)else(match Jj op with | some g=>op2 g (aZ n Γ 0 a) (aZ n Γ 0 b) | none=>bM)
  | .UnaryOp .Not a _=>Md (aZ n Γ 0 a)
  | .UnaryOp .USub a _=>MB (aZ n Γ 0 a)
  | .BoolOp op vs _=>Fm n Γ op vs
  | .Compare a ops bs _=>NV n Γ a ops bs
  | .IfExp c a b _=>jh (qa n Γ c) (aZ n Γ m a) (aZ n Γ m b)
  | .Tuple es _ _=>O4 .aq (ip n Γ m es)
  | .List es _=>(match m with | 0=>O4 .lst (ip n Γ 0 es) | _=>Mf (ip n Γ (BR m) es))
  | .Dict [] [] _=>Nb (m==10)
  | .Subscript a b _=>NW n Γ a b
  | .ListComp elt gens scope _=>NX n Γ m elt gens scope
  | .Attribute o f _=>if tV o=true then Nf f (aZ n Γ 0 o)else bM
  | .Call f (a::es) [] cp=>if(a::es).all aQ=true then NY n Γ m f a es cp else bM
  | .Call (.Attribute o f ap) [] [] cp=>if(tV o&&(ap.endLine==cp.line))=true then(if f==("isdigit":Str)then Ng (aZ n Γ 0 o)else match yq f with | some w=>IK w.1 w.2 (aZ n Γ 0 o) (bV []) | none=>bM)else bM
  | _=>bM
termination_by structural n=>n
noncomputable def NY:Nat->Gm->Nat->Expr->Expr->List Expr->Pos->Gx PV
 | 0,_,_,_,_,_,_=>bM
 | n+1,Γ,m,f,a,es,cp=>match f with
  | .Name x _=>if eZ x=true then(if p9 Γ x=true then NZ n Γ m x a es else if Hf Γ x=true then Fo n Γ x a es else bM)else bM
  | .Subscript v k p=>qO Γ.fns Γ.call (aZ n Γ 0 (.Subscript v k p)) (ip n Γ 0 (a::es))
  | .Attribute o g ap=>if(tV o&&(ap.endLine==cp.line)&&decide ((a::es).length<30))=true then(if g==("count":Str)then IK "list" Ja (aZ n Γ 0 o) (ip n Γ 0 (a::es))else match vv g with | some w=>IK w.1 w.2 (aZ n Γ 0 o) (ip n Γ (V8 Γ g o) (a::es)) | none=>bM)else bM
  | _=>bM
termination_by structural n=>n
noncomputable def Fo:Nat->Gm->Str->Expr->List Expr->Gx PV
 | 0,_,_,_,_=>bM
 | n+1,Γ,x,a,es=>match slot Γ x with
  | some i=>qO Γ.fns Γ.call (rd i) (ip n Γ 0 (a::es))
  | none=>bM
termination_by structural n=>n
noncomputable def NZ:Nat->Gm->Nat->Str->Expr->List Expr->Gx PV
 | 0,_,_,_,_,_=>bM
 | n+1,Γ,m,x,a,es=>if x==("spread":Str)then Fp n Γ a es else match Γ.fns.lookup x with
  | some k=>bnd (ip n Γ 0 (a::es)) (iZ m k (Γ.call x))
  | none=>match Γ.cls.lookup x with
   | some k=>(match m with | 0=>Rx x k (Γ.make x) (ip n Γ 0 (a::es)) | _=>bM)
   | none=>if Γ.cb.contains x=true then(if x==("isinstance":Str)then Fq n Γ a es else if x==("sorted":Str)then Fs n Γ a es else if x==("dict":Str)then N0 n Γ a es else if x==("list":Str)then Ft n Γ m a es else if NU Γ x a es=true then NP (aZ n Γ 0 (Wa a))else match tZ x with | some g=>yi g (ip n Γ 0 (a::es)) | none=>bM)else bM
termination_by structural n=>n
noncomputable def Fp:Nat->Gm->Expr->List Expr->Gx PV
 | 0,_,_,_=>bM
 | n+1,Γ,a,es=>bM
termination_by structural n=>n
noncomputable def Ft:Nat->Gm->Nat->Expr->List Expr->Gx PV
 | 0,_,_,_,_=>bM
 | n+1,Γ,m,a,es=>match es with
  | []=>(match yF a with
   | some ⟨zs,_⟩=>if(zs.1==("range":Str)&&dD Γ zs.1&&(zs.2.1::zs.2.2).all aQ)=true then VL m (ip n Γ 0 (zs.2.1::zs.2.2))else(match zs.2.2 with
    | [b]=>if(zs.1==("zip":Str)&&dD Γ zs.1&&aQ zs.2.1&&aQ b)=true then NC m (aZ n Γ 0 zs.2.1) (aZ n Γ 0 b)else bM
    | _=>bM)
   | none=>IZ m (aZ n Γ 0 a))
  | _=>bM
termination_by structural n=>n
noncomputable def N0:Nat->Gm->Expr->List Expr->Gx PV
 | 0,_,_,_=>bM
 | n+1,Γ,a,es=>match es with
  | []=>(match a with
   | .BinOp l .Add r _=>Ag (aZ n Γ 0 l) (aZ n Γ 0 r)
   | a=>IX (aZ n Γ 0 a))
  | _=>bM
termination_by structural n=>n
noncomputable def Fs:Nat->Gm->Expr->List Expr->Gx PV
 | 0,_,_,_=>bM
 | n+1,Γ,a,es=>bM
termination_by structural n=>n
noncomputable def Fq:Nat->Gm->Expr->List Expr->Gx PV
 | 0,_,_,_=>bM
 | n+1,Γ,a,es=>match es with
  | [.Name t _]=>if dD Γ t=true then(match zN t with | some g=>U8 g (aZ n Γ 0 a) | none=>bM)else bM
  | _=>bM
termination_by structural n=>n
noncomputable def NV:Nat->Gm->Expr->List CmpOp->List Expr->Gx PV
 | 0,_,_,_,_=>bM
 | n+1,Γ,a,ops,bs=>match ops,bs with
  | [op],[b]=>if aQ b=true then(match Fl Γ op b with | some y=>BC y.1 y.2 (aZ n Γ 0 a) | none=>match yk op with | some g=>op2 g (aZ n Γ 0 a) (aZ n Γ 0 b) | none=>bM)else bM
  | [op,ux],[b,c]=>if aQ c=true then(match yk op,yk ux with | some g,some g'=>chain g g' (aZ n Γ 0 a) (aZ n Γ 0 b) (aZ n Γ 0 c) | _,_=>bM)else bM
  | _,_=>bM
termination_by structural n=>n
noncomputable def NW:Nat->Gm->Expr->Expr->Gx PV
 | 0,_,_,_=>bM
 | n+1,Γ,a,b=>match t5 b with
  | some ⟨lh,_⟩=>cutE (aZ n Γ 0 a) (BU n Γ lh.1) (BU n Γ lh.2)
  | none=>match yE b with
  | some ⟨lm,_⟩=>MC (aZ n Γ 0 a) (BU n Γ lm.1) (BU n Γ (some lm.2))
  | none=>if mX b=true then(match a with
   | .Name T p=>if(eZ T&&p9 Γ T)=true then(match Γ.cP.lookup T with
    | some rows=>EH (λk=>rows.lookup k) (aZ n Γ 0 b)
    | none=>match Γ.tabs.lookup T with
     | some rows=>EH (λk=>(rows.lookup k).map .fn) (aZ n Γ 0 b)
     | none=>op2 fw (aZ n Γ 0 (.Name T p)) (aZ n Γ 0 b))else op2 fw (aZ n Γ 0 (.Name T p)) (aZ n Γ 0 b)
   | a=>op2 fw (aZ n Γ 0 a) (aZ n Γ 0 b))else bM
termination_by structural n=>n
noncomputable def qa:Nat->Gm->Expr->Gx Bool
 | 0,_,_=>bM
 | n+1,Γ,e=>match e with
  | .UnaryOp .Not a _=>ye (qa n Γ a)
  | .BoolOp op vs _=>Fu n Γ op vs
  | .Compare a [op] [b] _=>if aQ b=true then(match Fl Γ op b with | some y=>toB (BC y.1 y.2 (aZ n Γ 0 a)) | none=>match yk op with | some g=>toB (op2 g (aZ n Γ 0 a) (aZ n Γ 0 b)) | none=>bM)else bM
  | .Compare a [op,ux] [b,c] _=>if aQ c=true then(match yk op,yk ux with | some g,some g'=>toB (chain g g' (aZ n Γ 0 a) (aZ n Γ 0 b) (aZ n Γ 0 c)) | _,_=>bM)else bM
  | e=>if yA e=true then uZ (aZ n Γ 0 e)else bM
termination_by structural n=>n
noncomputable def Fm:Nat->Gm->BoolOp->List Expr->Gx PV
 | 0,_,_,_=>bM
 | n+1,Γ,op,[a]=>aZ n Γ 0 a
 | n+1,Γ,.And,a::b::r=>HM (aZ n Γ 0 a) (Fm n Γ .And (b::r))
 | n+1,Γ,.Or,a::b::r=>Tz (aZ n Γ 0 a) (Fm n Γ .Or (b::r))
 | _,_,_,_=>bM
termination_by structural n=>n
noncomputable def Fu:Nat->Gm->BoolOp->List Expr->Gx Bool
 | 0,_,_,_=>bM
 | n+1,Γ,op,[a]=>qa n Γ a
 | n+1,Γ,.And,a::b::r=>jh (qa n Γ a) (Fu n Γ .And (b::r)) (bV false)
 | n+1,Γ,.Or,a::b::r=>jh (qa n Γ a) (bV true) (Fu n Γ .Or (b::r))
 | _,_,_,_=>bM
termination_by structural n=>n
noncomputable def ip:Nat->Gm->Nat->List Expr->Gx (List PV)
 | 0,_,_,_=>bM
 | n+1,Γ,m,[]=>bV []
 | n+1,Γ,m,e::es=>if aQ e=true then fu (aZ n Γ m e) (ip n Γ m es)else bM
termination_by structural n=>n
noncomputable def BU:Nat->Gm->Option Expr->Gx (Option Int)
 | 0,_,_=>bM
 | n+1,Γ,none=>bV none
 | n+1,Γ,some e=>D1 (aZ n Γ 0 e)
termination_by structural n=>n
noncomputable def Fv:Nat->Gm->Expr->Expr->Gx zY
 | 0,_,_,_=>bM
 | n+1,Γ,tg,e=>match e with
  | .Call (.Name x p) [a] [] cp=>if(x==("range":Str)&&dD Γ x&&aQ a)=true then O8 (Ej Bv (ip n Γ 0 [a]))
    else if(x==("enumerate":Str)&&dD Γ x&&aQ a&&Kl tg)=true then O8 (En (aZ n Γ 0 a))
    else if(x==("reversed":Str)&&dD Γ x)=true then(match t6 a []with | some ⟨ze,_⟩=>if(ze.1==("range":Str)&&dD Γ ze.1&&aQ ze.2)=true then bM else bM | none=>bM)
    else pY (aZ n Γ 0 (.Call (.Name x p) [a] [] cp))
  | .Call (.Name x p) [a,b] [] cp=>if(x==("range":Str)&&dD Γ x&&aQ a&&aQ b)=true then O8 (Ej IB (ip n Γ 0 [a,b]))
    else if(x==("zip":Str)&&dD Γ x&&aQ a&&aQ b&&Kw tg)=true then O8 (NL (aZ n Γ 0 a) (aZ n Γ 0 b))
    else pY (aZ n Γ 0 (.Call (.Name x p) [a,b] [] cp))
  | e=>if aQ e=true then pY (aZ n Γ 0 e)else bM
termination_by structural n=>n
noncomputable def NX:Nat->Gm->Nat->Expr->List Comprehension->Scope->Gx PV
 | 0,_,_,_,_,_=>bM
 | n+1,Γ,m,elt,gens,scope=>match gens with
  | [⟨tg,iter,ifs,0⟩]=>if aQ iter=true then(match tY n (qY Γ scope) tg with
   | some g=>if oR Γ scope g.2=true then(match ifs with
    | []=>iT (m != 0) (fO Γ scope) (Fv n Γ tg iter) (om g.1 (aZ n (qY Γ scope) (BR m) elt))
    | [c]=>iT (m != 0) (fO Γ scope) (Fv n Γ tg iter) (Ef g.1 (qa n (qY Γ scope) c) (aZ n (qY Γ scope) (BR m) elt))
    | _=>bM)else bM
   | none=>bM)else bM
  | _=>bM
termination_by structural n=>n
end
def CC(X:Cx)(aa:Hp)(ab:Fz)(elt:Expr)(gens:List Comprehension)(scope:Scope)(p:Pos)(f:Gx PV):Prop:=PE X (.ListComp elt gens scope p) (tE X aa ab f) /\
  ∀i x p' sp,X.N[i]?=some x->X.env.scope.names.lookup x=some .local->swapsWith (.ListComp elt gens scope p) (some (.Name x p')) sp.line X.env=pure true ->
   PS X (.Assign [.Name x p'] (.ListComp elt gens scope p) sp) (tS X aa ab (n6 f (di i)))
structure Wb (n:Nat):Prop where
 e:∀Γ X aa ab m e,GOk Γ X aa ab->PE X e (tE X aa ab (aZ n Γ m e))
 f:∀Γ X aa ab m f a es cp,GOk Γ X aa ab->(a::es).all aQ=true->PE X (.Call f (a::es) [] cp) (tE X aa ab (NY n Γ m f a es cp))
 o:∀Γ X aa ab x a es p cp,GOk Γ X aa ab->(a::es).all aQ=true->eZ x=true->Hf Γ x=true->PE X (.Call (.Name x p) (a::es) [] cp) (tE X aa ab (Fo n Γ x a es))
 cn:∀Γ X aa ab m x a es p cp,GOk Γ X aa ab->(a::es).all aQ=true->eZ x=true->p9 Γ x=true->PE X (.Call (.Name x p) (a::es) [] cp) (tE X aa ab (NZ n Γ m x a es))
 sp:∀Γ X aa ab a es p cp,GOk Γ X aa ab->(a::es).all aQ=true->p9 Γ "spread"=true->PE X (.Call (.Name "spread" p) (a::es) [] cp) (tE X aa ab (Fp n Γ a es))
 st:∀Γ X aa ab a es p cp,GOk Γ X aa ab->(a::es).all aQ=true->p9 Γ "sorted"=true->Γ.cb.contains "sorted"=true->PE X (.Call (.Name "sorted" p) (a::es) [] cp) (tE X aa ab (Fs n Γ a es))
 d:∀Γ X aa ab a es p cp,GOk Γ X aa ab->(a::es).all aQ=true->p9 Γ "dict"=true->Γ.cb.contains "dict"=true->PE X (.Call (.Name "dict" p) (a::es) [] cp) (tE X aa ab (N0 n Γ a es))
 li:∀Γ X aa ab m a es p cp,GOk Γ X aa ab->(a::es).all aQ=true->p9 Γ "list"=true->Γ.cb.contains "list"=true->PE X (.Call (.Name "list" p) (a::es) [] cp) (tE X aa ab (Ft n Γ m a es))
 is:∀Γ X aa ab a es p cp,GOk Γ X aa ab->(a::es).all aQ=true->p9 Γ "isinstance"=true->Γ.cb.contains "isinstance"=true->PE X (.Call (.Name "isinstance" p) (a::es) [] cp) (tE X aa ab (Fq n Γ a es))
 k:∀Γ X aa ab a ops bs p,GOk Γ X aa ab->PE X (.Compare a ops bs p) (tE X aa ab (NV n Γ a ops bs))
 x:∀Γ X aa ab a b p,GOk Γ X aa ab->PE X (.Subscript a b p) (tE X aa ab (NW n Γ a b))
 t:∀Γ X aa ab e,GOk Γ X aa ab->PT X e (tT X aa ab (qa n Γ e))
 b:∀Γ X aa ab op vs p,GOk Γ X aa ab->PE X (.BoolOp op vs p) (tE X aa ab (Fm n Γ op vs))
 w:∀Γ X aa ab op vs p,GOk Γ X aa ab->PW X (.BoolOp op vs p) (tT X aa ab (Fu n Γ op vs))
 a:∀Γ X aa ab m es,GOk Γ X aa ab->PA X es (tA X aa ab (ip n Γ m es))
 l:∀Γ X aa ab e,GOk Γ X aa ab->PO X e (HY X aa ab (BU n Γ e))
 i:∀Γ X aa ab tg e,GOk Γ X aa ab->PI X tg e (Bw X aa ab (Fv n Γ tg e))
 c:∀Γ X aa ab m elt gens scope p,GOk Γ X aa ab->CC X aa ab elt gens scope p (NX n Γ m elt gens scope)
def pI{X:Cx}{aa:Hp}{ab:Fz}{e:Expr}{c:Prop} [Decidable c] {f g:Gx PV} (h:c->PE X e (tE X aa ab f)) (h':PE X e (tE X aa ab g)):PE X e (tE X aa ab (if c then f else g)):=by
 split
 ·exact h ‹_›
 ·exact h'
def pJ{X:Cx}{aa:Hp}{ab:Fz}{e:Expr}{c:Prop} [Decidable c] {f:Gx PV} (h:c->PE X e (tE X aa ab f)):PE X e (tE X aa ab (if c then f else bM)):=pI h aV
def f7:PS X s (tS X aa ab bM):=λ_ _ _ _ _ _ ⟨F,st,R,r,z,_⟩=>by cases z
def t7:PS X s (tS X aa ab (n6 bM g)):=λ_ _ _ _ _ _ ⟨F,st,R,r,z,_⟩=>by cases z
def RY{ab:Fz}:PO X e (HY X aa ab bM):=λ_ _ _ _ _ _ h=>qZ h
def Fw:Wb 0 where
 e:=λ_ _ _ _ _ _ _=>aV
 f:=λ_ _ _ _ _ _ _ _ _ _ _=>aV
 o:=λ_ _ _ _ _ _ _ _ _ _ _ _ _=>aV
 cn:=λ_ _ _ _ _ _ _ _ _ _ _ _ _ _=>aV
 sp:=λ_ _ _ _ _ _ _ _ _ _ _=>aV
 st:=λ_ _ _ _ _ _ _ _ _ _ _ _=>aV
 d:=λ_ _ _ _ _ _ _ _ _ _ _ _=>aV
 li:=λ_ _ _ _ _ _ _ _ _ _ _ _ _=>aV
 is:=λ_ _ _ _ _ _ _ _ _ _ _ _=>aV
 k:=λ_ _ _ _ _ _ _ _ _=>aV
 x:=λ_ _ _ _ _ _ _ _=>aV
 t:=λ_ _ _ _ _ _=>q0
 b:=λ_ _ _ _ _ _ _ _=>aV
 w:=λ_ _ _ _ _ _ _ _=>Fj
 a:=λ_ _ _ _ _ _ _=>Kz
 l:=λ_ _ _ _ _ _=>RY
 i:=λ_ _ _ _ _ _ _=>vO
 c:=λ_ _ _ _ _ _ _ _ _ _=>⟨aV,λ_ _ _ _ _ _ _=>t7⟩
section
variable {n:Nat} (S:Wb n)
include S
def RZ(Γ:Gm)(X:Cx)(aa:Hp)(ab:Fz)(op:BoolOp)(vs:List Expr)(p:Pos)(G:GOk Γ X aa ab):PE X (.BoolOp op vs p) (tE X aa ab (Fm (n+1) Γ op vs)):=by
 match op,vs with
 | .And,[]=>exact aV
 | .Or,[]=>exact aV
 | .And,[a]=>exact Dl (S.e Γ X aa ab 0 a G)
 | .Or,[a]=>exact Dl (S.e Γ X aa ab 0 a G)
 | .And,a::b::r=>exact QC (S.e Γ X aa ab 0 a G) (S.b Γ X aa ab .And (b::r) p G)
 | .Or,a::b::r=>exact U2 (S.e Γ X aa ab 0 a G) (S.b Γ X aa ab .Or (b::r) p G)
def R0(Γ:Gm)(X:Cx)(aa:Hp)(ab:Fz)(op:BoolOp)(vs:List Expr)(p:Pos)(G:GOk Γ X aa ab):PW X (.BoolOp op vs p) (tT X aa ab (Fu (n+1) Γ op vs)):=by
 match op,vs with
 | .And,[]=>exact Fj
 | .Or,[]=>exact Fj
 | .And,[a]=>exact G5 (S.t Γ X aa ab a G)
 | .Or,[a]=>exact Lv (S.t Γ X aa ab a G)
 | .And,a::b::r=>exact QA (S.t Γ X aa ab a G) (S.w Γ X aa ab .And (b::r) p G)
 | .Or,a::b::r=>exact U1 (S.t Γ X aa ab a G) (S.w Γ X aa ab .Or (b::r) p G)
def R6(Γ:Gm)(X:Cx)(aa:Hp)(ab:Fz)(m:Nat)(es:List Expr)(G:GOk Γ X aa ab):PA X es (tA X aa ab (ip (n+1) Γ m es)):=by
 match es with
 | []=>exact QE
 | e::es =>
  unfold ip;split
  ·rename_i hp;exact Me (S.e Γ X aa ab m e G) (S.a Γ X aa ab m es G) (aK hp _ _)
  ·exact Kz
def R7(Γ:Gm)(X:Cx)(aa:Hp)(ab:Fz)(e:Option Expr)(G:GOk Γ X aa ab):PO X e (HY X aa ab (BU (n+1) Γ e)):=by
 match e with
 | none=>exact My
 | some e=>exact Mz (S.e Γ X aa ab 0 e G)
def R8(Γ:Gm)(X:Cx)(aa:Hp)(ab:Fz)(a:Expr)(ops:List CmpOp)(bs:List Expr)(p:Pos)(G:GOk Γ X aa ab):PE X (.Compare a ops bs p) (tE X aa ab (NV (n+1) Γ a ops bs)):=by
 rcases ops with _ | ⟨op,_ | ⟨ux,_ | _⟩⟩<;>rcases bs with _ | ⟨b,_ | ⟨c,_ | _⟩⟩<;>try exact aV
 ·show PE X _ (tE X aa ab (ite _ _ _));split
  ·rename_i hp;split
   ·rename_i y h0;obtain⟨T,q,rfl,h1,h2,h3,h4⟩:=oS h0;exact(Kt (G.cP _ _ h3) (G.fz h2) (S.e Γ X aa ab 0 _ G) (eN h1).1 h4 (dB hp _)).1
   split
   ·rename_i g h1;exact Qx (ja G.un h1) (S.e Γ X aa ab 0 _ G) (S.e Γ X aa ab 0 _ G) (dB hp _)
   ·exact aV
  ·exact aV
 ·show PE X _ (tE X aa ab (ite _ _ _));split
  ·rename_i hp;split
   ·rename_i g g' h1 h2;exact HK (ja G.un h1) (ja G.un h2) (S.e Γ X aa ab 0 _ G) (S.e Γ X aa ab 0 _ G) (S.e Γ X aa ab 0 _ G) (dB hp _)
   ·exact aV
  ·exact aV
def R9(Γ:Gm)(X:Cx)(aa:Hp)(ab:Fz)(e:Expr)(G:GOk Γ X aa ab):PT X e (tT X aa ab (qa (n+1) Γ e)):=by
 have df:∀e,PT X e (tT X aa ab (if yA e=true then uZ (aZ n Γ 0 e)else bM)):=λe=>by
  split
  ·rename_i hp;exact Qz (S.e Γ X aa ab 0 _ G) λhZ=>Fc hp _ hZ
  ·exact q0
 cases e with
 | UnaryOp op=>cases op with
  | Not=>exact QB (S.t Γ X aa ab _ G)
  | _=>exact df _
 | BoolOp=>exact(S.w Γ X aa ab _ _ _ G).pt
 | Compare a ops bs =>
  rcases ops with _ | ⟨op,_ | ⟨ux,_ | _⟩⟩<;>rcases bs with _ | ⟨b,_ | ⟨c,_ | _⟩⟩<;>try exact df _
  ·show PT X _ (tT X aa ab (ite _ _ _));split
   ·rename_i hp;split
    ·rename_i y h0;obtain⟨T,q,rfl,h1,h2,h3,h4⟩:=oS h0;exact(Kt (G.cP _ _ h3) (G.fz h2) (S.e Γ X aa ab 0 _ G) (eN h1).1 h4 (dB hp _)).2
    split
    ·rename_i g h1;exact Qy (ja G.un h1) (S.e Γ X aa ab 0 _ G) (S.e Γ X aa ab 0 _ G) (dB hp _)
    ·exact q0
   ·exact q0
  ·show PT X _ (tT X aa ab (ite _ _ _));split
   ·rename_i hp;split
    ·rename_i g g' h1 h2;exact HL (ja G.un h1) (ja G.un h2) (S.e Γ X aa ab 0 _ G) (S.e Γ X aa ab 0 _ G) (S.e Γ X aa ab 0 _ G) (dB hp _)
    ·exact q0
   ·exact q0
 | _=>exact df _
def N1(Γ:Gm)(X:Cx)(aa:Hp)(ab:Fz)(a:Expr)(es:List Expr)(p cp:Pos)(G:GOk Γ X aa ab)(hp:(a::es).all aQ=true)(hg:p9 Γ "sorted"=true)(hb:Γ.cb.contains "sorted"=true):PE X (.Call (.Name "sorted" p) (a::es) [] cp) (tE X aa ab (Fs (n+1) Γ a es)):=by
 exact aV
def Sb(Γ:Gm)(X:Cx)(aa:Hp)(ab:Fz)(a:Expr)(es:List Expr)(p cp:Pos)(G:GOk Γ X aa ab)(hp:(a::es).all aQ=true)(hg:p9 Γ "dict"=true)(hb:Γ.cb.contains "dict"=true):PE X (.Call (.Name "dict" p) (a::es) [] cp) (tE X aa ab (N0 (n+1) Γ a es)):=by
 rw[fE,aC]at hp;cases es with
 | cons=>exact aV
 | nil=>cases a with
  | BinOp l op=>cases op with
   | Add=>exact Nl G.hd (G.fz hg) (G.cb _ hb) (S.e Γ X aa ab 0 _ G) (S.e Γ X aa ab 0 _ G) rfl
   | _=>exact ES G.hd (G.fz hg) (G.cb _ hb) (S.e Γ X aa ab 0 _ G) (aK hp.1 _ _)
  | _=>exact ES G.hd (G.fz hg) (G.cb _ hb) (S.e Γ X aa ab 0 _ G) (aK hp.1 _ _)
def N2(Γ:Gm)(X:Cx)(aa:Hp)(ab:Fz)(m:Nat)(a:Expr)(es:List Expr)(p cp:Pos)(G:GOk Γ X aa ab)(hp:(a::es).all aQ=true)(hg:p9 Γ "list"=true)(hb:Γ.cb.contains "list"=true):PE X (.Call (.Name "list" p) (a::es) [] cp) (tE X aa ab (Ft (n+1) Γ m a es)):=by
 rw[fE,aC]at hp;cases es with
 | cons=>exact aV
 | nil =>
  show PE X _ (tE X aa ab (match yF a with | some ⟨zs,_⟩=>_ | none=>IZ m (aZ n Γ 0 a)))
  rcases yF a with _ | ⟨⟨z,b,bs⟩,zp,ou,rfl⟩
  ·exact Nr (G.fz hg) (G.cb _ hb) (S.e Γ X aa ab 0 _ G) λ_=>aK hp.1 _ _
  ·refine pI (λhc=>?_) ?_
   ·simp only[dD,aC]at hc;obtain⟨⟨hx,g1,g2⟩,CB⟩:=hc;have hx:=aH hx;subst hx;rw[fE,aC]at CB;exact RJ G.hd (G.fz hg) (G.cb _ hb) (G.fz g1) (G.cb _ g2) (S.a Γ X aa ab 0 _ G) (aK CB.1 _ _) (dC CB.2 _ _)
   ·rcases bs with _ | ⟨c,_ | _⟩
    ·exact aV
    ·refine pJ λhc=>?_
     simp only[dD,aC]at hc;obtain⟨⟨⟨hx,g1,g2⟩,p1⟩,p2⟩:=hc;have hx:=aH hx;subst hx;exact ND G.hd (G.fz hg) (G.cb _ hb) (G.fz g1) (G.cb _ g2) (S.e Γ X aa ab 0 _ G) (S.e Γ X aa ab 0 _ G) (aK p1 _ _) (aK p2 _ _)
    ·exact aV
def N3(Γ:Gm)(X:Cx)(aa:Hp)(ab:Fz)(a:Expr)(es:List Expr)(p cp:Pos)(G:GOk Γ X aa ab)(hp:(a::es).all aQ=true)(hg:p9 Γ "isinstance"=true)(hb:Γ.cb.contains "isinstance"=true):PE X (.Call (.Name "isinstance" p) (a::es) [] cp) (tE X aa ab (Fq (n+1) Γ a es)):=by
 cases es with
 | nil=>exact aV
 | cons e es=>cases e with
  | Name t=>cases es with
   | cons=>exact aV
   | nil =>
    refine pJ λhc=>?_
    unfold dD at hc;rw[aC]at hc;rw[fE,aC]at hp;cases h1:zN t with
    | none=>exact aV
    | some g=>exact U9 h1 (G.fz hg) (G.cb _ hb) (G.fz hc.1) (G.cb _ hc.2) (S.e Γ X aa ab 0 a G) λes=>aK hp.1 es _
  | _=>exact aV
def Sd(Γ:Gm)(X:Cx)(aa:Hp)(ab:Fz)(a b:Expr)(p:Pos)(G:GOk Γ X aa ab):PE X (.Subscript a b p) (tE X aa ab (NW (n+1) Γ a b)):=by
 show PE X _ (tE X aa ab (match t5 b with | some ⟨lh,_⟩=>_ | none=>_))
 rcases t5 b with _ | ⟨⟨lo,hi⟩,ps,rfl⟩
 ·show PE X _ (tE X aa ab (match yE b with | some ⟨lm,_⟩=>_ | none=>_))
  rcases yE b with _ | ⟨⟨lo,hi⟩,ps,rfl⟩
  rotate_left
  ·exact QS (S.e Γ X aa ab 0 _ G) (S.l Γ X aa ab _ G) (S.l Γ X aa ab _ G)
  refine pJ λhp=>?_
  have gen:=λa=>Va (pos:=p) G.un (S.e Γ X aa ab 0 a G) (S.e Γ X aa ab 0 b G) (oQ hp)
  cases a with
  | Name T =>
   refine pI (λhc=>?_) (gen _)
   rw[aC]at hc;cases h0:Γ.cP.lookup T with
   | some rows=>exact Rm (G.cP _ rows h0) (G.fz hc.2) (S.e Γ X aa ab 0 _ G) (oQ hp) (eN hc.1).1
   | none =>
    cases h1:Γ.tabs.lookup T with
    | some rows=>exact Rq (G.tabs _ rows h1) (G.fz hc.2) (S.e Γ X aa ab 0 _ G) (oQ hp) (eN hc.1).1
    | none=>exact gen _
  | _=>exact gen _
 ·exact QM (S.e Γ X aa ab 0 _ G) (S.l Γ X aa ab _ G) (S.l Γ X aa ab _ G)
def Se(Γ:Gm)(X:Cx)(aa:Hp)(ab:Fz)(tg e:Expr)(G:GOk Γ X aa ab):PI X tg e (Bw X aa ab (Fv (n+1) Γ tg e)):=by
 have df:∀e,PI X tg e (Bw X aa ab (if aQ e=true then pY (aZ n Γ 0 e)else bM)):=λe=>by
  split
  ·exact Eu (S.e Γ X aa ab 0 _ G)
  ·exact vO
 cases e with
 | Call f as ks=>cases f with
  | Name x p =>
   rcases as with _ | ⟨a,_ | ⟨b,_ | _⟩⟩<;>rcases ks with _ | _<;>try exact df _
   ·show PI X _ _ (Bw X aa ab (ite _ _ _));split
    ·rename_i hc;simp only[dD,aC]at hc;obtain⟨⟨hx,hg,hb⟩,hp⟩:=hc;have hx:=aH hx;subst hx;exact ID <| El (G.fz hg) (G.cb _ hb) (S.a Γ X aa ab 0 _ G) (aK hp _ _)
    ·split
     ·rename_i hc;simp only[dD,aC]at hc;obtain⟨⟨⟨hx,hg,hb⟩,hp⟩,ht⟩:=hc;have hx:=aH hx;subst hx;exact ID <| Vn ht (G.fz hg) (G.cb _ hb) (S.e Γ X aa ab 0 _ G) (aK hp _ _)
     ·split
      ·rename_i hc;simp only[dD,aC]at hc;obtain⟨hx,hg,hb⟩:=hc;have hx:=aH hx;subst hx;rcases t6 a []with _ | ⟨⟨z,e⟩,_,zp,ou,rfl⟩
       ·exact vO
       ·show PI X _ _ (Bw X aa ab (ite _ _ _));split
        ·rename_i hc;simp only[dD,aC]at hc;obtain⟨⟨hx,g1,g2⟩,CB⟩:=hc;have hx:=aH hx;subst hx;exact vO
        ·exact vO
      ·exact Eu (S.e Γ X aa ab 0 _ G)
   ·show PI X _ _ (Bw X aa ab (ite _ _ _));split
    ·rename_i hc;simp only[dD,aC]at hc;obtain⟨⟨⟨hx,hg,hb⟩,hp⟩,CB⟩:=hc;have hx:=aH hx;subst hx;exact ID <| Em (G.fz hg) (G.cb _ hb) (S.a Γ X aa ab 0 _ G) (by rw[aK hp,aK CB];rfl) (aK CB _ _)
    ·split
     ·rename_i hc;simp only[dD,aC]at hc;obtain⟨⟨⟨⟨hx,hg,hb⟩,hp⟩,CB⟩,ht⟩:=hc;have hx:=aH hx;subst hx;exact ID <| RT ht (G.fz hg) (G.cb _ hb) (S.e Γ X aa ab 0 _ G) (S.e Γ X aa ab 0 _ G) (aK hp _ _) (aK CB _ _)
     ·exact Eu (S.e Γ X aa ab 0 _ G)
  | _=>exact df _
 | _=>exact df _
def Jm:CC X aa ab elt gens scope p bM:=⟨aV,λ_ _ _ _ _ _ _=>t7⟩
def cI{c:Prop} [Decidable c] (h:c->CC X aa ab elt gens scope p f):CC X aa ab elt gens scope p (if c then f else bM):=by
 split
 ·exact h ‹_›
 ·exact Jm
def Sf(Γ:Gm)(X:Cx)(aa:Hp)(ab:Fz)(m:Nat)(elt:Expr)(gens:List Comprehension)(scope:Scope)(p:Pos)(G:GOk Γ X aa ab):CC X aa ab elt gens scope p (NX (n+1) Γ m elt gens scope):=by
 rcases gens with _ | ⟨⟨tg,iter,ifs,(_ | _) | _⟩,_ | _⟩<;>try exact Jm
 refine cI λhp=>?_
 cases h2:tY n (qY Γ scope) tg with
 | none=>exact Jm
 | some g =>
  refine cI λhc=>?_
  have SC:=yD G hc;have hL:=(kW hc).2.2.2;have GK:=Fh G hc;have hi:=S.i Γ X aa ab tg iter G;have hg:=λC s H fp=>(kU (GK C s H fp aa ab) n tg g h2).1
  have kg:=(kU (GK 0 X.s₀ X.aa [] aa ab) n tg g h2).2.1;have he:=λC s H fp=>S.e _ _ _ _ (BR m) elt (GK C s H fp aa ab)
  rcases ifs with _ | ⟨c,_ | _⟩
  ·exact⟨(zU G.calm SC hi (Xo hg he) (fN hp _)).imp λσ H Q h=>Ew kg hL h,λi x p' sp hx hl hw=>(zV G.calm G.nd hx hl SC hi (Xo hg he) hw (fN hp _)).imp λD σ H h=>Ew kg hL (mU h)⟩
  ·have ht:=λC s H fp=>S.t _ _ _ _ c (GK C s H fp aa ab)
   exact⟨(zU G.calm SC hi (Xp hg he ht) (fN hp _)).imp λσ H Q h=>Ex kg hL h,λi x p' sp hx hl hw=>(zV G.calm G.nd hx hl SC hi (Xp hg he ht) hw (fN hp _)).imp λD σ H h=>Ex kg hL (mU h)⟩
  ·exact Jm
def Sg(Γ:Gm)(X:Cx)(aa:Hp)(ab:Fz)(x:Str)(a:Expr)(es:List Expr)(p cp:Pos)(G:GOk Γ X aa ab)(hp:(a::es).all aQ=true)(hn:eZ x=true)(hv:Hf Γ x=true):PE X (.Call (.Name x p) (a::es) [] cp) (tE X aa ab (Fo (n+1) Γ x a es)):=by
 have vo:=nj.mp (fE▸hp);cases h1:slot Γ x with
 | none=>show PE X _ (tE X aa ab (match slot Γ x with | some i=>_ | none=>bM));rw[h1];exact aV
 | some i =>
  show PE X _ (tE X aa ab (match slot Γ x with | some i=>qO Γ.fns Γ.call (rd i) (ip n Γ 0 (a::es)) | none=>bM))
  rw[h1];exact IQ G.fns G.ns (Kc i (qW G hn hv h1)) (S.a Γ X aa ab 0 _ G) (aK vo.1 _ _) (dC vo.2 _ _)
def N4(Γ:Gm)(X:Cx)(aa:Hp)(ab:Fz)(a:Expr)(es:List Expr)(p cp:Pos)(G:GOk Γ X aa ab)(hp:(a::es).all aQ=true)(hg:p9 Γ "spread"=true):PE X (.Call (.Name "spread" p) (a::es) [] cp) (tE X aa ab (Fp (n+1) Γ a es)):=by
 exact aV
def Sh(Γ:Gm)(X:Cx)(aa:Hp)(ab:Fz)(m:Nat)(x:Str)(a:Expr)(es:List Expr)(p cp:Pos)(G:GOk Γ X aa ab)(hp:(a::es).all aQ=true)(hn:eZ x=true)(hg:p9 Γ x=true):PE X (.Call (.Name x p) (a::es) [] cp) (tE X aa ab (NZ (n+1) Γ m x a es)):=by
 have vo:=hp;rw[fE,aC]at vo;obtain⟨n1,n2,n3⟩:=eN hn;have ha:=S.a Γ X aa ab 0 (a::es) G;have h1:=aK vo.1 es X.env;have h2:=dC vo.2 X.env cp;refine pI (λhx=>?_) ?_
 ·cases aH hx;exact S.sp Γ X aa ab a es p cp G hp hg
 cases hk:Γ.fns.lookup x with
 | some k =>
  obtain⟨j,f,fd,ps,F,hr,q1,q2,q3⟩:=G.fns _ k hk;exact M4 (V7 F hr q3) (G.fz hg) q1 q2 ha n1 h1 h2
 | none=>cases hk:Γ.cls.lookup x with
  | some k=>cases m with
   | zero =>
    obtain⟨j,Ca,f,fd,ps,hC,c,M,F,hr,q1,q2⟩:=G.cls _ k hk;exact(Hw (p:=p) M F hr (G.fz hg) q1 q2 .nil DS ha n1 h1 h2).imp λσ H Q h=>IS hC c h
   | succ=>exact aV
  | none =>
   refine pJ λhb=>pI (λhx=>?_) (pI (λhx=>?_) (pI (λhx=>?_) (pI (λhx=>?_) (pI (λhx=>?_) ?_))))
   ·cases aH hx;exact S.is Γ X aa ab a es p cp G hp hg hb
   ·cases aH hx;exact S.st Γ X aa ab a es p cp G hp hg hb
   ·cases aH hx;exact S.d Γ X aa ab a es p cp G hp hg hb
   ·cases aH hx;exact S.li Γ X aa ab m a es p cp G hp hg hb
   ·obtain⟨rfl,rfl,e,zp,zq,rfl,g1,g2,g3⟩:=BS hx;exact NQ G.hd (G.fz hg) (G.cb _ hb) (G.fz g1) (G.cb _ g2) (S.e Γ X aa ab 0 _ G) (aK g3 _ _)
   cases ZU:tZ x with
   | some g=>exact NS ZU G.hd (G.fz hg) (G.cb _ hb) ha h1 h2
   | none=>exact aV
def Si(Γ:Gm)(X:Cx)(aa:Hp)(ab:Fz)(m:Nat)(f a:Expr)(es:List Expr)(cp:Pos)(G:GOk Γ X aa ab)(hp:(a::es).all aQ=true):PE X (.Call f (a::es) [] cp) (tE X aa ab (NY (n+1) Γ m f a es cp)):=by
 have vo:=hp;rw[fE,aC]at vo;cases f with
 | Name=>exact pJ λhn=>pI (λhg=>S.cn Γ X aa ab m _ a es _ cp G hp hn hg) (pJ λhv=>S.o Γ X aa ab _ a es _ cp G hp hn hv)
 | Subscript=>exact IP G.fns G.ns (S.e Γ X aa ab 0 _ G) (S.a Γ X aa ab 0 _ G) (aK vo.1 _ _) (dC vo.2 _ _)
 | Attribute o g ap =>
  refine pJ λhc=>?_
  simp only[aC,dr]at hc;refine pI (λhx=>?_) ?_
  ·have hx:=aH hx;subst hx;exact RN G.un (S.e Γ X aa ab 0 _ G) (S.a Γ X aa ab _ _ G) (kT hc.1.1) (An hp hc.2) hc.1.2 (aK vo.1 _ _) (dC vo.2 _ _)
  show PE X _ (tE X aa ab (match vv g with | some w=>_ | none=>bM))
  cases hw:vv g with
  | none=>exact aV
  | some w=>exact Vw G.un hw (S.e Γ X aa ab 0 _ G) (S.a Γ X aa ab _ _ G) (kT hc.1.1) (An hp hc.2) hc.1.2 (aK vo.1 _ _) (dC vo.2 _ _)
 | _=>exact aV
def Sj(Γ:Gm)(X:Cx)(aa:Hp)(ab:Fz)(m:Nat)(e:Expr)(G:GOk Γ X aa ab):PE X e (tE X aa ab (aZ (n+1) Γ m e)):=by
 cases e with
 | Constant c=>cases c<;>first | exact aV | exact Qv | exact UZ | exact Qu | exact Qw
 | Name x =>
  show PE X _ (tE X aa ab (NT Γ x));unfold NT;split
  ·rename_i hn;split
   ·rename_i hv;split
    ·rename_i i hi;exact Kc i (qW G hn hv hi)
    ·exact aV
   ·split
    ·rename_i hg;split
     ·rename_i q hq;obtain⟨u,v,g1,g2,g3⟩:=G.cons _ q hq;exact uX (kl (G.fz hg) g1 g2 (eN hn).1) g3
     ·exact aV
    ·exact aV
  ·exact aV
 | BinOp a op b =>
  refine pI (λhc=>?_) ?_
  ·rw[aC]at hc;obtain rfl:op=.Add:=by
    cases op<;>first | rfl | cases hc.2
   exact Nu (S.e Γ X aa ab 0 _ G) (S.e Γ X aa ab 0 _ G)
  show PE X _ (tE X aa ab (match Jj op with | some g=>op2 g (aZ n Γ 0 a) (aZ n Γ 0 b) | none=>bM))
  cases h1:Jj op with
  | none=>exact aV
  | some=>exact U0 (E4 h1) (S.e Γ X aa ab 0 _ G) (S.e Γ X aa ab 0 _ G)
 | UnaryOp op=>cases op with
  | Not=>exact QD (S.e Γ X aa ab 0 _ G)
  | USub=>exact QP (S.e Γ X aa ab 0 _ G)
  | _=>exact aV
 | BoolOp=>exact S.b Γ X aa ab _ _ _ G
 | Compare=>exact S.k Γ X aa ab _ _ _ _ G
 | IfExp=>exact U3 (S.t Γ X aa ab _ G) (S.e Γ X aa ab m _ G) (S.e Γ X aa ab m _ G)
 | Tuple=>exact QF (S.a Γ X aa ab m _ G)
 | List=>cases m with
  | zero=>exact QG (S.a Γ X aa ab 0 _ G)
  | succ=>exact Mg (S.a Γ X aa ab _ _ G)
 | Dict ks vs=>rcases ks with _ | _<;>rcases vs with _ | _<;>first | exact Rl _ | exact aV
 | Subscript=>exact S.x Γ X aa ab _ _ _ G
 | ListComp=>exact(S.c Γ X aa ab m _ _ _ _ G).1
 | Attribute =>
  show PE X _ (tE X aa ab (ite _ _ _));split
  ·rename_i hb;exact Rt (S.e Γ X aa ab 0 _ G) (kT hb)
  ·exact aV
 | Call f as ks=>cases as with
  | cons=>cases ks with
   | cons=>exact aV
   | nil =>
    show PE X _ (tE X aa ab (ite _ _ _));split
    ·rename_i hp;exact S.f Γ X aa ab m _ _ _ _ G hp
    ·exact aV
  | nil=>cases ks with
   | cons=>cases f<;>exact aV
   | nil=>cases f with
    | Attribute =>
     show PE X _ (tE X aa ab (ite _ _ _));split
     ·rename_i hc;rw[aC]at hc;split
      ·rename_i hx;have hx:=aH hx;subst hx;exact Rz (S.e Γ X aa ab 0 _ G) (kT hc.1) hc.2
      split
      ·rename_i w hw;exact Rg hw (S.e Γ X aa ab 0 _ G) (kT hc.1) hc.2
      ·exact aV
     ·exact aV
    | _=>exact aV
 | _=>exact aV
end
theorem snd:∀n:Nat,Wb n
 | 0=>Fw
 | n+1 =>
  have S:=snd n
  ⟨Sj S,Si S,Sg S,Sh S,N4,N1,Sb S,N2 S,N3 S,R8 S,Sd S,R9 S,RZ S,R0 S,R6 S,R7 S,Se S,Sf S⟩
structure Wc (Γ:Gm) (X:Cx) (aa:Hp) (ab:Fz):Prop extends GOk Γ X aa ab where
 never:PassesOwn (model X.prog X.w) X.A X.env X.xe
def Fx:Expr->Bool
 | .ListComp _ _ _ _=>true
 | _=>false
def Sk:G2:=mF (λ_ _=>true) λi j=>.int (i+j)
def N5:Operator->Option G2
 | .Add=>some Sk
 | _=>none
def sI{c:Prop} [Decidable c] (h:c->PS X e (tS X aa ab f)):PS X e (tS X aa ab (if c then f else bM)):=by
 split
 ·exact h ‹_›
 ·exact f7
section
variable {Γ:Gm} {X:Cx} {x:Str} {p sp:Pos} {e:Expr} {op:Operator} {i:Nat} {aa:Hp} {ab:Fz} {fe:Gx PV} {g:G2}
def Jn(h:N5 op=some g):pE X (inplaceOp op) g:=by
 cases op<;>cases h
 exact eG (qF Hl) (λ_ _ _=>trivial) λ_ _ _=>aw.mpr rfl
def Jo{st:bT}(h:rd i st=some r):∃p,st.ρ[i]?=some (some p)/\r=(.ok p,st):=by
 obtain⟨p,e1,e2⟩:=aM h;cases z:st.ρ[i]? with
 | none=>rw[z]at e1;cases e1
 | some o =>
  rw[z]at e1;cases o with
  | none=>cases e1
  | some p'=>cases e1;exact⟨p,rfl,e2.symm⟩
def Sl(ho:pE X (inplaceOp op) g)(he:PE X e (tE X aa ab fe))(hN:X.N.Nodup)(hi:X.N[i]?=some x)(hx:J1 X.env.scope x)(hf:X.fn x=true\/X.env.scope.names.lookup x=some .local):PS X (.AugAssign (.Name x p) op e sp) (tS X aa ab (n6 (op2 g (rd i) fe) (di i))):=by
 refine(LF hN hi hx he (λae s σ H x y v u Q I r1 r2 t=>ho ae s σ H x y v u Q I r1 r2 t) hf).imp λD σ H h=>?_
 obtain⟨F,st,R,h⟩:=mU h;obtain⟨r,e1,e2⟩:=At.bnd h;obtain⟨q,e3,rfl⟩:=Jo e1;obtain⟨v,h3,h4⟩:=R.l.av i q e3;refine⟨v,h3,F,st,R,Tx.bnd (e2) λy w F1 aL H1 R1 g1 b1 h1=>?_⟩
 obtain⟨z,hz,k⟩:=h1.hp;exact⟨aa,ab,F1,aL,σ,q,y,z,hz,R1,h4.mono g1,b1,k⟩
def vP(G:GOk Γ X aa ab)(hs:slot Γ x=some i)(hx:Pd Γ x=true)(he:PE X e (tE X aa ab fe))(ZV:swapsWith e (some (.Name x p)) sp.line X.env=pure false):PS X (.Assign [.Name x p] e sp) (tS X aa ab (n6 fe (di i))):=by
 obtain⟨h1,h2⟩:=G.NR hx;exact(LD G.nd (G.qV hs) h1 he ZV h2).imp λD σ H h=>mU h
def yG :
  (swapsWith (.ListComp elt gens scope cp) (some (.Name x p)) sp.line X.env=pure true/\X.env.scope.names.lookup x=some .local)\/swapsWith (.ListComp elt gens scope cp) (some (.Name x p)) sp.line X.env=pure false:=by
 have e:swapsWith (.ListComp elt gens scope cp) (some (.Name x p)) sp.line X.env=pure (X.env.blockKind==.function&&X.env.kindOf x==some .local&&p.line==(Expr.ListComp elt gens scope cp).pos.line&&!(scope.names.any fun(n,k)=>n==x&&(k==.local || k==.cell))):=rfl
 rw[e];cases hb:(X.env.blockKind==.function&&X.env.kindOf x==some .local&&p.line==(Expr.ListComp elt gens scope cp).pos.line&&!(scope.names.any fun(n,k)=>n==x&&(k==.local || k==.cell)))with
 | true =>
  refine .inl ⟨rfl,?_⟩;simp only[aC]at hb;exact aH hb.1.1.2
 | false=>exact .inr rfl
def BV(h:(iX e || Fx e)=true)(l:Nat)(env:Env):swapsWith e (some (.Attribute a x p)) l env=pure false:=by
 cases e<;>first | rfl | cases h
def BW{a x:Expr}(h:(iX e || Fx e)=true)(l:Nat)(env:Env):swapsWith e (some (.Subscript a x p)) l env=pure false:=by
 cases e<;>first | rfl | cases h
def yH(h:mX k=true)(env:Env)(v:Value):assign (.Subscript o k p) env v=(do
   let ov <-holding [v] (eval o env)
   let iv <-holding [v,ov] (eval k env)
   standAt p
   holding [v,ov,iv] (setItem ov iv v)
   release [v,ov,iv] []):=by
 cases k<;>first | rfl | cases h
def yI(env:Env):swappedStores [.Subscript o k p] e env=pure none:=by
 cases e<;>rfl
end
def XO:Nat:=8000000
def ZW(Γ:Gm):Expr->Bool
 | .Name x _=>md Γ x==10
 | _=>false
def XQ:Str:="[return]"
def asName(n:Nat)(Γ:Gm)(x:Str)(e:Expr):Gx ek:=if(Pd Γ x&&(iX e || Fx e))=true then(match slot Γ x with | some i=>n6 (aZ n Γ (md Γ x) e) (di i) | none=>bM)else bM
noncomputable def KA(n:Nat)(Γ:Gm)(tg e:Expr):Gx ek:=match tg with
 | .Name x _=>asName n Γ x e
 | .Tuple ts k p=>if Am e=true then(match tY n Γ (.Tuple ts k p)with | some g=>n6 (aZ n Γ 0 e) g.1 | none=>bM)else bM
 | .Subscript o k _=>if(mX k&&(iX e || Fx e))=true then Na (aZ n Γ (RW Γ o) e) (aZ n Γ 0 o) (aZ n Γ 0 k)else bM
 | .Attribute o f _=>if(iX e || Fx e)=true then yr Γ.clss Γ.flds f (aZ n Γ (md Γ f) e) (aZ n Γ 0 o)else bM
 | _=>bM
noncomputable def KC(n:Nat)(Γ:Gm)(tg:Expr)(op:Operator)(e:Expr):Gx ek:=match tg with
 | .Name x _=>if Pd Γ x=true then(match slot Γ x,N5 op with | some i,some g=>n6 (op2 g (rd i) (aZ n Γ 0 e)) (di i) | _,_=>bM)else bM
 | _=>bM
mutual
noncomputable def N6:Nat->Gm->Stmt->Gx ek
 | 0,_,_=>bM
 | n+1,Γ,st=>match st with
  | .Pass _=>bV .nx
  | .Break _=>bV .bk
  | .Continue _=>bV .ct
  | .Return none _=>bV (.rt .aN)
  | .Return (some e) _=>if md Γ XQ==7 then Bg (MY (aZ n Γ 1 e))else Bg (aZ n Γ (md Γ XQ) e)
  | .If c a b _=>jh (qa n Γ c) (kX n Γ a) (kX n Γ b)
  | .While c b [] _=>lP (qa n Γ c) (kX n Γ b) XO
  | .For tg iter body [] _=>if aQ iter=true then(match tY n Γ tg with | some g=>if ZW Γ iter=true then bM else MW (Fv n Γ tg iter) g.1 (kX n Γ body) | none=>bM)else bM
  | .Expr e _=>if iX e=true then DX (aZ n Γ 0 e)else bM
  | .Assign [tg] e _=>KA n Γ tg e
  | .AugAssign tg op e _=>KC n Γ tg op e
  | _=>bM
termination_by structural n=>n
noncomputable def kX:Nat->Gm->List Stmt->Gx ek
 | 0,_,_=>bM
 | n+1,Γ,[]=>bV .nx
 | n+1,Γ,[st]=>N6 n Γ st
 | n+1,Γ,st::Pf=>s9 (N6 n Γ st) (kX n Γ Pf)
termination_by structural n=>n
end
structure Wd (n:Nat):Prop where
 s:∀Γ X aa ab st,Wc Γ X aa ab->PS X st (tS X aa ab (N6 n Γ st))
 ss:∀Γ X aa ab Pf,Wc Γ X aa ab->PSs X Pf (tS X aa ab (kX n Γ Pf))
def N7:PSs X s (tS X aa ab bM):=λ_ _ _ _ _ _ ⟨F,st,R,r,z,_⟩=>by cases z
def N8(G:GOk Γ X aa ab):PS X (.Assign [tg] e sp) (tS X aa ab (KA n Γ tg e)):=by
 have S:=snd n;cases tg with
 | Name x p =>
  refine sI λhc=>?_
  rw[aC]at hc;cases hi:slot Γ x with
  | none=>exact f7
  | some i =>
   rcases Bool.or_eq_true _ _▸hc.2 with hn | hl
   ·exact vP G hi hc.1 (S.e Γ X aa ab _ _ G) (iY hn _ _ _)
   ·cases e<;>try (exact absurd hl cE)
    rcases yG with⟨z,hl⟩ | z
    ·cases n with
     | zero=>exact t7
     | succ n=>exact((snd n).c Γ X aa ab _ _ _ _ _ G).2 i x p sp (G.qV hi) hl z
    ·exact vP G hi hc.1 (S.e Γ X aa ab _ _ G) z
 | Tuple ts k tp =>
  refine sI λhc=>?_
  cases h1:tY n Γ (.Tuple ts k tp)with
  | none=>exact f7
  | some g =>
   obtain⟨g1,g2,g3,g4⟩:=kU G n _ g h1;refine QJ (S.e Γ X aa ab _ _ G) g1 (iY (tW hc) (some (Expr.Tuple ts k tp)) sp.line X.env) ?_ (g3 _);cases e<;>first | rfl | cases hc
 | Subscript o k tp =>
  refine sI λhc=>?_
  rw[aC]at hc;exact Rk G.un (S.e Γ X aa ab _ _ G) (S.e Γ X aa ab _ _ G) (S.e Γ X aa ab _ _ G) (yH hc.1 _) (BW (a:=o) (x:=k) (p:=tp) hc.2 sp.line X.env) (yI _)
 | Attribute=>exact sI λhc=>Ru G.Pe (S.e Γ X aa ab _ _ G) (S.e Γ X aa ab _ _ G) (BV hc _ _)
 | _=>exact f7
def N9(G:GOk Γ X aa ab):PS X (.AugAssign tg op e sp) (tS X aa ab (KC n Γ tg op e)):=by
 cases tg with
 | Name x p =>
  refine sI λhc=>?_
  cases h1:slot Γ x with
  | none=>exact f7
  | some i=>cases h2:N5 op with
   | none=>exact f7
   | some g =>
    obtain⟨l1,l2⟩:=G.NR hc;exact Sl (Jn h2) ((snd n).e Γ X aa ab _ _ G) G.nd (G.qV h1) l1 l2
 | _=>exact f7
theorem We:∀n:Nat,Wd n
 | 0=>⟨λ_ _ _ _ _ _=>f7,λ_ _ _ _ _ _=>N7⟩
 | n+1=>by
  have T:=We n;have S:=snd n;refine⟨λΓ X aa ab st G=>?_,λΓ X aa ab Pf G=>?_⟩
  ·cases st with
   | Pass=>exact Mj
   | Break=>exact HP
   | Continue=>exact Ml
   | Return e=>cases e with
    | none=>exact Mm
    | some e =>
     show PS X _ (tS X aa ab (ite _ _ _));split
     ·exact Ke (Q8 (S.e Γ X aa ab _ _ G.toGOk))
     ·exact Ke (S.e Γ X aa ab _ _ G.toGOk)
   | If=>exact U4 (S.t Γ X aa ab _ G.toGOk) (T.ss Γ X aa ab _ G) (T.ss Γ X aa ab _ G)
   | While c b o=>cases o with
    | nil=>exact HS XO G.never (S.t Γ X aa ab _ G.toGOk) (T.ss Γ X aa ab _ G)
    | cons=>exact f7
   | For tg iter body o=>cases o with
    | cons=>exact f7
    | nil =>
     refine sI λhp=>?_
     cases h1:tY n Γ tg with
     | none=>exact f7
     | some g =>
      show PS X _ (tS X aa ab (ite _ _ _));split
      ·exact f7
      ·exact MX G.never G.calm (S.i Γ X aa ab _ _ G.toGOk) (kU G.toGOk n _ g h1).1 (T.ss Γ X aa ab _ G) (fN hp _)
   | Expr=>exact sI λhc=>Mn (S.e Γ X aa ab _ _ G.toGOk) (iY hc _ _ _)
   | Assign ts=>rcases ts with _ | ⟨_,_ | _⟩<;>first | exact N8 G.toGOk | exact f7
   | AugAssign=>exact N9 G.toGOk
   | _=>exact f7
  ·rcases Pf with _ | ⟨st,_ | _⟩
   ·exact Mh
   ·exact Mi (T.s Γ X aa ab st G)
   ·exact HN (T.s Γ X aa ab st G) (T.ss Γ X aa ab _ G)
def Fy:Nat:=120
abbrev CT:=Str->mI
def noFn:CT:=λ_ _ _=>none
def Oa(P:Pg):List (Str×Nat):=P.cls.map λd=>(d.1,(params d.2).length)
def Sm(P:Pg)(x:Str)(st:Stmt)(cls:List (Str×Nat))(make:CT)(E9:Option ((PV->Gx PV)->Nat->mI))(Fb:Option (Nat×(PV->Gx PV)))(c:CT):Gm where
 sc:=(aA st).names
 N:=bS st
 own:=true
 fns:=P.defs.map λd=>(d.1,(params d.2).length)
 call:=c
 cons:=P.cons
 cb:=P.cb
 tabs:=P.tabs
 cP:=P.cP
 cls:=cls
 make:=make
 clss:=P.cls.map (·.1)
 flds:=P.flds
 Pq:=(P.Pq.lookup x).getD []
 E9:=E9
 Fb:=Fb
def XR(P:Pg)(C:Str)(st:Stmt)(c:CT):Gx ek:=kX Fy (Sm P C st [] noFn none none c) (cW st)
def GH(P:Pg)(c:CT):CT:=λC=>match P.cls.lookup C with | some st=>il (XR P C st c) (bS st).length | none=>λ_ _=>none
def Sn(P:Pg)(x:Str)(c:CT):Option ((PV->Gx PV)->Nat->mI):=none
def So(P:Pg)(x:Str)(st:Stmt)(c:CT):Gx ek:=kX Fy (Sm P x st (Oa P) (GH P c) (Sn P x c) none c) (cW st)
def run(P:Pg):Nat->CT
 | 0=>noFn
 | k+1=>λx=>match P.defs.lookup x with | some st=>il (So P x st (run P k)) (bS st).length | none=>λ_ _=>none
def Ob{P:Pg}{k:Nat}{x:Str}{st:Stmt}(h:P.defs.lookup x=some st):run P (k+1) x=il (So P x st (run P k)) (bS st).length:=by
 show(match P.defs.lookup x with | some st=>il (So P x st (run P k)) (bS st).length | none=>λ_ _=>none)=_
 rw[h]
theorem i3{α β:Type}(g:α->β)(x:Str):∀l:List (Str×α),(l.map λd=>(d.1,g d.2)).lookup x=(l.lookup x).map g
 | []=>rfl
 | (n,a)::r=>by
  rw[aO,gi,gi];cases x==n with
  | true=>rfl
  | false=>exact i3 g x r
section
variable {prog:Program} {w:World} {K:W.Frag} {mg:Str->Option Value} {base:Heap}
structure BX (P:Pg) (w:World) (K:W.Frag) (mg:Str->Option Value):Prop where
 fns:∀x st,P.defs.lookup x=some st->∃f fd,AM K x x st f fd/\fG K fd (params st) []/\mg x=some (.ref f)/\cV (bS st) (params st) (aA st)
 cons:∀x p,P.cons.lookup x=some p->∃u v,mg x=some u/\RelV v u/\∀F,bc K F p v
 cb:∀x,P.cb.contains x=true->mg x=none
 tabs:∀T rows,P.tabs.lookup T=some rows->Ab K mg w.params T rows
 cP:∀T rows,P.cP.lookup T=some rows->ot K mg w.params T rows
 ns:∀x a,W.nsIn K mainGlobals x=some (some (.ref a))->mg x=some (.ref a)
 Pe:EK K (P.cls.map (·.1)) P.flds
 cls:∀C st,P.cls.lookup C=some st->∃Ca f fd,ClsAt K C (.ref Ca)/\AL K Ca/\Mk K Ca f/\mg C=some (.ref Ca)/\AM K "__init__" (C++".__init__") st f fd/\fG K fd (params st) []/\cV (bS st) (params st) (aA st)
def FR(P:Pg)(prog:Program)(w:World)(K:W.Frag)(mg:Str->Option Value)(base:Heap)(k:Nat):Prop:=∀(x:Str) (st:Stmt) (f:Addr) (fd:FuncData),P.defs.lookup x=some st->mg x=some (.ref f)->AM K x x st f fd->cV (bS st) (params st) (aA st) ->
 FnOk prog w K mg base (kc prog w) (3*k) f fd (params st) (BA K (params st).length (run P k x))
section
variable {P:Pg} (O:BX P w K mg) {k:Nat} (ih:FR P prog w K mg base k)
include O ih
def Sq{X:Cx}(h1:X.prog=prog)(h2:X.w=w)(h3:X.K=K)(h4:X.mg=mg)(h5:X.base=base):RV X (3*k) (P.defs.map λd=>(d.1,(params d.2).length)) (run P k):=λy n hy=>by
 subst h1 h2 h3 h4 h5;rw[i3 (λst=>(params st).length)]at hy
 obtain⟨bK,h1,h2⟩:=aM hy;subst h2;obtain⟨f',Ph,F1,B1,m1,S1⟩:=O.fns y bK h1;exact⟨3*k,f',Ph,params bK,ar _,ih y bK f' Ph h1 m1 F1 S1,m1,F1.kp,B1⟩
def KD{st:Stmt}{x q:Str}{f:Addr}{eE:Value}{A:Around}{aB:List Env}{s:Shared}{H aa:Hp}{ab:Fz}{E:XK}{cls:List (Str×Nat)}{make:CT}{E9:Option ((PV->Gx PV)->Nat->mI)}{Fb:Option (Nat×(PV->Gx PV))}{j:Nat}(S:cV (bS st) (params st) (aA st))
  (hr:dP j (A.deeper (envOfC q (aA st) s.heap.objs.size f eE))) (hj:3*k<=j) (hcl:∀C n,cls.lookup C=some n->∃k' Ca f' fd ps,ClsAt K C (.ref Ca)/\AL K Ca/\Mk K Ca f'/\FnOk prog w K mg base (kc prog w) k' f' fd ps (BA K n (make C))/\dP (k'+1) (A.deeper (envOfC q (aA st) s.heap.objs.size f eE))/\mg C=some (.ref Ca)/\fG K fd ps [])
  (Wf:∀rs,E9=some rs->Kx (Sm P x st cls make E9 Fb (run P k)) (fH (kc prog w) prog w K mg base (bS st) q (aA st) f eE A aB s H E) rs)
  (Wg:∀n ω,Fb=some (n,ω)->EL (fH (kc prog w) prog w K mg base (bS st) q (aA st) f eE A aB s H E) aa ab n ω) :
  Wc (Sm P x st cls make E9 Fb (run P k)) (fH (kc prog w) prog w K mg base (bS st) q (aA st) f eE A aB s H E) aa ab:=by
 refine⟨⟨rfl,rfl,S.nd,S.kind,rfl,hr.hd,?_,λ_ _=>rfl,λy n hy=>?_,O.cons,O.cb,O.tabs,O.cP,O.ns,O.Pe,hcl,Wf,Wg⟩,PassesOwn.leaving⟩
 ·have:=hr.un;show(A.deeper _).units+1150<cLine
  lia
 ·obtain⟨i,f',Ph,ps,h1,h2,h3,h4,h5⟩:=Sq (X:=fH (kc prog w) prog w K mg base (bS st) q (aA st) f eE A aB s H E) O ih rfl rfl rfl rfl rfl y n hy;exact⟨i,f',Ph,ps,h2,hr.mono (aD h1 hj),h3,h4,h5⟩
def Sr{C:Str}{st:Stmt}{f:Addr}{fd:FuncData}(h:P.cls.lookup C=some st)(F:AM K "__init__" (C++".__init__") st f fd)(S:cV (bS st) (params st) (aA st)):FnOk prog w K mg base (kc prog w) (3*k+1) f fd (params st) (BA K (params st).length (GH P (run P k) C)):=by
 have e:GH P (run P k) C=il (XR P C st (run P k)) (bS st).length:=by
  unfold GH;rw[h]
 rw[e];exact EC F S λeE A aB s H E _ hr aa ab=>(We Fy).ss _ _ aa ab _ (KD O ih S hr (ar _) (λ_ _ z=>by cases z) (λ_ z=>by cases z) λ_ _ z=>by cases z)
end
theorem FA{P:Pg}(O:BX P w K mg)(hB:P.pK≠[]->DR mg base):∀(k:Nat),FR P prog w K mg base k
 | 0=>λx st f fd h zF F S=>by
  have no:∀vs H Q E,¬BA K (params st).length (run P 0 x) vs H Q E:=λvs H Q E ⟨_,_,_,_,_,_,_,_,_,_,z,_⟩=>by cases z
  exact⟨λvs H Q E h=>absurd h (no vs H Q E),λA aB s H args us vs Q E _ _ _ _ h=>absurd h (no vs H Q E)⟩
 | k+1=>λx st f fd h zF F S=>by
  have ih:=FA (P:=P) O hB k;rw[Ob h];refine EC (k:=3*k+2) F S λeE A aB s H E Xw hr aa ab=>(We Fy).ss _ _ aa ab _ (KD O ih S hr (xn _ _) (λC n hy=>?_) (λrs e=>by cases e) λ_ _ z=>by cases z)
  unfold Oa at hy;rw[i3 (λst=>(params st).length)]at hy
  obtain⟨bK,h1,h2⟩:=aM hy;subst h2;obtain⟨Ca,f',Ph,a,c,M,m1,F1,B1,S1⟩:=O.cls C bK h1;exact⟨3*k+1,Ca,f',Ph,params bK,a,c,M,Sr O ih h1 F1 S1,hr,m1,B1⟩
def FC(ns:List Int):PV:=.lst (ns.map .int)
theorem vQ{F:Fz}:∀ns:List Int,ao K F (ns.map .int) (ns.map V.int)
 | []=>.nil
 | n::r=>.cons (aw.mpr rfl) (vQ r)
end
theorem eA{α β:Type} [BEq α] [LawfulBEq α] {k:α} {v:β}:∀{l:List (α×β)},l.lookup k=some v->(k,v)∈l
 | [],h=>by cases h
 | (a,b)::l,h=>by
  rw[gi]at h;cases z:k==a with
  | true =>
   rw[z]at h;cases h;rw[aH z];exact dc
  | false =>
   rw[z]at h;exact da _ (eA h)
def AN.at{K:W.Frag}{h:Heap}{mg:Str->Option Value}{P:Params}{T:Str}{rows:List (Str×Str)}(x:AN K P T rows)(X:K.In h)(G:h.Ns mainGlobals mg):Ab K mg P T rows:=by
 obtain⟨a,es,n,h1,h2,h3,h4⟩:=x;refine⟨a,es,n,W.mg_of X G h1,h2,h3,λk fn e=>?_⟩
 obtain⟨f,h5,h6⟩:=h4 (k,fn) (eA e);exact⟨f,h5,W.mg_of X G h6,h6⟩
def uD.at{K:W.Frag}{h:Heap}{mg:Str->Option Value}{P:Params}{T:Str}{rows:List (Str×PV)}(x:uD K P T rows)(X:K.In h)(G:h.Ns mainGlobals mg):ot K mg P T rows:=by
 obtain⟨a,es,n,h0,h1,h2,h3,h4⟩:=x;exact⟨a,es,n,h0,W.mg_of X G h1,h2,h3,λk p e=>h4 (k,p) (eA e)⟩
def CY.at{K:W.Frag}{h base:Heap}{mg:Str->Option Value}(b:CY K)(X:K.In h)(G:h.Ns mainGlobals mg)(Y:K.In base):DR mg base :=
 let ⟨bm,o,h1,h2,h3,h4,h5⟩:=b;⟨bm,o,W.mg_of X G h1,h2,h3,Y _ _ h4,h5⟩
def vR(K:W.Frag):List (Addr×Str):=cO.filterMap λx=>(W.tabIn K x).map λcT=>(cT.2,G3 x)
theorem q8{α β:Type} [BEq α] [LawfulBEq α] {b:α} {q:β}:∀{l:List (α×β)},(l.map (·.1)).Nodup->(b,q)∈l->l.lookup b=some q
 | [],_,h=>nomatch h
 | (a,v)::l,hn,h=>by
  rw[aO,iG]at hn;rw[gi];rcases aX.mp h with e | h'
  ·grind
  ·have:(b==a)=false:=by
    grind
   rw[this];exact q8 hn.2 h'
def BY(K:W.Frag):(vR K).map (·.1)=cO.filterMap λx=>(W.tabIn K x).map (·.2):=by
 unfold vR;rw[List.map_filterMap]
 congr 1
 funext x
 cases W.tabIn K x<;>rfl
def ki.tabs{K:W.Frag}{h:Heap}(t:ki K h)(X:K.In h):(∀b q,(vR K).lookup b=some q->h.get? b=some {cls:=.none,data:=.fields #[]}/\isCodeTable h b/\K.lookup b=none)/\∀H:Hp,(∀b q,(vR K).lookup b=some q->H b=some (.fQ q))->nM K H:=by
 refine⟨λb q e=>?_,λH hH x hx c T e=>?_⟩
 ·have hm:=eA e;unfold vR at hm;obtain⟨x,hx,e2⟩:=nk.mp hm;obtain⟨cT,e3,e4⟩:=iy.mp e2;cases e4;obtain⟨h1,h2,h3⟩:=t.at_ x hx cT.1 cT.2 e3;obtain⟨o,vs,_,_,_,_,_,_,_,g1,g2,g3,g4,_⟩:=W.codeHd_of_K X h1;exact⟨h2,⟨_,o,vs,g1,g2,g3,g4⟩,h3⟩
 ·refine hH T (G3 x) (q8 (by rw[BY];exact t.nd) ?_)
  exact nk.mpr ⟨x,hx,by rw[e];rfl⟩
def Ss(P:Pg):Bool:=P.pK.isEmpty || (match P.defs.lookup ("spread":Str)with | some st=>(params st).length==2 | none=>true)
def Wh{P:Pg}{K:W.Frag}{h:Heap}{mg:Str->Option Value}(X:K.In h)(G:h.Ns mainGlobals mg)(hd:∀d∈P.defs,CW K d.1 d.2)
  (hc:∀d∈P.cons,∃u v,W.nsIn K mainGlobals d.1=some (some u)/\RelV v u/\∀F,bc K F d.2 v) (hb:∀x∈P.cb,W.nsIn K mainGlobals x=some none) {w:World} (ht:∀d∈P.tabs,AN K w.params d.1 d.2) (hcl:∀d∈P.cls,K9 K d.1 d.2 P.flds) (hct:∀d∈P.cP,uD K w.params d.1 d.2) (LS:Ss P=true) (WU:∀x∈P.pK,La K x):BX P w K mg where
 fns:=λx st e=>by
  obtain⟨⟨f,fd,a,F,b⟩,s⟩:=hd (x,st) (d7 e);exact⟨f,fd,F,.all b,W.mg_of X G a,s⟩
 cons:=λx p e=>by
  obtain⟨u,v,a,r,b⟩:=hc (x,p) (d7 e);exact⟨u,v,W.mg_of X G a,r,b⟩
 cb:=λx e=>W.mg_none_of X G (hb x (by simpa using e))
 tabs:=λT rows e=>(ht (T,rows) (eA e)).at X G
 cP:=λT rows e=>(hct (T,rows) (eA e)).at X G
 ns:=λx a e=>W.mg_of X G e
 Pe:=λC e=>by
  have e:C∈P.cls.map (·.1):=by simpa using e
  obtain⟨d,hd,rfl⟩:=ee.mp e;obtain⟨Ca,f,fd,a,M,c,na,F,b,s⟩:=hcl d hd;exact⟨Ca,a,c,λg hg=>na g (by simpa using hg)⟩
 cls:=λC st e=>by
  obtain⟨Ca,f,fd,a,M,c,na,F,b,s⟩:=hcl (C,st) (d7 e);exact⟨Ca,f,fd,a,c,M,W.mg_of X G a,F,.all b,s⟩
def TZ(o:Option (Rs PV×List ah)):Prop:=∃h,o=some (.ok (.bl true),h)
def Oc{K:W.Frag}{P:Pg}{k:Nat}{H:Hp}{a:Addr}{ns:List Int}(hr:TZ (run P k "law" [FC ns] []))(hS:gq K H a (ns.map V.int)):BA K 1 (run P k "law") [.ref a] H (λv _=>v=.bl true) λ_ _ _=>False :=
 let ⟨h,e⟩:=hr
 ⟨H,⟨H,[]⟩,[],[FC ns],_,h,⟨bU.refl H,bU.refl H,Gr.refl _,λ_ _ e=>.inl e,λn a e=>by simp at e,rfl,lF,λn c a e=>by simp at e⟩,λ_ _ e=>.inl e,.cons (cw.mpr ⟨a,_,rfl,hS,vQ ns⟩) .nil,rfl,e,λv F' H' _ b=>aR.mp b⟩
def FD{P:Pg}{N:Nat}{x:Str}{st:Stmt}{l:W.OpenLaw}{q:Program}{loose:List Str}{XP:(Str->Option Value)->Heap->Prop}{YP:World->Heap->Prop}{d:DefRec}(j9:P.defs.lookup ("law":Str)=some st)(hx:params st=[x])
  (hn:l.most=some 63) (RE:d.name="law") (UW:d.params.defaults=[]) (hr:dP (3*N) callerA) (LS:Ss P=true) (hY:∀(w:World) (h:Heap),YP w h->∃K:W.Frag,K.In h/\CZ P w K/\ki K h)
  (Wi:∀ns:List Int,ns.length<=63->TZ (run P N "law" [FC ns] [])):W.WalkO q loose XP YP l.row.toRowW d [] (λf vs=>PySem.call f vs):=by
 refine W4.uW hn UW λw s₀ s₁ mg mb fa o pm cd doc a vs ns G Y ho hd Cz zF DN DO cX hg=>?_
 obtain⟨K,KX,T,TH⟩:=hY w _ Y;obtain⟨t1,t2⟩:=TH.tabs KX;have O:=Wh KX G.T.g T.hd T.hc T.hb T.ht T.hcl T.hct LS T.WU;obtain⟨⟨f,fd,e0,F,b⟩,s⟩:=T.hd ("law",st) (d7 j9);rw[RE]at zF;have e:=zF.symm.trans (W.mg_of KX G.T.g e0);cases e;rw[hx]at b;refine Bc (CX:=kc l.prog w) KX G.T.g G.T.b G.T.builtins G.T.nolimit hg t1 t2 DN DO (aD cX (by decide)) hr (λbase kb _=>?_) (λs u=>.of_eq (b [u] rfl)) (λH hS=>Oc (Wi ns cX) hS) (by rintro _ _ _ ⟨_,_,_,_,_,_,_,_,_,_,_,h,_⟩;exact h)
 have k:=FA (prog:=l.prog) O (λz=>(T.hbm z).at KX G.T.g kb) N "law" st _ fd j9 (W.mg_of KX G.T.g e0) F s
 rw[hx]at k;exact k
abbrev Ev{α:Type}(f:Gx α)(s:bT)(a:α)(s':bT):Prop:=f s=some (.ok a,s')
abbrev Ek {α : Type} (f : Gx α) (s : bT) (a : α) : Prop := Ev f s a s
section
variable {α β:Type} {s s1 s2 s3:bT}
def eB(h:Ev f s a s1)(h2:k a s1=r):bnd f k s=r:=by
 show(f s).bind (Qt k)=r;rw[h];exact h2
variable {fa fb fe:Gx PV} {ts:Gx (List PV)} {p q x y z:PV} {ps as:List PV}
variable {f g:Gx ek} {r:Option (Rs ek×bT)}
def Wj(e:f ⟨gY n as,h⟩=some (.ok (.rt p),⟨pF,h'⟩)):il f n as h=some (.ok p,h'):=by
 unfold il;rw[e];rfl
def Wk(e:f ⟨gY n as,h⟩=some (.ok .nx,⟨pF,h'⟩)):il f n as h=some (.ok .aN,h'):=by
 unfold il;rw[e];rfl
variable {t:Tg} {body:Gx ek}
def fC(ht:t p s=some s1)(hb:Ev body s1 .nx s2)(h:eY t body ps s2=r):eY t body (p::ps) s=r:=eB (show Ev (stp (t p)) s .nx s1 by show(t p s).map _=_;rw[ht];rfl) (eB hb h)
def e1(ht:t p ⟨ρ,h⟩=some ⟨Vh,h1⟩)(he:Ev fe ⟨Vh,h1⟩ q ⟨Su,h2⟩):om t fe ρ p h=some (some q,h2):=by
 unfold om;rw[ht,eU,he];rfl
end
end L2.U
namespace L2.U
open PySem L2
def g7(hp:noRef p=true):gZ h p=some p:=by
 unfold gZ;split
 ·rfl
 ·unfold kL;rw[if_pos hp]
end L2.U
noncomputable section
namespace cA
open PySem L2 L2.U
abbrev Sv:Stmt:=top 99
abbrev kI (n : Int) : Gx PV := bV (.int n)
abbrev kS (s : Str) : Gx PV := bV (.str s)
abbrev Q0 := Bg (bV (.bl false))
abbrev Q1 := fu (rd 1) (bV [])
def Jp:List Str:=["Scene"]
abbrev Rn(x:Str)(F:CT->Gx ek)(n:Nat):Prop:=∀k,run aS (k+1) x=il (F (run aS k)) n
open Lean Meta in
dsimproc_decl XS (Str.mk _):=λe=>do
 let .app _ (.app _ l):=e | return .continue
 let some l <-getListLit? l | return .continue
 return .done (mkApp (mkConst ``Str.ofString) (toExpr (String.ofList (l.toList.map λx=>Char.ofNat (x.nat?.getD 0)))))
open Lean in
dsimproc_decl XT (Int.ofNat _):=λe=>do
 let .app _ n:=e | return .continue
 let some n:=n.nat? | return .continue
 return .done (toExpr (n:Int))
def dm(x:Str)(i n k:Nat){f:CT->Gx ek}(h:∀k,run aS (k+1) x=il (So aS x (top i) (run aS k)) n:=by intro _;kernel_rfl)(e:∀c,So aS x (top i) c=f c:=by intro c;conv=>(lhs;reduce;simp only[XS,XT])):run aS (k+1) x=il (f (run aS k)) n:=by rw[h,e]
def XU(s:List Stmt):List Nat->List Stmt
 | []=>s
 | i::r=>XU (match s[i]? with | some (.For _ _ b _ _) | some (.If _ b _ _)=>b | _=>[]) r
def Jq(x:Str)(i:Nat)(p:List Nat)(c:CT):Gx ek:=kX Fy (Sm aS x (top i) (Oa aS) (GH aS c) (Sn aS x c) none c) (XU (cW (top i)) p)
abbrev q9(a:Gx ek){f:Gx ek}(_:a=f:=by conv=>(lhs;reduce;simp only[XS,XT])):Gx ek:=f
section
seal vj s9 yr op2 fw rd bnd fu bV iZ iT pY om Ef di DX IK D9 jh toB yg Bg O4 n6 Mf MW yi D2 bM ye chain W9 W8 jK Sk H0 cutE D1 lW lS kB pU fZ td uZ Nb MB lP Na pX iM yl qO EH Tz O8 En Io VL HM Ng U8 HX HZ Rx GH Nf Ej Bv QK Xa fT Mr D3 u5 Bh Ij Il Md Ag il kH Nt BC MC NP IX NL M8 IB NC IZ Xe Ja IY p7 MY l4
def Ao(c:CT):Gx ek :=
 (s9 (yr Jp aS.flds "kinds" (Ag (op2 fw (rd 2) (kI 1)) (op2 fw (rd 2) (kI 3))) (rd 0))
  (s9 (yr Jp aS.flds "result" (op2 fw (rd 2) (kI 2)) (rd 0))
  (s9 (yr Jp aS.flds "size" (yi jK (fu (op2 fw (rd 2) (kI 4)) (bV []))) (rd 0))
  (yr Jp aS.flds "heads" (IX (iT false [none,none] (pY (rd 1)) (om (di 1) (O4 .aq (fu (op2 fw (rd 1) (kI 0)) Q1))))) (rd 0)))))
theorem FE(c:CT):GH aS c "Scene"=il (Ao c) 3:=by kernel_rfl
noncomputable def oT(c:CT):Gx ek :=
 (s9 (jh (ye (uZ (bnd (fu (rd 0) (fu (kI 1) (fu (kI 6) (bV [])))) (iZ 0 3 (c "is_tuple_from")))))
  Q0
  (bV .nx))
  (s9 (jh (ye (uZ (yi p7 (fu (iT false [none,none] (pY (rd 0)) (om (di 1) (bnd Q1 (iZ 0 1 (c "is_head"))))) (bV [])))))
  Q0
  (bV .nx))
  (s9 (jh (jh (ye (uZ (bnd (fu (iT false [none,none] (pY (rd 0)) (om (di 1) (op2 fw (rd 1) (kI 0)))) (bV [])) (iZ 0 1 (c "are_apart"))))) (bV true) (ye (uZ (bnd (fu (op2 fw (rd 0) (kI 0)) (bV [])) (iZ 0 1 (c "may_be_run"))))))
  Q0
  (bV .nx))
  (Bg (yi p7 (fu (iT false [none,none,some 0] (pY (rd 0)) (om (di 1) (bnd (fu (Rx "Scene" 3 (GH aS c "Scene") (fu (rd 2) Q1)) (fu (op2 fw (rd 1) (kI 4)) (bV []))) (iZ 0 2 (c "are_rows"))))) (bV [])))))))
theorem t8:Rn "is_right" oT 1:=λ_=>by kernel_rfl
def f9(k:Nat):=dm "is_tuple_from" 28 3 k
def ic(k:Nat):=dm "is_tuple_of" 29 2 k
def vS(k:Nat):=dm "is_name" 30 1 k
def qb(k:Nat):=dm "are_apart" 31 1 k
def jU(k:Nat):=dm "is_holder_kind" 32 1 k
def vT(k:Nat):=dm "is_kind" 33 1 k
def t9(k:Nat):=dm "shape_of" 35 1 k
def ua(k:Nat):=dm "has_kind" 36 3 k
def vU(k:Nat):=dm "is_head" 37 1 k
def qc(k:Nat):=dm "are_named" 38 2 k
def qd(k:Nat):=dm "is_result" 39 2 k
def mM(k:Nat):=dm "are_sources" 40 3 k
def oU(k:Nat):=dm "may_be_run" 41 1 k
def gf(k:Nat):=dm "is_spot" 42 3 k
def vV(k:Nat):=dm "is_path" 43 2 k
def oV(k:Nat):=dm "spot_shape" 44 2 k
def rf(k:Nat):=dm "is_at" 45 3 k
def jV(k:Nat):=dm "is_number_spot" 46 2 k
def l5(k:Nat):=dm "is_part_spot" 47 2 k
def kY(k:Nat):=dm "is_owned_part" 48 2 k
def jo(k:Nat):=dm "is_written_part" 49 2 k
def jW(k:Nat):=dm "may_be_written" 50 2 k
def oW(k:Nat):=dm "is_operand" 51 2 k
def ub(k:Nat):=dm "are_rows" 52 2 k
def yJ(k:Nat):=dm "is_row" 53 2 k
def yK(k:Nat):=dm "is_put" 54 2 k
def qe(k:Nat):=dm "is_target" 55 2 k
def yL(k:Nat):=dm "is_set" 56 2 k
def vW(k:Nat):=dm "is_fill" 57 2 k
def vX(k:Nat):=dm "is_copy" 58 2 k
def qf(k:Nat):=dm "are_alike" 59 3 k
def vY(k:Nat):=dm "is_move" 60 2 k
def vZ(k:Nat):=dm "is_drop" 61 2 k
def v3(k:Nat):=dm "is_lend" 62 2 k
def v5(k:Nat):=dm "is_sole" 63 2 k
def v7(k:Nat):=dm "is_call" 64 3 k
def oX(k:Nat):=dm "takes_back" 65 3 k
def BZ(k:Nat):=dm "is_if" 66 2 k
def v9(k:Nat):=dm "is_jump" 67 2 k
def B0(k:Nat):=dm "is_go" 68 2 k
def yM(k:Nat):=dm "is_say" 69 2 k
def wa(k:Nat):=dm "is_give" 70 2 k
def uc(k:Nat):=dm "_law_cell_at" 74 2 k
def yN(k:Nat):=dm "_law_mixed" 75 1 k
noncomputable def oY(c:CT):=q9 (Jq "_law_names" 76 [4,1] c)
noncomputable def jX(c:CT):=q9 (Jq "_law_names" 76 [4] c)
def yO(k:Nat):=dm "_law_names" 76 9 k
noncomputable def jY(c:CT):=q9 (Jq "_law_spots" 80 [1,1] c)
noncomputable def oZ(c:CT):=q9 (Jq "_law_spots" 80 [1] c)
def yP(k:Nat):=dm "_law_spots" 80 8 k
def FF(k:Nat):=dm "_law_ten" 81 7 k
def wb(k:Nat):=dm "_law_called" 82 6 k
def jZ(k:Nat):=dm "_law_heads" 84 8 k
def wc(k:Nat):=dm "_law_turned" 85 8 k
def B2(k:Nat):=dm "_law_spot" 86 8 k
def ud(k:Nat):=dm "_law_operand" 87 5 k
def B3(k:Nat):=dm "_law_name" 88 5 k
noncomputable def ju(c:CT):=q9 (Jq "_law_call_row" 89 [3] c)
def qg(k:Nat):=dm "_law_call_row" 89 13 k
def o6(k:Nat):=dm "_law_thing_row" 90 8 k
def ue(k:Nat):=dm "_law_any_row" 91 12 k
noncomputable def jv(c:CT):=q9 (Jq "_law_shape_at" 92 [1] c)
noncomputable def cD(c:CT):=q9 (Jq "_law_shape_at" 92 [2] c)
def eI(k:Nat):=dm "_law_shape_at" 92 7 k
def o7(k:Nat):=dm "_law_is_number" 93 2 k
def uf(k:Nat):=dm "_law_written" 94 3 k
def fg(k:Nat):=dm "_law_thing_fits" 95 4 k
def yQ(k:Nat):=dm "_law_taken" 96 3 k
noncomputable def dS(c:CT):=q9 (Jq "_law_call_fits" 97 [0] c)
def o8(k:Nat):=dm "_law_call_fits" 97 5 k
def B4(k:Nat):=dm "_law_fits" 98 5 k
noncomputable def Ap(c:CT):=q9 (Jq "law" 99 [4] c)
def Jr(k:Nat):=dm "law" 99 10 k
end
end cA
namespace L2.U
section
open PySem
theorem XY{α:Type}{o:Option α}{v:α}{st:bT}(h:o=some v):fy o st=some (.ok v,st):=by show o.map _=_;rw[h];rfl
theorem Z2{α:Type}{g:List ah->Option α}{v:α}{st:bT}(h:g st.h=some v):hp g st=some (.ok v,st):=by show(g st.h).map _=_;rw[h];rfl
theorem XZ{g:bT->Option bT}{st bK:bT}(h:g st=some bK):stp g st=some (.ok .nx,bK):=by show(g st).map _=_;rw[h];rfl
theorem X0{α β:Type}{f:Gx α}{k:α->Gx β}{st s1:bT}{a:α}{r:Option (Rs β×bT)}(h:f st=some (.ok a,s1))(h2:k a s1=r):bnd f k st=r:=eB h h2
theorem Z4{α:Type}{b:Bool}{f g:Gx α}{st:bT}{r:Option (Rs α×bT)}(h:b=true)(h2:f st=r):(if b=true then f else g) st=r:=by rw[if_pos h];exact h2
theorem Z5{α:Type}{b:Bool}{f g:Gx α}{st:bT}{r:Option (Rs α×bT)}(h:b=false)(h2:g st=r):(if b=true then f else g) st=r:=by rw[if_neg (by rw[h];exact cE)];exact h2
theorem Wl{α:Type}{gc:Gx Bool}{f g:Gx α}{st s1:bT}{r:Option (Rs α×bT)}(h:gc st=some (.ok true,s1))(h2:f s1=r):jh gc f g st=r:=eB h h2
theorem Wm{α:Type}{gc:Gx Bool}{f g:Gx α}{st s1:bT}{r:Option (Rs α×bT)}(h:gc st=some (.ok false,s1))(h2:g s1=r):jh gc f g st=r:=eB h h2
theorem Wn{f:Gx ek}{n:Nat}{as:List PV}{h:List ah}{p:PV}{bK:bT}(e:f ⟨gY n as,h⟩=some (.ok (.rt p),bK)):il f n as h=some (.ok p,bK.h):=Wj e
theorem Wo{f:Gx ek}{n:Nat}{as:List PV}{h:List ah}{bK:bT}(e:f ⟨gY n as,h⟩=some (.ok .nx,bK)):il f n as h=some (.ok .aN,bK.h):=Wk e
theorem Js{n:Nat}{g:mI}{as:List PV}{st:bT}{p q:PV}{h':List ah}(hn:(st.h.isEmpty || aT as)=true)(hl:as.length=n)(hc:g as []=some (.ok p,h'))(hf:gZ h' p=some q):jO n g as st=some (.ok q,st):=by
 unfold jO;rw[if_pos ⟨hl,hn⟩,hc];show(gZ h' p).map _=_;rw[hf];rfl
theorem Wq{n:Nat}{g:mI}{as:List PV}{st:bT}{p q:PV}{h':List ah}(hn:(st.h.isEmpty || aT as)=true)(hl:as.length=n)(hc:g as []=some (.ok p,h'))(hf:gZ h' p=some q):iZ 0 n g as st=some (.ok q,st):=by
 unfold iZ;rw[hn,if_pos (show((0==0)&&true)=true from rfl)]
 exact Js hn hl hc hf
theorem B5{α:Type}{f:α->PV}{q:α->PV}{h:List ah}{bd:PV->List ah->Option (Option PV×List ah)}:∀{L:List α},(∀x∈L,bd (f x) h=some (some (q x),h))->gB bd (L.map f) h=some (L.map q,h)
 | [],_=>rfl
 | x::L,H=>by
  show(bd (f x) h).bind _=_;rw[H x dc];show(gB bd (L.map f) h).map _=_;rw[B5 λy hy=>H y (da _ hy)]
  rfl
theorem B6{α:Type}{f:α->PV}{q:α->PV}{b:α->Bool}{h:List ah}{bd:PV->List ah->Option (Option PV×List ah)}:∀{L:List α},(∀x∈L,bd (f x) h=some (if b x=true then some (q x)else none,h))->gB bd (L.map f) h=some ((L.filter b).map q,h)
 | [],_=>rfl
 | x::L,H=>by
  show(bd (f x) h).bind _=_;rw[H x dc];show(gB bd (L.map f) h).map _=_;rw[B6 λy hy=>H y (da _ hy)]
  cases e:b x with
  | true=>rw[List.filter_cons_of_pos e];rfl
  | false=>rw[List.filter_cons_of_neg (by rw[e];exact cE)];rfl
theorem Wr{link:List (Option Nat)}{fi:Gx zY}{bd:Bd}{st s1:bT}{ps qs:List PV}{h':List ah}(hi:fi st=some (.ok (.sq ps),s1))(hl:ps.length<=4000000)(hc:gB (bd (dg link s1.ρ)) ps s1.h=some (qs,h')):iT false link fi bd st=some (.ok (.lst qs),⟨s1.ρ,h'⟩):=eB hi (by
 show(if ps.length<=iN then gB _ ps s1.h else none).bind _=_
 rw[if_pos (show ps.length<=iN from hl),hc]
 rfl)
theorem Ws{t:Tg}{fe:Gx PV}{ρ:List (Option PV)}{p q:PV}{h:List ah}{aL:bT}{Su:List (Option PV)}{h2:List ah}(ht:t p ⟨ρ,h⟩=some aL)(he:fe aL=some (.ok q,⟨Su,h2⟩)):om t fe ρ p h=some (some q,h2):=by
 unfold om;rw[ht,eU,he];rfl
theorem Wt{t:Tg}{ft:Gx Bool}{fe:Gx PV}{ρ:List (Option PV)}{p q:PV}{b:Bool}{h:List ah}{aL:bT}{Su Z6:List (Option PV)}(ht:t p ⟨ρ,h⟩=some aL)(hw:ft aL=some (.ok b,⟨Su,h⟩))(he:b=true->fe ⟨Su,h⟩=some (.ok q,⟨Z6,h⟩)):Ef t ft fe ρ p h=some (if b=true then some q else none,h):=by
 unfold Ef;rw[ht,eU,hw];cases b with
 | false=>rfl
 | true =>
  show(fe _).bind _=_;rw[he rfl];rfl
theorem Wu{fa fb:Gx PV}{st s1:bT}{b b2:Bool}(h:fa st=some (.ok (.bl b),s1))(h2:b=true->fb s1=some (.ok (.bl b2),s1)):HM fa fb st=some (.ok (.bl (b&&b2)),s1):=eB h (by
 cases b with
 | false=>rfl
 | true=>exact h2 rfl)
theorem X1{fa fb:Gx PV}{st s1:bT}{b b2:Bool}(h:fa st=some (.ok (.bl b),s1))(h2:b=false->fb s1=some (.ok (.bl b2),s1)):Tz fa fb st=some (.ok (.bl (b || b2)),s1):=eB h (by
 cases b with
 | true=>rfl
 | false=>exact h2 rfl)
theorem Pj{bd:PV->List ah->Option (Option PV×List ah)}{h:List ah}:gB bd [] h=some ([],h):=rfl
theorem Od{bd:PV->List ah->Option (Option PV×List ah)}{p:PV}{ps qs:List PV}{o:Option PV}{h h1 h2:List ah}(e1:bd p h=some (o,h1))(e2:gB bd ps h1=some (qs,h2)):gB bd (p::ps) h=some (o.toList++qs,h2):=by
 show(bd p h).bind _=_;rw[e1];show(gB bd ps h1).map _=_;rw[e2];rfl
theorem Z7{C:Str}{n:Nat}{g:mI}{ts:Gx (List PV)}{st s1:bT}{as:List PV}{h':List ah}{q:PV}(Wv:ts st=some (.ok as,s1))(hl:as.length+1=n)(hn:(s1.h.isEmpty || aT as)=true)(hg:g (.ref 0::as) [⟨.ins C [],[]⟩]=some (.ok .aN,h'))(hd:kL h' 4 (.ref 0)=some q):Rx C n g ts st=some (.ok q,s1):=eB Wv (by
 show(if as.length+1=n/\(s1.h.isEmpty || aT as)=true then(g (.ref 0::as) [⟨.ins C [],[]⟩]).bind (Rv s1)else none)=_
 rw[if_pos ⟨hl,hn⟩,hg];show(kL h' 4 (.ref 0)).map _=_;rw[hd];rfl)
def gx{α:Type}(f:Gx α)(st:bT):Option (Rs α×bT):=f st
theorem X2{α:Type}{f:Gx α}{st:bT}{r:Option (Rs α×bT)}(h:f st=r):gx f st=r:=h
theorem dE{α:Type}{f:Gx α}{st:bT}{r:Option (Rs α×bT)}(h:gx f st=r):f st=r:=h
end
end L2.U
namespace cA
open PySem L2 L2.U
inductive Sx where
 | nu | ow | st (n:Fin 8) | tw | os (n:Fin 8)
 deriving DecidableEq
abbrev pN:PV:=.aq [.str "num"]
abbrev pO:PV:=.aq [.str "own"]
abbrev pT:PV:=.aq [.str "rec",.aq [pN,pN]]
def pS(n:Fin 8):PV:=.aq [.str "strip",.int (1+(n.val:Int))]
def cK:Sx->PV
 | .nu=>pN
 | .ow=>pO
 | .st n=>pS n
 | .tw=>pT
 | .os n=>.aq [.str "rec",.aq [pO,pS n]]
def Jt:Sx->List Sx
 | .tw=>[.nu,.nu]
 | .os n=>[.ow,.st n]
 | _=>[]
inductive Kn where
 | ow (s:Sx) | ho (w:Bool) (s:Sx)
 deriving DecidableEq
def CD(w:Bool):Str:=if w then "sole" else "lent"
def c6:Kn->PV
 | .ow s=>cK s
 | .ho w s=>.aq [.str (CD w),cK s]
def mN:Kn->Sx
 | .ow s=>s
 | .ho _ s=>s
def kd:Kn->Bool
 | .ow _=>false
 | .ho _ _=>true
abbrev Ky:=Str×Kn
def dH(q:Ky):PV:=.aq [.str q.1,c6 q.2]
theorem eO(k:Nat)(d:Kn):run aS (k+1) "is_holder" [c6 d] []=some (.ok (.bl (kd d)),[]):=by
 cases d with
 | ow s=>cases s<;>kernel_rfl
 | ho w s=>cases w<;>cases s<;>kernel_rfl
end cA
namespace L2.U
section
open Lean Meta
abbrev zq9wh (e : Lean.Expr) : MetaM Lean.Expr := withDefault (whnf e)
abbrev zq9sm (e : Lean.Expr) : SimpM Simp.Result := withReducible (Simp.simp e)
def zq9rflT (e d : Lean.Expr) : MetaM Lean.Expr := do mkExpectedTypeHint (← mkEqRefl d) (← mkEq e d)

def zq9nList (w : Bool) : Nat → Lean.Expr → MetaM Lean.Expr
 | 0, e => return e
 | n + 1, e => do
  let d ← zq9wh e
  if d.isAppOfArity ``List.cons 3 then
   let a := d.appFn!.appArg!.headBeta
   let a ← if w then (do let b ← zq9wh a; return if b.isAppOf ``Option.some || b.isAppOf ``Option.none then b else a) else pure a
   return mkApp2 d.appFn!.appFn! a (← zq9nList w n d.appArg!)
  else if d.isAppOf ``List.nil then return d
  else return e
def zq9natOf : Nat → Lean.Expr → MetaM (Option Nat)
 | 0, _ => return none
 | n + 1, e => do
  let d ← zq9wh e
  match d with
  | .lit (.natVal k) => return some k
  | _ => if d.isAppOfArity ``Nat.succ 1 then return (← zq9natOf n d.appArg!).map (· + 1) else if d.isConstOf ``Nat.zero then return some 0 else return none
def zq9isLit (e : Lean.Expr) : Nat → Bool
 | 0 => false
 | n + 1 => e.isAppOf ``List.nil || (e.isAppOfArity ``List.cons 3 && zq9isLit e.appArg! n)
def zq9nVal (v : Lean.Expr) : MetaM Lean.Expr := do
 let v ← withReducible (whnf v.headBeta)
 if v.isAppOfArity ``PV.ref 1 then
  if v.appArg!.isLit then return v
  match ← zq9natOf 60 v.appArg! with
  | some k => return mkApp (mkConst ``PV.ref) (mkNatLit k)
  | none => return v
 if v.isAppOfArity ``PV.nd 2 && !(v.appArg!.isAppOf ``List.map || zq9isLit v.appArg! 200) then
  let ps ← zq9nList false 200 v.appArg!
  return if zq9isLit ps 200 then mkApp v.appFn! ps else v
 if (← isConstructorApp? v).isSome || v.isFVar then return v
 if v.isProj || (← isMatcherApp v) || v.getAppFn.isProj then zq9wh v else match v.getAppFn with
 | .const c _ => if (← isProjectionFn c) || c == ``Option.get || c == ``ite || c == ``Option.getD then zq9wh v else return v
 | _ => return v
def zq9nCell (c : Lean.Expr) : MetaM Lean.Expr := do
 let d ← zq9wh c
 unless d.isAppOfArity ``ah.mk 2 do return c
 let k ← zq9wh d.appFn!.appArg!
 let k ← if k.isAppOfArity ``Kd.ins 2 then pure (mkApp k.appFn! (← zq9nList false 200 k.appArg!)) else pure k
 let ps ← zq9nList false 200 d.appArg!
 return mkApp2 d.appFn!.appFn! k ps
def zq9nHeap : Nat → Lean.Expr → MetaM Lean.Expr
 | 0, e => return e
 | n + 1, e => do
  let d ← zq9wh e
  if d.isAppOfArity ``List.cons 3 then return mkApp2 d.appFn!.appFn! (← zq9nCell d.appFn!.appArg!.headBeta) (← zq9nHeap n d.appArg!)
  else if d.isAppOf ``List.nil then return d
  else return e
def zq9nSta (e : Lean.Expr) : MetaM Lean.Expr := do
 let d ← zq9wh e
 if d.isAppOfArity ``bT.mk 2 then return mkApp2 d.appFn!.appFn! (← zq9nList true 200 d.appFn!.appArg!) (← zq9nHeap 200 d.appArg!) else return e
def zq9someArg? (e : Lean.Expr) : Option Lean.Expr := if e.isAppOfArity ``Option.some 2 then some e.appArg! else none
def zq9evB (b : Lean.Expr) : SimpM (Lean.Expr × Lean.Expr) := do
 let b := b.headBeta
 let d ← zq9wh b
 if d.isConstOf ``Bool.true || d.isConstOf ``Bool.false then return (d, ← mkExpectedTypeHint (← mkEqRefl d) (← mkEq b d))
 let r ← zq9sm b
 let r' ← if r.expr.isConstOf ``Bool.true || r.expr.isConstOf ``Bool.false then pure r.expr else do
  let d ← zq9wh r.expr
  pure (if d.isConstOf ``Bool.true || d.isConstOf ``Bool.false then d else r.expr)
 return (r', ← mkExpectedTypeHint (← r.getProof) (← mkEq b r'))
def zq9atRoot (o : Lean.Expr) : SimpM (Option Simp.Result) := withReducible do
 match ← Simp.rewritePost false o with
 | .visit r => return some r
 | .done r => return some r
 | .continue (some r) => return some r
 | .continue none => return none
def zq9evO (o : Lean.Expr) : SimpM (Option (Lean.Expr × Lean.Expr)) := do
 let o := o.headBeta
 if let some r ← zq9atRoot o then
  if let some v := zq9someArg? r.expr then
   let v' ← if (← inferType v).isConstOf ``PV then zq9nVal v else pure v
   let b? := if v'.isAppOfArity ``PV.bl 1 then some v'.appArg! else none
   match b? with
   | none => return some (v', ← mkExpectedTypeHint (← r.getProof) (← mkEq o (mkApp r.expr.appFn! v')))
   | some b =>
    let (b', p) ← zq9evB b
    let f := mkLambda `x .default (mkConst ``Bool) (mkApp r.expr.appFn! (mkApp (mkConst ``PV.bl) (Lean.Expr.bvar 0)))
    return some (mkApp (mkConst ``PV.bl) b', ← mkEqTrans (← r.getProof) (← mkExpectedTypeHint (← mkCongrArg f p) (← mkEq r.expr (mkApp r.expr.appFn! (mkApp (mkConst ``PV.bl) b')))))
 let d ← zq9wh o
 let bySimp : SimpM (Option (Lean.Expr × Lean.Expr)) := do
  let r ← zq9sm o
  let d ← if (zq9someArg? r.expr).isSome then pure r.expr else zq9wh r.expr
  match zq9someArg? d with
  | some v => return some (v, ← mkExpectedTypeHint (← r.getProof) (← mkEq o d))
  | none => return none
 match zq9someArg? d with
 | some v =>
  let ty ← inferType v
  if ty.isConstOf ``bT then
   let v ← zq9nSta v
   let d := mkApp d.appFn! v
   return some (v, ← zq9rflT o d)
  let v := v.headBeta
  let v ← if ty.isConstOf ``PV then zq9nVal v else pure v
  let b? := if v.isAppOfArity ``PV.bl 1 then some v.appArg! else if ty.isConstOf ``Bool then some v else none
  match b? with
  | none => let d' := mkApp d.appFn! v; return some (v, ← zq9rflT o d')
  | some b =>
   let b' ← zq9wh b
   let f := if ty.isConstOf ``Bool then id else mkApp (mkConst ``PV.bl)
   if b'.isConstOf ``Bool.true || b'.isConstOf ``Bool.false then let d' := mkApp d.appFn! (f b'); return some (f b', ← zq9rflT o d')
   let fallback : SimpM (Option (Lean.Expr × Lean.Expr)) := do
    let (b', p) ← zq9evB b
    return some (f b', ← mkExpectedTypeHint (← mkCongrArg (mkLambda `x .default (mkConst ``Bool) (mkApp d.appFn! (f (Lean.Expr.bvar 0)))) p) (← mkEq o (mkApp d.appFn! (f b'))))
   match ← bySimp with
   | some (v', p) =>
    let c := if v'.isAppOfArity ``PV.bl 1 then v'.appArg! else v'
    if c.isConstOf ``Bool.true || c.isConstOf ``Bool.false || (zq9someArg? (← zq9sm o).expr).isSome then return some (v', p)
    fallback
   | none => fallback
 | none => bySimp
def zq9okE (α a st : Lean.Expr) : Lean.Expr :=
 let rs := mkApp (mkConst ``Rs) α
 let pr := mkApp2 (mkConst ``Prod [0, 0]) rs (mkConst ``bT)
 mkApp2 (mkConst ``Option.some [0]) pr (mkApp4 (mkConst ``Prod.mk [0, 0]) rs (mkConst ``bT) (mkApp2 (mkConst ``Rs.ok) α a) st)
def zq9okH (a h : Lean.Expr) : Lean.Expr :=
 let rs := mkApp (mkConst ``Rs) (mkConst ``PV)
 let lc := mkApp (mkConst ``List [0]) (mkConst ``ah)
 let pr := mkApp2 (mkConst ``Prod [0, 0]) rs lc
 mkApp2 (mkConst ``Option.some [0]) pr (mkApp4 (mkConst ``Prod.mk [0, 0]) rs lc (mkApp2 (mkConst ``Rs.ok) (mkConst ``PV) a) h)
def zq9okArgs? (r : Lean.Expr) : Option (Lean.Expr × Lean.Expr) := do
 let x ← zq9someArg? r
 guard (x.isAppOfArity ``Prod.mk 4)
 let y := x.appFn!.appArg!
 guard (y.isAppOfArity ``Rs.ok 2)
 return (y.appArg!, x.appArg!)
def zq9nRes (e : Lean.Expr) : MetaM (Option Lean.Expr) := do
 let d ← zq9wh e
 let some x := zq9someArg? d | return none
 let x ← zq9wh x
 unless x.isAppOfArity ``Prod.mk 4 do return none
 let y ← zq9wh (x.appFn!.appArg!)
 let st ← zq9nSta x.appArg!
 let y ← if y.isAppOfArity ``Rs.ok 2 then (do let v ← (do let v := y.appArg!.headBeta; if (← inferType v).isConstOf ``PV then zq9nVal v else zq9wh v); pure (mkApp y.appFn! v)) else pure y
 return some (mkApp d.appFn! (mkApp2 x.appFn!.appFn! y st))
def zq9evUnfold : List Lean.Name := [``op2, ``fu, ``O4, ``yi, ``toB, ``uZ, ``ye, ``jh, ``s9, ``YO, ``u4, ``n6, ``Bg, ``DX, ``chain, ``HM, ``Tz, ``Md, ``MB, ``D1, ``cutE, ``MC, ``EH, ``BC, ``U8, ``Nf, ``NP, ``IK, ``Zf, ``pY, ``O8, ``Ej, ``En, ``NL, ``NC, ``MW, ``Vq, ``yr, ``qO, ``EE, ``VL, ``Mf, ``M8, ``Ag, ``IX]
def zq9mkLe (a b : Lean.Expr) : MetaM (Option Lean.Expr) := do
 let p ← mkAppM ``LE.le #[a, b]
 let d ← mkAppM ``Decidable.decide #[p]
 let r ← zq9wh d
 if r.isConstOf ``Bool.true then return some (← mkAppM ``of_decide_eq_true #[← mkExpectedTypeHint (← mkEqRefl (mkConst ``Bool.true)) (← mkEq d (mkConst ``Bool.true))]) else return none
def zq9byS (p : Lean.Expr) : SimpM (Option Lean.Expr) := do
 let r ← zq9sm p
 if r.expr.isTrue then return some (← mkOfEqTrue (← r.getProof)) else return none
def zq9evE (go : Lean.Expr → SimpM (Lean.Expr × Lean.Expr)) (bd p h : Lean.Expr) : SimpM (Lean.Expr × Lean.Expr) := do
 let as := bd.getAppArgs
 let ρ := as.back!
 let st := mkApp2 (mkConst ``bT.mk) ρ h
 let some (st1, pt) ← zq9evO (mkApp2 as[0]! p st) | throwError "zq9ev: target {p}"
 if bd.isAppOf ``om then
  let (r1, p1) ← go (mkApp as[1]! st1)
  let some (v, s2) := zq9okArgs? r1 | throwError "zq9ev: elt1 {r1}"
  let q := mkAppN (mkConst ``Ws) #[as[0]!, as[1]!, ρ, p, v, h, st1, s2.appFn!.appArg!, s2.appArg!, pt, p1]
  let some (_, _, r) := (← inferType q).eq? | throwError "zq9ev: elt1"
  return (r, q)
 else
  let (r1, p1) ← go (mkApp as[1]! st1)
  let some (b, st2) := zq9okArgs? r1 | throwError "zq9ev: elt2 {r1}"
  if b.isConstOf ``Bool.false then
   let q ← mkAppM `e2F #[pt, p1]
   let some (_, _, r) := (← inferType q).eq? | throwError "zq9ev: elt2"
   return (r, q)
  else if b.isConstOf ``Bool.true then
   let (_, p2) ← go (mkApp as[2]! st2)
   let q ← mkAppM `e2T #[pt, p1, p2]
   let some (_, _, r) := (← inferType q).eq? | throwError "zq9ev: elt2"
   return (r, q)
  else
   withLocalDeclD `hb (← mkEq b (mkConst ``Bool.true)) fun hb => do
    let thms ← (← Simp.getContext).simpTheorems.addTheorem (.fvar hb.fvarId!) hb
    Simp.withSimpTheorems thms do
     let (r2, p2) ← go (mkApp as[2]! st2)
     let some (v, s3) := zq9okArgs? r2 | throwError "zq9ev: elt2 {r2}"
     let q := mkAppN (mkConst ``Wt) #[as[0]!, as[1]!, as[2]!, ρ, p, v, b, h, st1, st2.appFn!.appArg!, s3.appFn!.appArg!, pt, p1, ← mkLambdaFVars #[hb] p2]
     let some (_, _, r) := (← inferType q).eq? | throwError "zq9ev: elt2"
     return (r, q)
def zq9evL (go : Lean.Expr → SimpM (Lean.Expr × Lean.Expr)) (bd h : Lean.Expr) : Nat → Lean.Expr → SimpM Lean.Expr
 | 0, _ => throwError "zq9ev: long list"
 | m + 1, ps => do
  let d ← zq9wh ps
  if d.isAppOf ``List.nil then mkAppOptM ``Pj #[some bd, some h]
  else if d.isAppOfArity ``List.cons 3 then
   let (_, p) ← zq9evE go bd d.appFn!.appArg!.headBeta h
   let p2 ← zq9evL go bd h m d.appArg!
   mkAppM ``Od #[p, p2]
  else throwError "zq9ev: list {ps}"
def zq9evC (go : Lean.Expr → SimpM (Lean.Expr × Lean.Expr)) (bd ps h : Lean.Expr) : SimpM Lean.Expr := do
 let d ← zq9wh ps
 if d.isAppOf ``List.nil || d.isAppOf ``List.cons then zq9evL go bd h 300 d
 else
  let d := if ps.isAppOfArity ``List.map 4 then ps else d
  unless d.isAppOfArity ``List.map 4 do throwError "zq9ev: list {ps}"
  let fn := d.getAppArgs[2]!
  let L := d.appArg!
  let α := d.getAppArgs[0]!
  withLocalDeclD `x α fun x => do
   let mem ← mkAppM ``Membership.mem #[L, x]
   withLocalDeclD `hx mem fun hx => do
    let thms ← (← Simp.getContext).simpTheorems.addTheorem (.fvar hx.fvarId!) hx
    Simp.withSimpTheorems thms do
     let (r, p) ← zq9evE go bd (mkApp fn x).headBeta h
     let some v := zq9someArg? r | throwError "zq9ev: item {r}"
     let o := v.appFn!.appArg!
     match zq9someArg? o with
     | some q =>
      let q ← mkLambdaFVars #[x] q
      mkAppOptM ``B5 #[some α, some fn, some q, some h, some bd, some L, some (← mkLambdaFVars #[x, hx] p)]
     | none =>
      unless o.isAppOfArity ``ite 5 do throwError "zq9ev: item {o}"
      let some (_, b, _) := o.getAppArgs[1]!.eq? | throwError "zq9ev: item {o}"
      let some q := zq9someArg? o.getAppArgs[3]! | throwError "zq9ev: item {o}"
      mkAppOptM ``B6 #[some α, some fn, some (← mkLambdaFVars #[x] q), some (← mkLambdaFVars #[x] b), some h, some bd, some L, some (← mkLambdaFVars #[x, hx] p)]
def zq9ev : Nat → Lean.Expr → SimpM (Lean.Expr × Lean.Expr)
 | 0, e => throwError "zq9ev: no fuel {e}"
 | n + 1, e => do
  let e := e.headBeta
  let f := e.getAppFn
  let as := e.getAppArgs
  let leaf : SimpM (Lean.Expr × Lean.Expr) := do
   let r ← zq9sm e
   let some x ← zq9nRes r.expr | throwError "zq9ev: stuck at{indentExpr e}\n which is{indentExpr r.expr}"
   return (x, ← mkExpectedTypeHint (← r.getProof) (← mkEq e x))
  let red : SimpM (Lean.Expr × Lean.Expr) := do
   match ← zq9nRes e with
   | some x => return (x, ← mkExpectedTypeHint (← mkEqRefl x) (← mkEq e x))
   | none => leaf
  match f with
  | .const c _ =>
   if c == ``bnd && as.size == 5 then
    let (r, p) ← zq9ev n (mkApp as[2]! as[4]!)
    let some (a, st) := zq9okArgs? r | throwError "zq9ev: no answer {r} of{indentExpr as[2]!}"
    let (r2, p2) ← zq9ev n (mkApp2 as[3]! a st).headBeta
    return (r2, mkAppN (mkConst ``X0) #[as[0]!, as[1]!, as[2]!, as[3]!, as[4]!, st, a, r2, p, p2])
   else if c == ``bV && as.size == 3 then
    if as[0]!.isConstOf ``Bool && !(as[1]!.isConstOf ``Bool.true || as[1]!.isConstOf ``Bool.false) then
     let (b, p) ← zq9evB as[1]!
     let f := mkLambda `x .default (mkConst ``Bool) (zq9okE as[0]! (Lean.Expr.bvar 0) as[2]!)
     return (zq9okE as[0]! b as[2]!, ← mkExpectedTypeHint (← mkCongrArg f p) (← mkEq e (zq9okE as[0]! b as[2]!)))
    let x := zq9okE as[0]! as[1]! as[2]!
    return (x, ← zq9rflT e x)
   else if c == ``fy && as.size == 3 then
    let some (v, p) ← zq9evO as[1]! | throwError "zq9ev: stuck at lif{indentExpr as[1]!}"
    return (zq9okE as[0]! v as[2]!, mkAppN (mkConst ``XY) #[as[0]!, as[1]!, v, as[2]!, p])
   else if c == ``hp && as.size == 3 then
    let st ← zq9wh as[2]!
    let h := if st.isAppOfArity ``bT.mk 2 then st.appArg! else mkApp (mkConst ``bT.h) as[2]!
    let some (v, p) ← zq9evO (mkApp as[1]! h).headBeta | throwError "zq9ev: stuck at hp{indentExpr (mkApp as[1]! h).headBeta}"
    return (zq9okE as[0]! v as[2]!, mkAppN (mkConst ``Z2) #[as[0]!, as[1]!, v, as[2]!, p])
   else if c == ``stp && as.size == 2 then
    let some (v, p) ← zq9evO (mkApp as[0]! as[1]!).headBeta | throwError "zq9ev: stuck at stp{indentExpr (mkApp as[0]! as[1]!).headBeta}"
    return (zq9okE (mkConst ``ek) (mkConst ``ek.nx) v, mkAppN (mkConst ``XZ) #[as[0]!, as[1]!, v, p])
   else if c == ``ite && as.size == 6 then
    let some (_, b, _) := as[1]!.eq? | throwError "zq9ev: ite {as[1]!}"
    let (b', p) ← zq9evB b
    if b'.isConstOf ``Bool.true then
     let (r, p2) ← zq9ev n (mkApp as[3]! as[5]!)
     let α := (← zq9wh as[0]!).bindingBody!.appArg!.appFn!.appArg!.appArg!
     return (r, mkAppN (mkConst ``Z4) #[α, b, as[3]!, as[4]!, as[5]!, r, p, p2])
    else if b'.isConstOf ``Bool.false then
     let (r, p2) ← zq9ev n (mkApp as[4]! as[5]!)
     let α := (← zq9wh as[0]!).bindingBody!.appArg!.appFn!.appArg!.appArg!
     return (r, mkAppN (mkConst ``Z5) #[α, b, as[3]!, as[4]!, as[5]!, r, p, p2])
    else throwError "zq9ev: open test{indentExpr b'}"
   else if c == ``il && as.size == 4 then
    let st := mkApp2 (mkConst ``bT.mk) (← zq9nList true 200 (mkApp2 (mkConst ``gY) as[1]! as[2]!)) as[3]!
    let (r, p) ← zq9ev n (mkApp as[0]! st)
    let some (a, s1) := zq9okArgs? r | throwError "zq9ev: run's end {r}"
    let h1 := if s1.isAppOfArity ``bT.mk 2 then s1.appArg! else mkApp (mkConst ``bT.h) s1
    if a.isAppOf ``ek.rt then return (zq9okH a.appArg! h1, mkAppN (mkConst ``Wn) #[as[0]!, as[1]!, as[2]!, as[3]!, a.appArg!, s1, p])
    else if a.isConstOf ``ek.nx then return (zq9okH (mkConst ``PV.aN) h1, mkAppN (mkConst ``Wo) #[as[0]!, as[1]!, as[2]!, as[3]!, s1, p])
    else throwError "zq9ev: run's end {r}"
   else if (c == ``iZ && as.size == 5) || (c == ``jO && as.size == 4) then
    let k := if c == ``iZ then 1 else 0
    let st ← zq9wh as[3 + k]!
    let h := if st.isAppOfArity ``bT.mk 2 then st.appArg! else mkApp (mkConst ``bT.h) st
    let as' ← zq9nList false 50 as[2 + k]!
    let q ← mkAppM ``Bool.or #[← mkAppM ``List.isEmpty #[h], ← mkAppM ``aT #[as']]
    let q ← if k == 1 then mkAppM ``and #[← mkAppM ``BEq.beq #[as[0]!, mkNatLit 0], q] else pure q
    let (b, pb) ← zq9evB q
    let hl ← mkExpectedTypeHint (← mkEqRefl as[k]!) (← mkEq (← mkAppM ``List.length #[as']) as[k]!)
    if b.isConstOf ``Bool.true then
     let q0 ← mkAppM ``Bool.or #[← mkAppM ``List.isEmpty #[h], ← mkAppM ``aT #[as']]
     let (_, pb0) ← zq9evB q0
     let cl := mkApp2 as[1 + k]! as' (← mkAppOptM ``List.nil #[some (mkConst ``ah)])
     let (r, p) ← zq9ev n cl
     let some (v, h') := zq9okArgs? r | throwError "zq9ev: call's end{indentExpr cl}\n is {r}"
     let fz := mkApp2 (mkConst ``gZ) h' v
     let some (qv, pf) ← zq9evO fz | throwError "zq9ev: stuck at {fz}"
     return (zq9okE (mkConst ``PV) qv as[3 + k]!, mkAppN (mkConst (if k == 1 then ``Wq else ``Js)) #[as[k]!, as[1 + k]!, as', as[3 + k]!, v, qv, h', pb0, hl, p, pf])
    else if b.isConstOf ``Bool.false && k == 1 then
     let (r, p) ← zq9ev n (mkApp2 as[2]! as' h)
     let some (v, h') := zq9okArgs? r | throwError "zq9ev: call's end {r}"
     let ρ := if st.isAppOfArity ``bT.mk 2 then st.appFn!.appArg! else mkApp (mkConst ``bT.ρ) st
     return (zq9okE (mkConst ``PV) v (mkApp2 (mkConst ``bT.mk) ρ h'), mkAppN (mkConst `evCallM) #[as[0]!, as[1]!, as[2]!, as', as[4]!, v, h', pb, hl, p])
    else throwError "zq9ev: call with refs? {b} of{indentExpr e}"
   else if c == ``eY && as.size == 4 then
    unless zq9isLit as[2]! 300 || as[2]!.isAppOf ``List.cons do
     let r ← zq9sm e
     if (zq9someArg? r.expr).isSome then
      let some x ← zq9nRes r.expr | throwError "zq9ev: loop{indentExpr r.expr}"
      return (x, ← mkExpectedTypeHint (← r.getProof) (← mkEq e x))
    let ps ← zq9wh as[2]!
    if ps.isAppOf ``List.cons || ps.isAppOf ``List.nil then
     let some d ← withDefault (unfoldDefinition? (mkAppN f #[as[0]!, as[1]!, ps, as[3]!])) | throwError "zq9ev: forF"
     let (r, p) ← zq9ev n (← whnfCore d)
     return (r, ← mkExpectedTypeHint p (← mkEq e r))
    else leaf
   else if c == ``iT && as.size == 5 && as[0]!.isConstOf ``Bool.false then
    let (r, p) ← zq9ev n (mkApp as[2]! as[4]!)
    let some (src, st) := zq9okArgs? r | throwError "zq9ev: source {r}"
    unless src.isAppOf ``zY.sq do throwError "zq9ev: source {src}"
    let ps0 := src.appArg!
    let (ps, p) ← if ps0.isAppOf ``List.map || zq9isLit ps0 300 then pure (ps0, p) else (do
     let r ← zq9sm ps0
     let lt := mkApp (mkConst ``List [0]) (mkConst ``PV)
     let lam := mkLambda `l .default lt (zq9okE (mkConst ``zY) (mkApp (mkConst ``zY.sq) (Lean.Expr.bvar 0)) st)
     return (r.expr, ← mkEqTrans p (← mkCongrArg lam (← r.getProof))))
    let ρ ← zq9nList true 100 (mkApp2 (mkConst ``dg) as[1]! st.appFn!.appArg!)
    let bd := mkApp as[3]! ρ
    let h := st.appArg!
    let le ← mkAppM ``LE.le #[← mkAppM ``List.length #[ps], mkNatLit 4000000]
    let hl ← match ← zq9mkLe (← mkAppM ``List.length #[ps]) (mkNatLit 4000000) with
     | some p => pure p
     | none => match ← zq9byS le with | some p => pure p | none => throwError "zq9ev: length of {ps}"
    let hc ← zq9evC (zq9ev n) bd ps h
    let some (_, _, rc) := (← inferType hc).eq? | throwError "zq9ev: comp"
    let x := rc.appArg!
    let qs := x.appFn!.appArg!
    return (zq9okE (mkConst ``PV) (mkApp (mkConst ``PV.lst) qs) (mkApp2 (mkConst ``bT.mk) st.appFn!.appArg! x.appArg!), mkAppN (mkConst ``Wr) #[as[1]!, as[2]!, as[3]!, as[4]!, st, ps, qs, x.appArg!, p, hl, hc])
   else if c == ``run || c == ``GH then leaf
   else if c == ``jh && as.size == 5 && as[0]!.isConstOf ``Bool && (as[2]!.isAppOf ``bV || as[3]!.isAppOf ``bV) then
    let (r, p) ← zq9ev n (mkApp as[1]! as[4]!)
    let some (b, s1) := zq9okArgs? r | throwError "zq9ev: test {r}"
    if b.isConstOf ``Bool.true || b.isConstOf ``Bool.false then
     let t := b.isConstOf ``Bool.true
     let (r2, p2) ← zq9ev n (mkApp (if t then as[2]! else as[3]!) s1)
     return (r2, mkAppN (mkConst (if t then ``Wl else ``Wm)) #[as[0]!, as[1]!, as[2]!, as[3]!, as[4]!, s1, r2, p, p2])
    else
     let isA := as[3]!.isAppOf ``bV && as[3]!.appArg!.isConstOf ``Bool.false
     let f := if isA then as[2]! else as[3]!
     withLocalDeclD `hb (← mkEq b (mkConst (if isA then ``Bool.true else ``Bool.false))) fun hb => do
      let thms ← (← Simp.getContext).simpTheorems.addTheorem (.fvar hb.fvarId!) hb
      Simp.withSimpTheorems thms do
       let (r2, p2) ← zq9ev n (mkApp f s1)
       let some (b2, _) := zq9okArgs? r2 | throwError "zq9ev: test {r2}"
       let lam ← mkLambdaFVars #[hb] p2
       return (zq9okE (mkConst ``Bool) (mkApp2 (mkConst (if isA then ``Bool.and else ``Bool.or)) b b2) s1, mkAppN (mkConst (if isA then `evAnd else `evOr)) #[as[1]!, f, as[4]!, s1, b, b2, p, lam])
   else if c == ``Rx && as.size == 5 then
    let (r, p) ← zq9ev n (mkApp as[3]! as[4]!)
    let some (l, st) := zq9okArgs? r | throwError "zq9ev: made {r}"
    let l ← zq9nList false 50 l
    let h := st.appArg!
    let q ← mkAppM ``Bool.or #[← mkAppM ``List.isEmpty #[h], ← mkAppM ``aT #[l]]
    let (b, pb) ← zq9evB q
    unless b.isConstOf ``Bool.true do throwError "zq9ev: made with refs {b}"
    let lc := mkApp (mkConst ``List [0]) (mkConst ``ah)
    let nn := mkApp (mkConst ``List.nil [0]) (mkConst ``PV)
    let nS := mkApp (mkConst ``List.nil [0]) (mkConst ``PySem.Str)
    let cell := mkApp2 (mkConst ``ah.mk) (mkApp2 (mkConst ``Kd.ins) as[0]! nS) nn
    let cells := mkApp3 (mkConst ``List.cons [0]) (mkConst ``ah) cell (mkApp (mkConst ``List.nil [0]) (mkConst ``ah))
    let ar := mkApp3 (mkConst ``List.cons [0]) (mkConst ``PV) (mkApp (mkConst ``PV.ref) (mkNatLit 0)) l
    let (r2, p2) ← zq9ev n (mkApp2 as[2]! ar cells)
    let some (_, h') := zq9okArgs? r2 | throwError "zq9ev: made, end {r2}"
    let dr := mkApp3 (mkConst ``kL) h' (mkNatLit 4) (mkApp (mkConst ``PV.ref) (mkNatLit 0))
    let some (qv, pd) ← zq9evO dr | throwError "zq9ev: stuck at {dr}"
    let hl ← mkExpectedTypeHint (← mkEqRefl as[1]!) (← mkEq (← mkAppM ``HAdd.hAdd #[← mkAppM ``List.length #[l], mkNatLit 1]) as[1]!)
    return (zq9okE (mkConst ``PV) qv st, mkAppN (mkConst ``Z7) #[as[0]!, as[1]!, as[2]!, as[3]!, as[4]!, st, l, h', qv, p, hl, pb, p2, pd])
   else if (c == ``HM || c == ``Tz) && as.size == 3 then
    let isA := c == ``HM
    let (r, p) ← zq9ev n (mkApp as[0]! as[2]!)
    let go : SimpM (Lean.Expr × Lean.Expr) := do
     let some d ← withDefault (unfoldDefinition? e) | red
     zq9ev n (← whnfCore d)
    match zq9okArgs? r with
    | none => go
    | some (v, s1) =>
     unless v.isAppOfArity ``PV.bl 1 do return ← go
     let b := v.appArg!
     let (bn, _) ← zq9evB b
     if !(bn.isConstOf ``Bool.true) && !(bn.isConstOf ``Bool.false) then
      withLocalDeclD `hb (← mkEq b (mkConst (if isA then ``Bool.true else ``Bool.false))) fun hb => do
       let thms ← (← Simp.getContext).simpTheorems.addTheorem (.fvar hb.fvarId!) hb
       Simp.withSimpTheorems thms do
        let (r2, p2) ← zq9ev n (mkApp as[1]! s1)
        let some (v2, _) := zq9okArgs? r2 | throwError "zq9ev: test {r2}"
        unless v2.isAppOfArity ``PV.bl 1 do throwError "zq9ev: and/or of {v2}"
        let b2 := v2.appArg!
        let lam ← mkLambdaFVars #[hb] p2
        return (zq9okE (mkConst ``PV) (mkApp (mkConst ``PV.bl) (mkApp2 (mkConst (if isA then ``Bool.and else ``Bool.or)) b b2)) s1, mkAppN (mkConst (if isA then ``Wu else ``X1)) #[as[0]!, as[1]!, as[2]!, s1, b, b2, p, lam])
     else go
   else if zq9evUnfold.contains c then
    let some d ← withDefault (unfoldDefinition? e) | red
    zq9ev n (← whnfCore d)
   else
    let some d ← withDefault (unfoldDefinition? e) | red
    let d ← withReducible (whnf d)
    match d.getAppFn with
    | .const c' _ =>
     if c' == ``bnd || c' == ``bV || zq9evUnfold.contains c' then
      let (r, p) ← zq9ev n d
      return (r, ← mkExpectedTypeHint p (← mkEq e r))
     else red
    | _ => red
  | .fvar _ => leaf
  | _ => red
simproc_decl ph (gx _ _) := fun e => do
 let as := e.getAppArgs
 let (r, p) ← zq9ev 400 (mkApp as[1]! as[2]!)
 return .done { expr := r, proof? := mkAppN (mkConst ``X2) #[as[0]!, as[1]!, as[2]!, r, p] }
simproc_decl aF (il _ _ _ _) := fun e => do
 let (r, p) ← zq9ev 400 e
 return .done { expr := r, proof? := p }
end
end L2.U
namespace cA
open PySem L2 L2.U
theorem j2(k:Nat)(d:Kn):run aS (k+2) "shape_of" [c6 d] []=some (.ok (cK (mN d)),[]):=by
 rw[t9];have h:=eO k d;cases d<;>simp only[↓aF,h,kd]<;>rfl
inductive j3 where
 | aN | own (s:Sx) | jk (w:Bool) (s:Sx) (src:List Str)
def g8:j3->PV
 | .aN=>.aN
 | .own s=>cK s
 | .jk w s l=>.aq [.str (CD w),cK s,.aq (l.map .str)]
structure Hd where
 nm:Str
 ps:List Ky
 res:j3
 l:PV
 r:PV
def Ju(H:Hd):PV:=.aq [.str H.nm,.aq (H.ps.map dH),g8 H.res,H.l,H.r]
structure Sc where
 K:List Ky
 res:j3
 size:Nat
 H:List Hd
def uA(K:List Ky):List (List cz):=K.map λq=>[.inr q.1]
def Aq(K:List Ky):List PV:=K.map λq=>c6 q.2
abbrev Jv(K:List Ky):PV:=.nd (.eJ false (uA K)) (Aq K)
def gI(S:Sc):PV:=.nd (.ins "Scene" ["kinds","result","size","heads"]) [Jv S.K,g8 S.res,.int S.size,.nd (.eJ false (S.H.map λG=>[.inr G.nm])) (S.H.map Ju)]
def aW:List Ky->Str->Option Kn
 | [],_=>none
 | r::l,x=>if r.1=x then some r.2 else aW l x
theorem yR:∀{K:List Ky} {x:Str},dY [.inr x] (uA K) (Aq K)=(aW K x).map c6
 | [],_=>rfl
 | r::l,x=>by
  show(if [(Sum.inr r.1:cz)]=[Sum.inr x]then some (c6 r.2)else dY [.inr x] (uA l) (Aq l))=_
  unfold aW;by_cases h:r.1=x
  ·rw[if_pos h,if_pos (by rw[h])];rfl
  ·rw[if_neg h,if_neg (by simpa using h),yR]
theorem wd:∀{K:List Ky} {x:Str},gX [.inr x] (uA K)=(aW K x).isSome
 | [],_=>rfl
 | r::l,x=>by
  show(decide ([(Sum.inr r.1:cz)]=[Sum.inr x]) || gX [.inr x] (uA l))=_;unfold aW;rw[wd];by_cases h:r.1=x
  ·rw[if_pos h,aG (by rw[h])];rfl
  ·rw[if_neg h,aP (by simpa using h)];rfl
theorem FG{K:List Ky}{x:Str}{d:Kn}{h:List ah}(hd:aW K x=some d):fw h (Jv K) (.str x)=some (c6 d):=by
 show dY [.inr x] (uA K) (Aq K)=_;rw[yR,hd];rfl
theorem Oe{K:List Ky}{x:Str}{d:Kn}{h:List ah}(hd:aW K x=some d):lW true h (.str x) (Jv K)=some (.bl false):=by
 show some (PV.bl (!gX [.inr x] (uA K)))=_;rw[wd,hd];rfl
theorem Sw{K:List Ky}{x:Str}{d:Kn}{h:List ah}(hd:aW K x=some d):IJ h (Jv K) [.str x]=some (c6 d):=by
 show(if gX [.inr x] (uA K)=true then dY [.inr x] (uA K) (Aq K)else some .aN)=_
 rw[wd,yR,hd];rfl
def Sy:Kn->Bool
 | .ho false _=>false
 | _=>true
theorem l6(k:Nat)(S:Sc)(x:Str)(p a:PV){d:Kn}(hd:aW S.K x=some d):run aS (k+1) "may_be_written" [gI S,.aq [.str x,.bl (kd d),p,a]] []=some (.ok (.bl (Sy d)),[]):=by
 rw[jW];rcases d with s | ⟨_ | _,s⟩<;>simp only[↓aF,FG hd]<;>rfl
theorem Sz{P:Fin 8->Prop}(h0:P 0)(h1:P 1)(h2:P 2)(h3:P 3)(h4:P 4)(h5:P 5)(h6:P 6)(h7:P 7):∀n,P n
 | 0=>h0 | 1=>h1 | 2=>h2 | 3=>h3 | 4=>h4 | 5=>h5 | 6=>h6 | 7=>h7
def tS(n:Fin 8):Tr:=.aq [.str "strip",.int (1+(n.val:Int))]
def Ww:Tr:=.aq [.str "num"]
def T1:Tr:=.aq [.str "own"]
def Z8:Tr:=.aq [.str "rec",.aq [Ww,Ww]]
def FH:Sx->Tr
 | .nu=>Ww
 | .ow=>T1
 | .st n=>tS n
 | .tw=>Z8
 | .os n=>.aq [.str "rec",.aq [T1,tS n]]
def B7:Kn->Tr
 | .ow s=>FH s
 | .ho w s=>.aq [.str (CD w),FH s]
theorem toT_S(h:List ah)(s:Sx):toT h cf (cK s)=some (FH s):=by cases s<;>kernel_rfl
theorem toT_K(h:List ah)(d:Kn):toT h cf (c6 d)=some (B7 d):=by
 cases d with
 | ow s=>exact toT_S h s
 | ho w s=>cases s<;>kernel_rfl
theorem Wx(n m:Fin 8):((1+(n.val:Int))==(1+(m.val:Int)))=decide (n=m):=by
 rw[dO,gQ,r0,Fin.ext_iff]
 lia
theorem FI(n m:Fin 8):eqT (tS n) (tS m)=decide (n=m):=by
 show((Str.ofString "strip"==Str.ofString "strip")&&(((1+(n.val:Int))==(1+(m.val:Int)))&&true))=_;rw[Wx,eV,gh,bz]
theorem FJ(a b:Sx):eqT (FH a) (FH b)=decide (a=b):=by
 cases a<;>cases b
 case st.st n m=>rw[show decide (Sx.st n=Sx.st m)=decide (n=m) by simp];exact FI n m
 case os.os n m=>simp[FH,eqT,kC,FI,show eqT T1 T1=true by kernel_rfl]
 all_goals kernel_rfl
theorem KH(a b:Kn):eqT (B7 a) (B7 b)=decide (a=b):=by
 rcases a with a | ⟨v,a⟩<;>rcases b with b | ⟨w,b⟩
 ·rw[show decide (Kn.ow a=Kn.ow b)=decide (a=b) by simp];exact FJ a b
 ·cases w<;>cases a<;>kernel_rfl
 ·cases v<;>cases b<;>kernel_rfl
 ·show(_==_&&(eqT (FH a) (FH b)&&true))=_;rw[FJ];cases v<;>cases w
  ·simp
  ·kernel_rfl
  ·kernel_rfl
  ·simp
theorem FK{h:List ah}{a b:Sx}:lS h (cK a) (cK b)=some (.bl (decide (a=b))):=by
 show((toT h cf (cK a)).bind λx=>(toT h cf (cK b)).map λy=>eqT x y).map _=_
 rw[toT_S,toT_S];show some (PV.bl (eqT (FH a) (FH b)))=_;rw[FJ]
theorem qh{h:List ah}{a b:Kn}:lS h (c6 a) (c6 b)=some (.bl (decide (a=b))):=by
 show((toT h cf (c6 a)).bind λx=>(toT h cf (c6 b)).map λy=>eqT x y).map _=_
 rw[toT_K,toT_K];show some (PV.bl (eqT (B7 a) (B7 b)))=_;rw[KH]
theorem j4(k:Nat)(s:Sx):run aS (k+9) "is_shape" [cK s] []=some (.ok (.bl true),[]):=by
 cases s
 case st n=>revert n;refine Sz ?_ ?_ ?_ ?_ ?_ ?_ ?_ ?_<;>kernel_rfl
 case os n=>revert n;refine Sz ?_ ?_ ?_ ?_ ?_ ?_ ?_ ?_<;>kernel_rfl
 all_goals kernel_rfl
abbrev Te:=List Nat×Nat×Sx
def fQ:Sx->List Te
 | .nu=>[([],0,.nu)]
 | .ow=>[([],0,.ow)]
 | .st n=>[([],0,.st n)]
 | .tw=>[([],0,.tw),([0],0,.nu),([1],1,.nu)]
 | .os n=>[([],0,.os n),([0],0,.ow),([1],1,.st n)]
def GI(p:List Nat):PV:=.aq (p.map fun(i:Nat)=>.int (i:Int))
def All{α:Type}(P:α->Prop):List α->Prop
 | []=>True
 | a::l=>P a/\All P l
theorem All.mem{α:Type}{P:α->Prop}:∀{l:List α},All P l->∀e∈l,P e
 | a::l,h,e,he=>by
  rcases aX.mp he with rfl | he
  ·exact h.1
  ·exact All.mem h.2 e he
theorem Ar{P:Sx->Te->Prop}(h:∀s,All (P s) (fQ s))(s:Sx)(e:Te)(he:e∈fQ s):P s e:=(h s).mem e he
theorem Of(k:Nat)(s:Sx)(e:Te)(he:e∈fQ s):run aS (k+9) "part" [cK s,GI e.1] []=some (.ok (cK e.2.2),[]):=by
 revert s e
 refine Ar λs=>?_
 cases s<;>(repeat' apply And.intro)<;>first | exact True.intro | kernel_rfl
inductive At where
 | aN | num (i:Int) | FN (x:Str)
 deriving DecidableEq
structure Sp where
 x:Str
 t:Bool
 p:List Int
 a:At
def we:At->PV
 | .aN=>.aN
 | .num i=>.int i
 | .FN x=>.str x
def dn(s:Sp):PV:=.aq [.str s.x,.bl s.t,.aq (s.p.map .int),we s.a]
def wk:Sx->List Int->Option Sx
 | s,[]=>some s
 | s,i::l=>if 0<=i/\i<2 then match(Jt s)[i.toNat]? with | some t=>wk t l | none=>none else none
def ie(p:List Nat):List Int:=p.map fun(n:Nat)=>(n:Int)
theorem o9(p:List Nat):GI p=.aq ((ie p).map .int):=by unfold GI ie;rw[fF];rfl
theorem Og(s:Sx)(e:Te)(he:e∈fQ s):wk s (ie e.1)=some e.2.2:=by
 revert s e
 refine Ar λs=>?_
 cases s<;>(repeat' apply And.intro)<;>first | exact True.intro | rfl
theorem Jx(s:Sx):([],0,s)∈fQ s:=by cases s<;>simp[fQ]
theorem Oh(s:Sx):∀j t,(Jt s)[j]?=some t->∀e∈fQ t,∃f,(j::e.1,f,e.2.2)∈fQ s:=by
 intro j t h e he;cases s with
 | nu=>simp[Jt]at h
 | ow=>simp[Jt]at h
 | st n=>simp[Jt]at h
 | tw =>
  rcases j with _ | _ | j<;>simp[Jt]at h<;>subst h<;>simp[fQ]at he<;>subst he
  ·exact⟨0,by simp[fQ]⟩
  ·exact⟨1,by simp[fQ]⟩
 | os n =>
  rcases j with _ | _ | j<;>simp[Jt]at h<;>subst h<;>simp[fQ]at he<;>subst he
  ·exact⟨0,by simp[fQ]⟩
  ·exact⟨1,by simp[fQ]⟩
theorem FO:∀(p:List Int) (s:Sx) {i:Sx},wk s p=some i->∃e∈fQ s,ie e.1=p/\e.2.2=i
 | [],s,i,h=>by
  unfold wk at h;cases h;exact⟨_,Jx s,rfl,rfl⟩
 | j::l,s,i,h=>by
  unfold wk at h;split at h
  ·rename_i hj;split at h
   ·rename_i t ht;obtain⟨e,h1,h2,h3⟩:=FO l t h;obtain⟨f,hf⟩:=Oh s _ t ht e h1;refine⟨_,hf,?_,h3⟩;show((j.toNat:Int))::ie e.1=_;rw[h2,Int.toNat_of_nonneg hj.1]
   ·cases h
  ·cases h
theorem toT_ints{h:List ah}:∀{n:Nat} (l:List Int),bj (toT h (n+1)) (l.map .int)=some (l.map .int)
 | _,[]=>rfl
 | n,x::l=>by
  show(some (Tr.int x)).bind (λy=>(bj (toT h (n+1)) (l.map .int)).map λys=>y::ys)=_
  rw[toT_ints l];rfl
theorem rg:∀a b:List Int,kC (a.map .int) (b.map .int)=decide (a=b)
 | [],[]=>rfl
 | [],_::_=>rfl
 | _::_,[]=>rfl
 | x::a,y::b=>by
  show((x==y)&&kC (a.map .int) (b.map .int))=_;rw[rg a b,dO];simp
theorem toT_pas{h:List ah}:∀(L:List (List Int)),bj (toT h cf) (L.map λp=>.aq (p.map .int))=some (L.map λp=>.aq (p.map .int))
 | []=>rfl
 | p::L=>by
  show(((bj (toT h 999) (p.map .int)).bind (yf .aq)).bind λy=>(bj (toT h cf) (L.map λp=>.aq (p.map .int))).map λys=>y::ys)=_
  rw[toT_ints,toT_pas L];rfl
theorem Oi{h:List ah}{p:List Int}{L:List (List Int)}:lW false h (.aq (p.map .int)) (.lst (L.map λp=>.aq (p.map .int)))=some (.bl (decide (p∈L))):=by
 show(((bj (toT h 999) (p.map .int)).bind (yf .aq)).bind λx=>(bj (toT h cf) (L.map λp=>.aq (p.map .int))).map λys=>ys.any λy=>eqT y x).map (λb=>PV.bl b)=_
 rw[toT_ints,toT_pas];show some (PV.bl ((L.map λp=>Tr.aq (p.map .int)).any λy=>eqT y (.aq (p.map .int))))=_
 congr 2
 rw[nH,dO,lB];simp only[Function.comp,dr];have e:∀q:List Int,eqT (.aq (q.map .int)) (.aq (p.map .int))=decide (q=p):=λq=>rg q p
 simp only[e,dr];exact⟨λ⟨y,h1,h2⟩=>h2▸h1,λh=>⟨p,h,rfl⟩⟩
theorem rh{α:Type}(g:α->Bool):∀L:List α,jR (L.map λx=>.bl (g x))=some (L.map g)
 | []=>rfl
 | x::L=>by
  have:=rh g L;unfold jR at this ⊢;simp_all [bj,uY]
theorem all_map{α:Type}{g:α->Bool}{L:List α}{h:List ah}:p7 h [.lst (L.map λx=>.bl (g x))]=some (.bl (L.all g)):=by
 show(jR (L.map λx=>.bl (g x))).map _=_
 rw[rh];simp[List.all_map,sd]
theorem l7{α:Type}{L:List α}{h:List ah}:p7 h [.lst (L.map λ_=>.bl true)]=some (.bl true):=by
 rw[all_map];simp
def i4(S:Sc)(s:Sp):Option (Kn×Sx):=(aW S.K s.x).bind λd=>if s.t=kd d then(wk (mN d) s.p).map λi=>(d,i)else none
def qi(S:Sc):Sx->At->Bool
 | _,.aN=>true
 | .st n,.num j=>decide (0<=j)&&decide (j<1+(n.val:Int))
 | .st _,.FN y=>decide (aW S.K y=some (.ow .nu))
 | _,_=>false
def cls(S:Sc)(s:Sp):Option (Kn×Sx):=(i4 S s).bind λq=>if qi S q.2 s.a then some q else none
structure Pk (S:Sc) (s:Sp) (d:Kn) (i:Sx):Prop where
 k:aW S.K s.x=some d
 t:s.t=kd d
 p:wk (mN d) s.p=some i
theorem kZ{S:Sc}{s:Sp}{d:Kn}{i:Sx}(h:i4 S s=some (d,i)):Pk S s d i:=by
 unfold i4 at h;obtain⟨e,h1,h2⟩:=m8.mp h;split at h2
 ·rename_i ht;obtain⟨j,h3,h4⟩:=iy.mp h2;cases h4;exact⟨h1,ht,h3⟩
 ·cases h2
theorem As{S:Sc}{s:Sp}{d:Kn}{i:Sx}(h:cls S s=some (d,i)):i4 S s=some (d,i)/\qi S i s.a=true:=by
 unfold cls at h;obtain⟨q,h1,h2⟩:=m8.mp h;split at h2
 ·rename_i ht;cases h2;exact⟨h1,ht⟩
 ·cases h2
theorem dy(k:Nat)(i:Int):run aS (k+1) "is_whole" [.int i] []=some (.ok (.bl true),[]):=by kernel_rfl
theorem ug(k:Nat)(x:Str):run aS (k+1) "is_whole" [.str x] []=some (.ok (.bl false),[]):=by kernel_rfl
theorem uh(k:Nat)(x:List PV):run aS (k+1) "is_whole" [.aq x] []=some (.ok (.bl false),[]):=by kernel_rfl
theorem SA{K:List Ky}{x:Str}{h:List ah}(hd:aW K x=none):lW true h (.str x) (Jv K)=some (.bl true):=by
 show some (PV.bl (!gX [.inr x] (uA K)))=_;rw[wd,hd];rfl
theorem Oj{K:List Ky}{x:Str}{h:List ah}(hd:aW K x=none):IJ h (Jv K) [.str x]=some .aN:=by
 show(if gX [.inr x] (uA K)=true then dY [.inr x] (uA K) (Aq K)else some .aN)=_
 rw[wd,hd];rfl
theorem Ol{h:List ah}{d:Kn}:lS h .aN (c6 d)=some (.bl false):=by
 show((toT h cf .aN).bind λx=>(toT h cf (c6 d)).map λy=>eqT x y).map _=_
 rw[toT_K];rcases d with s | ⟨w,s⟩
 ·cases s<;>rfl
 ·rfl
theorem g9(k:Nat)(S:Sc)(x:Str)(e:Kn):run aS (k+1) "has_kind" [gI S,.str x,c6 e] []=some (.ok (.bl (decide (aW S.K x=some e))),[]):=by
 rw[ua];cases hd:aW S.K x with
 | none=>simp only[↓aF,Oj hd,Ol];simp
 | some d=>simp only[↓aF,Sw hd,qh];simp
theorem rj(k:Nat)(S:Sc)(x:Str):run aS (k+1) "has_kind" [gI S,.str x,pN] []=some (.ok (.bl (decide (aW S.K x=some (.ow .nu)))),[]):=g9 k S x (.ow .nu)
theorem pd(k:Nat)(S:Sc)(x:Str)(w:Bool)(s:Sx):run aS (k+1) "has_kind" [gI S,.str x,.aq [.str (CD w),cK s]] []=some (.ok (.bl (decide (aW S.K x=some (.ho w s)))),[]):=g9 k S x (.ho w s)
theorem k0(k:Nat)(S:Sc)(i:Int)(p:PV):run aS (k+1) "has_kind" [gI S,.int i,p] []=some (.ok (.bl false),[]):=by kernel_rfl
theorem Jy(k:Nat)(s:Sx):run aS (k+8) "paths" [cK s] []=some (.ok (.ref 0),[⟨.lst,((fQ s).map λe=>ie e.1).map λp=>.aq (p.map .int)⟩]):=by cases s<;>kernel_rfl
theorem Au(l:List Int):aT (l.map .int)=true:=by induction l with | nil=>rfl | cons x l ih=>rw[aO,aT,ih];rfl
theorem FP:∀L:List (List Int),aT (L.map λp=>.aq (p.map .int))=true
 | []=>rfl
 | p::L=>by rw[aO,aT,FP L,noRef,Au];rfl
theorem mY{h:List ah}{n:Nat}:∀{l:List PV},aT l=true->bj (kL h n) l=some l
 | [],_=>rfl
 | p::l,hn=>by
  simp only[aT,aC]at hn;show(kL h n p).bind (λy=>(bj (kL h n) l).map λys=>y::ys)=_
  rw[mY hn.2,show kL h n p=some p by cases n<;>(unfold kL;rw[if_pos hn.1])]
  rfl
theorem gF{ps:List PV}(h:aT ps=true):gZ [⟨.lst,ps⟩] (.ref 0)=some (.lst ps):=by
 show(bj (kL _ 3) ps).map _=_;rw[mY h];rfl
theorem B8(k:Nat)(s:Sx)(p:List Int)(hp:p.length<=1000):run aS (k+9) "is_path" [cK s,.aq (p.map .int)] []=some (.ok (.bl (wk s p).isSome),[]):=by
 have e1:(p.map PV.int).length<=4000000:=by rw[ak];lia
 have e2:p.length<=4000000:=by lia
 have e3:(wk s p).isSome=decide (p∈(fQ s).map λe=>ie e.1):=by
  rw[dO,dr,ee];constructor
  ·intro h;obtain⟨i,hi⟩:=Option.isSome_iff_exists.mp h;obtain⟨e,h1,h2,_⟩:=FO p s hi;exact⟨e,h1,h2⟩
  ·rintro⟨e,h1,h2⟩
   rw[<-h2,Og s e h1];rfl
 rw[vV,e3];simp only[↓aF,e1,e2,dy,l7,Jy,gF (FP _),Oi]
theorem Jz(k:Nat){s i:Sx}{p:List Int}(h:wk s p=some i):run aS (k+9) "part" [cK s,.aq (p.map .int)] []=some (.ok (cK i),[]):=by
 obtain⟨e,h1,h2,h3⟩:=FO p s h;have:=Of k s e h1;rw[o9,h2,h3]at this;exact this
theorem b8(k:Nat){S:Sc}{s:Sp}{d:Kn}{i:Sx}(h:Pk S s d i):run aS (k+10) "spot_shape" [gI S,dn s] []=some (.ok (cK i),[]):=by
 rw[oV];have h1:=λk=>Jz k h.p
 simp only[↓aF,FG h.k,j2,h1]
def Om:Sx->Str
 | .nu=>"num"
 | .ow=>"own"
 | .st _=>"strip"
 | _=>"rec"
theorem fj{h:List ah}{s:Sx}:fw h (cK s) (.int 0)=some (.str (Om s)):=by cases s<;>rfl
theorem JA(k:Nat){S:Sc}{i:Sx}{a:At}:run aS (k+2) "is_at" [gI S,cK i,we a] []=some (.ok (.bl (qi S i a)),[]):=by
 cases a with
 | aN=>cases i<;>kernel_rfl
 | num j =>
  cases i
  case st n =>
   rw[rf];by_cases h1:0<=j
   ·simp only[↓aF,k0,dy,aG h1,bz,qi]
   ·simp only[↓aF,k0,dy,aP h1,bI,qi]
  all_goals kernel_rfl
 | FN y =>
  show run aS (k+2) "is_at" [gI S,cK i,.str y] []=_;cases i
  case st n =>
   rw[rf];by_cases h1:aW S.K y=some (.ow .nu)
   ·simp only[↓aF,rj,qi,h1,decide_true]
   ·simp only[↓aF,rj,qi,aP h1,ug]
  all_goals kernel_rfl
theorem dq(k:Nat)(ps:List PV)(a b:Int)(ha:a<=ps.length)(hb:(ps.length:Int)<=b):run aS (k+1) "is_tuple_from" [.aq ps,.int a,.int b] []=some (.ok (.bl true),[]):=by
 rw[f9];simp only[↓aF,aG ha,aG hb]
theorem dj(k:Nat)(ps:List PV)(a:Int)(ha:(ps.length:Int)=a):run aS (k+2) "is_tuple_of" [.aq ps,.int a] []=some (.ok (.bl true),[]):=by
 have e:=λk=>dq k ps a a (by lia) (by lia)
 rw[ic];simp only[↓aF,e]
theorem FQ{h:List ah}{a b:Bool}:yg h (.bl a) (.bl b)=some (.bl (a != b)):=by cases a<;>cases b<;>kernel_rfl
theorem rm(k:Nat)(S:Sc)(s:Sp)(hl:s.p.length<=1000):run aS (k+11) "is_spot" [gI S,dn s] []=some (.ok (.bl (cls S s).isSome),[]):=by
 have e0:∀k,run aS (k+2) "is_tuple_of" [dn s,.int 4] []=some (.ok (.bl true),[]):=λk=>dj k _ _ rfl
 cases hk:aW S.K s.x with
 | none =>
  have hc:cls S s=none:=by unfold cls i4;rw[hk];rfl
  rw[gf,hc];simp only[↓aF,e0,SA hk];rfl
 | some d =>
  by_cases ht:s.t=kd d
  ·have e4:∀h,yg h (.bl s.t) (.bl (kd d))=some (.bl false):=λh=>by rw[FQ,ht,bne_self_eq_false]
   have e3:=λk=>B8 k (mN d) s.p hl
   cases hw:wk (mN d) s.p with
   | none =>
    have hc:cls S s=none:=by unfold cls i4;rw[hk,eU,if_pos ht,hw];rfl
    simp only[hw,Option.isSome_none]at e3;rw[gf,hc];simp only[↓aF,e0,Oe hk,FG hk,eO,j2,e3,e4];rfl
   | some i =>
    have hc:(cls S s).isSome=qi S i s.a:=by
     unfold cls i4;rw[hk,eU,if_pos ht,hw];show(if qi S i s.a=true then some (d,i)else none).isSome=_
     cases qi S i s.a<;>rfl
    have e1:=λk=>b8 k (S:=S) (s:=s) ⟨hk,ht,hw⟩
    simp only[hw,xc]at e3;rw[gf,hc];simp only[↓aF,e0,Oe hk,FG hk,eO,j2,e1,e3,e4,JA]
  ·have e4:∀h,yg h (.bl s.t) (.bl (kd d))=some (.bl true):=λh=>by rw[FQ,bne_iff_ne.mpr ht]
   have hc:cls S s=none:=by unfold cls i4;rw[hk,eU,if_neg ht];rfl
   rw[gf,hc];simp only[↓aF,e0,Oe hk,FG hk,eO,e4];rfl
def CF(S:Sc)(s:Sp):Bool:=match cls S s with
 | none=>false
 | some q=>decide (s.a≠.aN) || (decide (q.2=.nu) || decide (q.2=.ow))
def k6(S:Sc)(s:Sp):Bool:=(cls S s).isSome&&decide (s.a=.aN)
def JB(S:Sc)(s:Sp):Bool:=match cls S s with
 | none=>false
 | some q=>Sy q.1
def KI(S:Sc)(s:Sp):Bool:=CF S s&&JB S s
def B9(S:Sc)(s:Sp):Bool:=k6 S s&&!s.t
def kf(S:Sc)(s:Sp):Bool:=k6 S s&&JB S s
theorem SD{h:List ah}{i:Sx}:lW false h (.str (Om i)) (.aq [.str "num",.str "own"])=some (.bl (decide (i=.nu) || decide (i=.ow))):=by cases i<;>kernel_rfl
theorem gG(k:Nat)(S:Sc)(s:Sp)(hl:s.p.length<=1000):run aS (k+12) "is_number_spot" [gI S,dn s] []=some (.ok (.bl (CF S s)),[]):=by
 have e2:=λk=>rm k S s hl
 rw[jV];unfold CF;cases hc:cls S s with
 | none =>
  simp only[hc,Option.isSome_none]at e2;simp only[↓aF,e2]
 | some q =>
  have e1:=λk=>b8 k (kZ (As (d:=q.1) (i:=q.2) hc).1)
  simp only[hc,xc]at e2;obtain⟨x,t,p,a⟩:=s;cases a
  case aN=>simp only[↓aF,e2,e1,fj,SD];simp
  all_goals simp only[↓aF,e2];simp
theorem dU(k:Nat)(S:Sc)(s:Sp)(hl:s.p.length<=1000):run aS (k+12) "is_part_spot" [gI S,dn s] []=some (.ok (.bl (k6 S s)),[]):=by
 have e2:=λk=>rm k S s hl
 rw[l5];unfold k6;obtain⟨x,t,p,a⟩:=s;cases a<;>simp only[↓aF,e2]<;>simp
theorem ig(k:Nat)(S:Sc)(s:Sp)(hl:s.p.length<=1000):run aS (k+13) "is_owned_part" [gI S,dn s] []=some (.ok (.bl (B9 S s)),[]):=by
 have e2:=λk=>dU k S s hl
 rw[kY];unfold B9;simp only[↓aF,e2]
theorem KJ(k:Nat){S:Sc}{s:Sp}{d:Kn}{i:Sx}(h:Pk S s d i):run aS (k+1) "may_be_written" [gI S,dn s] []=some (.ok (.bl (Sy d)),[]):=by
 have:=l6 k S s.x (.aq (s.p.map .int)) (we s.a) h.k;rw[<-h.t]at this;exact this
theorem cJ(k:Nat)(S:Sc)(s:Sp)(hl:s.p.length<=1000):run aS (k+13) "is_written_part" [gI S,dn s] []=some (.ok (.bl (kf S s)),[]):=by
 have e2:=λk=>dU k S s hl
 rw[jo];unfold kf JB;cases hc:cls S s with
 | none =>
  have:k6 S s=false:=by unfold k6;rw[hc];rfl
  simp only[this]at e2;simp only[↓aF,e2,this];rfl
 | some q =>
  have e3:=λk=>KJ k (kZ (As (d:=q.1) (i:=q.2) hc).1)
  simp only[↓aF,e2,e3]
theorem mq(k:Nat)(S:Sc)(s:Sp)(hl:s.p.length<=1000):run aS (k+13) "is_target" [gI S,dn s] []=some (.ok (.bl (KI S s)),[]):=by
 have e2:=λk=>gG k S s hl
 rw[qe];unfold KI JB;cases hc:cls S s with
 | none =>
  have:CF S s=false:=by unfold CF;rw[hc]
  simp only[this]at e2;simp only[↓aF,e2,this];rfl
 | some q =>
  have e3:=λk=>KJ k (kZ (As (d:=q.1) (i:=q.2) hc).1)
  simp only[↓aF,e2,e3]
inductive Op where
 | n (i:Int) | s (s:Sp)
def ui:Op->PV
 | .n i=>.int i
 | .s s=>dn s
def pG(S:Sc):Op->Bool
 | .n i=>decide (0<=i)&&decide (i<10^30)
 | .s s=>CF S s
def JC:Op->Prop
 | .n _=>True
 | .s s=>s.p.length<=1000
theorem cy(k:Nat)(S:Sc)(o:Op)(hl:JC o):run aS (k+13) "is_operand" [gI S,ui o] []=some (.ok (.bl (pG S o)),[]):=by
 rw[oW];cases o with
 | n i =>
  have h3:Bh [] (.int 10) (.int 30)=some (.int (10^30)):=by kernel_rfl
  by_cases h1:0<=i
  ·simp only[↓aF,ui,pG,dy,h3,aG h1,bz]
  ·simp only[↓aF,ui,pG,dy,h3,aP h1,bI]
 | s s =>
  have e2:=λk=>gG k S s hl
  have e3:∀k,run aS (k+1) "is_whole" [dn s] []=some (.ok (.bl false),[]):=λk=>uh k _
  simp only[↓aF,ui,pG,e2,e3]
theorem mZ{α β:Type}(f:α->PV)(g:β->PV):∀(as:List α) (bs:List β),List.zipWith dZ (as.map f) (bs.map g)=(as.zip bs).map λz=>.aq [f z.1,g z.2]
 | [],_=>by simp
 | _::_,[]=>by simp
 | a::as,b::bs=>by
  have:=mZ f g as bs;simp only[aO,List.zipWith_cons_cons,List.zip_cons_cons,this];rfl
inductive Rw where
 | put (s:Sp) (o:Op)
 | set (s:Sp) (g:Fin 3) (a b:Op)
 | fill (s:Sp) (o:Op)
 | fU (t s:Sp)
 | i5 (t s:Sp)
 | drop (s:Sp)
 | fV (w:Bool) (x:Str) (s:Sp)
 | call (x f:Str) (as:List Str)
 | JD (a b:Op) (to:Int)
 | go (to:Int)
 | Av (o:Op)
 | iq (x:Str)
def Z9(w:Bool):Str:=if w then "sole" else "lend"
def X3:Fin 3->Str
 | 0=>"+"
 | 1=>"-"
 | 2=>"*"
def fP:Rw->PV
 | .put s o=>.aq [.str "put",dn s,ui o]
 | .set s g a b=>.aq [.str "set",dn s,.str (X3 g),ui a,ui b]
 | .fill s o=>.aq [.str "fill",dn s,ui o]
 | .fU t s=>.aq [.str "copy",dn t,dn s]
 | .i5 t s=>.aq [.str "move",dn t,dn s]
 | .drop s=>.aq [.str "drop",dn s]
 | .fV w x s=>.aq [.str (Z9 w),.str x,dn s]
 | .call x f as=>.aq [.str "call",.str x,.str f,.aq (as.map .str)]
 | .JD a b to=>.aq [.str "if",ui a,ui b,.int to]
 | .go to=>.aq [.str "go",.int to]
 | .Av o=>.aq [.str "say",ui o]
 | .iq x=>.aq [.str "give",.str x]
abbrev FT(s:Sp):Prop:=s.p.length<=1000
def qj:Rw->Prop
 | .put s o=>FT s/\JC o
 | .set s _ a b=>FT s/\JC a/\JC b
 | .fill s o=>FT s/\JC o
 | .fU t s=>FT t/\FT s
 | .i5 t s=>FT t/\FT s
 | .drop s=>FT s
 | .fV _ _ s=>FT s
 | .call _ _ as=>as.length<=1000
 | .JD a b _=>JC a/\JC b
 | .go _=>True
 | .Av o=>JC o
 | .iq _=>True
def tkB(S:Sc)(x:Str):j3->Bool
 | .aN=>x==""
 | .own s=>decide (aW S.K x=some (.ow s))
 | .jk w s _=>decide (aW S.K x=some (.ho w s))
def Oo:Sx->Bool
 | .ow=>false
 | .os _=>false
 | _=>true
def jB(S:Sc)(to:Int):Bool:=decide (0<=to)&&decide (to<(S.size:Int))
def GJ(S:Sc)(t s:Sp):Bool:=match cls S t,cls S s with
 | some q,some r=>decide (q.2=r.2)
 | _,_=>false
def mO:Sx->Bool
 | .st _=>true
 | _=>false
def uj(S:Sc)(s:Sp)(f:Sx->Bool):Bool:=match cls S s with
 | none=>false
 | some q=>f q.2
def eP:List Hd->Str->Option Hd
 | [],_=>none
 | r::l,x=>if r.nm=x then some r else eP l x
def pe(S:Sc)(x f:Str)(as:List Str):Bool:=match eP S.H f with
 | none=>false
 | some G=>decide (as.length=G.ps.length)&&(tkB S x G.res&&(as.zip G.ps).all λz=>decide (aW S.K z.1=some z.2.2))
def cg(S:Sc):Rw->Bool
 | .put s o=>KI S s&&pG S o
 | .set s _ a b=>KI S s&&(pG S a&&pG S b)
 | .fill s o=>(kf S s&&uj S s mO)&&pG S o
 | .fU t s=>(kf S t&&k6 S s)&&(GJ S t s&&uj S s Oo)
 | .i5 t s=>(kf S t&&B9 S s)&&GJ S t s
 | .drop s=>B9 S s
 | .fV false x s=>k6 S s&&uj S s λi=>decide (aW S.K x=some (.ho false i))
 | .fV true x s=>kf S s&&uj S s λi=>decide (aW S.K x=some (.ho true i))
 | .call x f as=>pe S x f as
 | .JD a b to=>pG S a&&(pG S b&&jB S to)
 | .go to=>jB S to
 | .Av o=>pG S o
 | .iq x=>tkB S x S.res
theorem FU(k:Nat){S:Sc}{s:Sp}{o:Op}(h:qj (.put s o)):run aS (k+14) "is_put" [gI S,fP (.put s o)] []=some (.ok (.bl (cg S (.put s o))),[]):=by
 have e1:=λk=>mq k S s h.1
 have e2:=λk=>cy k S o h.2
 rw[yK];simp only[↓aF,e1,e2,cg]
theorem FV(k:Nat){S:Sc}{s:Sp}{g:Fin 3}{a b:Op}(h:qj (.set s g a b)):run aS (k+14) "is_set" [gI S,fP (.set s g a b)] []=some (.ok (.bl (cg S (.set s g a b))),[]):=by
 have e1:=λk=>mq k S s h.1
 have e2:=λk=>cy k S a h.2.1
 have e3:=λk=>cy k S b h.2.2
 rw[yL];rcases g with⟨_ | _ | _ | g,hg⟩
 case succ.succ.succ=>lia
 all_goals simp only[↓aF,e1,e2,e3,cg]
theorem dW{S:Sc}{s:Sp}{d:Kn}{i:Sx}(h:cls S s=some (d,i)):Pk S s d i:=kZ (As h).1
theorem i6{S:Sc}{s:Sp}(h:k6 S s=true):∃d i,cls S s=some (d,i):=by
 unfold k6 at h;cases hc:cls S s with
 | none=>rw[hc]at h;simp at h
 | some q=>exact⟨q.1,q.2,rfl⟩
theorem Aw{S:Sc}{s:Sp}(h:kf S s=true):k6 S s=true:=by unfold kf at h;simp_all
theorem SE{S:Sc}{s:Sp}(h:B9 S s=true):k6 S s=true:=by unfold B9 at h;simp_all
theorem KL{h:List ah}{i:Sx}:yg h (.str (Om i)) (.str "strip")=some (.bl (!mO i)):=by cases i<;>kernel_rfl
theorem Cc(k:Nat){S:Sc}{s:Sp}{o:Op}(h:qj (.fill s o)):run aS (k+14) "is_fill" [gI S,fP (.fill s o)] []=some (.ok (.bl (cg S (.fill s o))),[]):=by
 have e1:=λk=>cJ k S s h.1
 have e2:=λk=>cy k S o h.2
 rw[vW];cases hw:kf S s with
 | false =>
  simp only[hw]at e1;simp only[↓aF,e1,cg,hw,bI]
 | true =>
  obtain⟨d,i,hc⟩:=i6 (Aw hw);simp only[hw]at e1;have e3:=λk=>b8 k (dW hc)
  have e4:uj S s mO=mO i:=by unfold uj;rw[hc]
  cases hi:mO i<;>simp only[↓aF,e1,e2,e3,fj,KL,hi,cg,hw,e4,bz,bI,Bool.not_true,sF]
theorem mr(k:Nat){S:Sc}{t s:Sp}{d e:Kn}{i j:Sx}(h1:Pk S t d i)(h2:Pk S s e j):run aS (k+11) "are_alike" [gI S,dn t,dn s] []=some (.ok (.bl (decide (i=j))),[]):=by
 have e1:=λk=>b8 k h1
 have e2:=λk=>b8 k h2
 rw[qf];simp only[↓aF,e1,e2,FK]
theorem wj(k:Nat)(i:Sx):run aS (k+9) "is_copied" [cK i] []=some (.ok (.bl (Oo i)),[]):=by cases i<;>kernel_rfl
theorem Cd(k:Nat){S:Sc}{t s:Sp}(h:qj (.fU t s)):run aS (k+14) "is_copy" [gI S,fP (.fU t s)] []=some (.ok (.bl (cg S (.fU t s))),[]):=by
 have e1:=λk=>cJ k S t h.1
 have e2:=λk=>dU k S s h.2
 rw[vX];cases h1:kf S t with
 | false =>
  simp only[h1]at e1;simp only[↓aF,e1,cg,h1,bI]
 | true =>
  simp only[h1]at e1;cases h2:k6 S s with
  | false =>
   simp only[h2]at e2;simp only[↓aF,e1,e2,cg,h1,h2,bI,du]
  | true =>
   simp only[h2]at e2;obtain⟨d,i,hc⟩:=i6 (Aw h1);obtain⟨e,j,hd⟩:=i6 h2;have e3:=λk=>mr k (dW hc) (dW hd)
   have e4:=λk=>b8 k (dW hd)
   have e5:GJ S t s=decide (i=j):=by unfold GJ;rw[hc,hd]
   have e6:uj S s Oo=Oo j:=by unfold uj;rw[hd]
   simp only[↓aF,e1,e2,e3,e4,wj,cg,h1,h2,e5,e6,bz]
theorem Ce(k:Nat){S:Sc}{t s:Sp}(h:qj (.i5 t s)):run aS (k+14) "is_move" [gI S,fP (.i5 t s)] []=some (.ok (.bl (cg S (.i5 t s))),[]):=by
 have e1:=λk=>cJ k S t h.1
 have e2:=λk=>ig k S s h.2
 rw[vY];cases h1:kf S t with
 | false =>
  simp only[h1]at e1;simp only[↓aF,e1,cg,h1,bI]
 | true =>
  simp only[h1]at e1;cases h2:B9 S s with
  | false =>
   simp only[h2]at e2;simp only[↓aF,e1,e2,cg,h1,h2,bI,du]
  | true =>
   simp only[h2]at e2;obtain⟨d,i,hc⟩:=i6 (Aw h1);obtain⟨e,j,hd⟩:=i6 (SE h2);have e3:=λk=>mr k (dW hc) (dW hd)
   have e5:GJ S t s=decide (i=j):=by unfold GJ;rw[hc,hd]
   simp only[↓aF,e1,e2,e3,cg,h1,h2,e5,bz]
theorem Cf(k:Nat){S:Sc}{s:Sp}(h:qj (.drop s)):run aS (k+14) "is_drop" [gI S,fP (.drop s)] []=some (.ok (.bl (cg S (.drop s))),[]):=by
 have e1:=λk=>ig k S s h
 rw[vZ];simp only[↓aF,e1,cg]
theorem Cg(k:Nat){S:Sc}{x:Str}{s:Sp}(h:qj (.fV false x s)):run aS (k+14) "is_lend" [gI S,fP (.fV false x s)] []=some (.ok (.bl (cg S (.fV false x s))),[]):=by
 have e1:=λk=>dU k S s h
 rw[v3];cases h1:k6 S s with
 | false =>
  simp only[h1]at e1;simp only[↓aF,e1,cg,h1,bI]
 | true =>
  simp only[h1]at e1;obtain⟨d,i,hc⟩:=i6 h1;have e2:=λk=>b8 k (dW hc)
  have e3:=λk=>pd k S x false i
  have e4:uj S s (λi=>decide (aW S.K x=some (.ho false i)))=decide (aW S.K x=some (.ho false i)):=by unfold uj;rw[hc]
  rw[show CD false="lent" from rfl]at e3
  simp only[↓aF,e1,e2,e3,cg,h1,e4,bz]
theorem Ci(k:Nat){S:Sc}{x:Str}{s:Sp}(h:qj (.fV true x s)):run aS (k+14) "is_sole" [gI S,fP (.fV true x s)] []=some (.ok (.bl (cg S (.fV true x s))),[]):=by
 have e1:=λk=>cJ k S s h
 rw[v5];cases h1:kf S s with
 | false =>
  simp only[h1]at e1;simp only[↓aF,e1,cg,h1,bI]
 | true =>
  simp only[h1]at e1;obtain⟨d,i,hc⟩:=i6 (Aw h1);have e2:=λk=>b8 k (dW hc)
  have e3:=λk=>pd k S x true i
  have e4:uj S s (λi=>decide (aW S.K x=some (.ho true i)))=decide (aW S.K x=some (.ho true i)):=by unfold uj;rw[hc]
  rw[show CD true="sole" from rfl]at e3
  simp only[↓aF,e1,e2,e3,cg,h1,e4,bz]
def Oq:j3->Bool
 | .jk _ _ _=>true
 | _=>false
theorem qk(k:Nat)(r:j3)(h:r≠.aN):run aS (k+1) "is_holder" [g8 r] []=some (.ok (.bl (Oq r)),[]):=by
 cases r with
 | aN=>exact absurd rfl h
 | own s=>cases s<;>kernel_rfl
 | jk w s l=>cases w<;>kernel_rfl
theorem k7(k:Nat)(S:Sc)(x:Str)(r:j3):run aS (k+2) "takes_back" [gI S,.str x,g8 r] []=some (.ok (.bl (tkB S x r)),[]):=by
 have e1:=λk=>qk k r
 have q:∀h:List ah,lS h (.str x) (.str "")=some (.bl (x=="")):=λ_=>rfl
 rw[oX];cases r with
 | aN=>simp only[↓aF,q,tkB]
 | own s =>
  have e2:∀k,run aS (k+1) "has_kind" [gI S,.str x,g8 (.own s)] []=some (.ok (.bl (decide (aW S.K x=some (.ow s)))),[]):=λk=>g9 k S x (.ow s)
  have e1:=λk=>e1 k (by simp)
  simp only[↓aF,e1,Oq,e2,tkB,show u7 (g8 (.own s))=false by cases s<;>rfl]
 | jk w s l =>
  have e2:=λk=>pd k S x w s
  have e1:=λk=>e1 k (by simp)
  simp only[↓aF,e1,Oq,e2,tkB]
theorem Cj(k:Nat){S:Sc}{x:Str}:run aS (k+14) "is_give" [gI S,fP (.iq x)] []=some (.ok (.bl (cg S (.iq x))),[]):=by
 rw[wa];simp only[↓aF,k7,cg]
theorem rn(k:Nat){S:Sc}{to:Int}:run aS (k+2) "is_jump" [gI S,.int to] []=some (.ok (.bl (jB S to)),[]):=by
 rw[v9];unfold jB;by_cases h:0<=to
 ·simp only[↓aF,dy,aG h,bz]
 ·simp only[↓aF,dy,aP h,bI]
theorem JE(k:Nat){S:Sc}{a b:Op}{to:Int}(h:qj (.JD a b to)):run aS (k+14) "is_if" [gI S,fP (.JD a b to)] []=some (.ok (.bl (cg S (.JD a b to))),[]):=by
 have e1:=λk=>cy k S a h.1
 have e2:=λk=>cy k S b h.2
 rw[BZ];simp only[↓aF,e1,e2,rn,cg]
theorem JF(k:Nat){S:Sc}{to:Int}:run aS (k+14) "is_go" [gI S,fP (.go to)] []=some (.ok (.bl (cg S (.go to))),[]):=by
 rw[B0];simp only[↓aF,rn,cg]
theorem FW(k:Nat){S:Sc}{o:Op}(h:qj (.Av o)):run aS (k+14) "is_say" [gI S,fP (.Av o)] []=some (.ok (.bl (cg S (.Av o))),[]):=by
 have e3:=λk=>cy k S o h
 rw[yM];simp only[↓aF,e3,cg]
structure wm (x:Str):Prop where
 l:1<=x.length
 m:x.length<=8
 c:∀c∈x.cps.toList,97<=c/\c<=122
theorem len_str{h:List ah}{x:Str}(hx:x.length<=1000):jK h [.str x]=some (.int x.length):=by
 show(if x.length<=iN then _ else none)=_
 rw[if_pos (show x.length<=iN from aD hx (by decide))]
theorem JG{h:List ah}{x:Str}(hx:∀c∈x.cps.toList,c<=122):MV h (.str x)=some (.sq (x.cps.toList.map λc=>.str ⟨#[c]⟩)):=by
 show(if x.cps.all (· < 128)=true then some (zY.sq (Ep x))else none)=_
 rw[if_pos]
 ·rfl
 ·rw[Array.all_eq_true'];intro c hc;have:=hx c (by simpa using hc)
  simp
  lia
theorem Wy{h:List ah}{c:Nat}(hc:97<=c):vj h (.str "a") (.str ⟨#[c]⟩)=some (.bl true):=by
 show some (PV.bl (!(decide ([c]<[97]))))=_;rw[aP]
 ·rfl
 ·intro h;cases h with
  | rel h=>lia
  | cons h=>cases h
theorem Wz{h:List ah}{c:Nat}(hc:c<=122):vj h (.str ⟨#[c]⟩) (.str "z")=some (.bl true):=by
 show some (PV.bl (!(decide ([122]<[c]))))=_;rw[aP]
 ·rfl
 ·intro h;cases h with
  | rel h=>lia
  | cons h=>cases h
theorem Ck(k:Nat){x:Str}(h:wm x):run aS (k+1) "is_name" [.str x] []=some (.ok (.bl true),[]):=by
 have h1:(1:Int)<=x.length:=by have:=h.l;lia
 have h2:(x.length:Int)<=8:=by have:=h.m;lia
 have e1:=λh'=>JG (h:=h') λc hc=>(h.c c hc).2
 have e2:∀h',∀c∈x.cps.toList,vj h' (.str "a") (.str ⟨#[c]⟩)=some (.bl true):=λh' c hc=>Wy (h.c c hc).1
 have e3:∀h',∀c∈x.cps.toList,vj h' (.str ⟨#[c]⟩) (.str "z")=some (.bl true):=λh' c hc=>Wz (h.c c hc).2
 have e4:=λh'=>len_str (h:=h') (aD h.m (by decide))
 have e5:(x.cps.toList.map λc=>PV.str ⟨#[c]⟩).length<=4000000:=by
  have:=h.m;rw[ak];show x.cps.toList.length<=_;have:x.cps.toList.length=x.length:=by simp[Str.length]
  lia
 rw[vS];simp only[↓aF,e1,e2,e3,e4,e5,aG h1,aG h2,l7]
theorem pf:∀(l m:List Str),(m++l).Nodup->l.foldl jn m=m++l
 | [],m,_=>by simp
 | x::l,m,h=>by
  have hx:m.any (· == x)=false:=by
   rw[xj];intro y hy;have:=xi.mp h;simp only[gQ];exact λz=>this.2.2 y hy x (by simp) z
  rw[nE,show jn m x=m++[x] by unfold jn;rw[hx];rfl,pf l (m++[x]) (by simpa using h)]
  simp
theorem wo:∀l:List Str,bj vw (l.map .str)=some l
 | []=>rfl
 | x::l=>by
  show(some x).bind (λy=>(bj vw (l.map .str)).map λys=>y::ys)=_
  rw[wo l];rfl
theorem yS{l:List Str}(h:l.Nodup)(hl:l.length<=1000):E8 (.lst (l.map .str))=some (.int l.length):=by
 show(if(l.map PV.str).length<=1000 then(bj vw (l.map .str)).map λks=>PV.int ((BQ ks).length:Nat)else none)=_
 rw[if_pos (by rw[ak];exact hl),wo]
 show some (PV.int ((l.foldl jn []).length:Nat))=_;rw[pf l [] (by simpa using h)]
 rfl
theorem l8{h:List ah}{a b:Int}:lS h (.int a) (.int b)=some (.bl (a==b)):=rfl
theorem mv(k:Nat){l:List Str}(h:∀x∈l,wm x)(hd:l.Nodup)(hl:l.length<=100):run aS (k+2) "are_apart" [.lst (l.map .str)] []=some (.ok (.bl true),[]):=by
 have e1:∀k,∀x∈l,run aS (k+1) "is_name" [.str x] []=some (.ok (.bl true),[]):=λk x hx=>Ck k (h x hx)
 have e2:l.length<=4000000:=by lia
 rw[qb];simp only[↓aF,e1,e2,l7,yS hd (by lia),ak,l8,gh]
theorem uk(k:Nat)(w:Bool)(p:PV):run aS (k+9) "is_shape" [.aq [.str (CD w),p]] []=some (.ok (.bl false),[]):=by cases w<;>kernel_rfl
theorem gH(k:Nat)(w:Bool)(s:Sx):run aS (k+10) "is_holder_kind" [.aq [.str (CD w),cK s]] []=some (.ok (.bl true),[]):=by
 have e:=λk l=>dj k l 2
 rw[jU];cases w<;>simp only[↓aF,e,j4]
theorem Cm(k:Nat)(d:Kn):run aS (k+11) "is_kind" [c6 d] []=some (.ok (.bl true),[]):=by
 rw[vT];cases d with
 | ow s =>
  have e1:∀k,run aS (k+9) "is_shape" [c6 (.ow s)] []=some (.ok (.bl true),[]):=λk=>j4 k s
  simp only[↓aF,e1]
 | ho w s =>
  have e1:∀k,run aS (k+9) "is_shape" [c6 (.ho w s)] []=some (.ok (.bl false),[]):=λk=>uk k w _
  have e2:∀k,run aS (k+10) "is_holder_kind" [c6 (.ho w s)] []=some (.ok (.bl true),[]):=λk=>gH k w _
  simp only[↓aF,e1,e2]
theorem mw(k:Nat)(l:List Ky)(n:Int)(hl:(l.length:Int)<=n)(hn:n<=100):run aS (k+12) "are_named" [.aq (l.map dH),.int n] []=some (.ok (.bl true),[]):=by
 have e1:=λk=>dq k (l.map dH) 0 n (by lia) (by rw[ak];exact hl)
 have e2:∀k (q:Ky),run aS (k+2) "is_tuple_of" [dH q,.int 2] []=some (.ok (.bl true),[]):=λk q=>dj k _ _ rfl
 have e3:(l.map dH).length<=4000000:=by rw[ak];lia
 rw[qc];simp only[↓aF,e1,e2,e3,Cm,l7]
theorem WA{α:Type}{f:α->PV}{a b:List α}{h:List ah}(hl:a.length+b.length<=1000):kB h (.aq (a.map f)) (.aq (b.map f))=some (.aq ((a++b).map f)):=by
 show U.sizeOk _ _=_;unfold U.sizeOk;rw[if_pos (show _<=iN from(by rw[ak,ak];exact aD hl (by decide))),dN]
theorem toT_strs{h:List ah}:∀{n:Nat} (l:List Str),bj (toT h (n+1)) (l.map .str)=some (l.map .str)
 | _,[]=>rfl
 | n,x::l=>by
  show(some (Tr.str x)).bind (λy=>(bj (toT h (n+1)) (l.map .str)).map λys=>y::ys)=_
  rw[toT_strs l];rfl
theorem rp:∀a b:List Str,kC (a.map .str) (b.map .str)=decide (a=b)
 | [],[]=>rfl
 | [],_::_=>rfl
 | _::_,[]=>rfl
 | x::a,y::b=>by
  show((x==y)&&kC (a.map .str) (b.map .str))=_;rw[rp a b,dO];simp
theorem JH{h:List ah}{a b:List Str}:lS h (.aq (a.map .str)) (.aq (b.map .str))=some (.bl (decide (a=b))):=by
 show(((bj (toT h 999) (a.map .str)).bind (yf .aq)).bind λx=>((bj (toT h 999) (b.map .str)).bind (yf .aq)).map λy=>eqT x y).map PV.bl=_
 rw[toT_strs,toT_strs];show some (PV.bl (kC (a.map .str) (b.map .str)))=_;rw[rp]
theorem JI{h:List ah}{x:Str}{l:List Str}:lW false h (.str x) (.aq (l.map .str))=some (.bl (decide (x∈l))):=by
 show((bj (toT h cf) (l.map .str)).map λys=>ys.any λy=>eqT y (.str x)).map (λb=>PV.bl b)=_
 rw[show cf=999+1 from rfl,toT_strs]
 show some (PV.bl ((l.map Tr.str).any λy=>eqT y (.str x)))=_
 congr 2
 rw[nH,dO,lB];simp only[Function.comp,eqT,gQ,dr];exact⟨λ⟨y,h1,h2⟩=>h2▸h1,λh=>⟨x,h,rfl⟩⟩
def WB(ps:List Ky):List Str:=(ps.filter λq=>kd q.2).map (·.1)
def rz(ps:List Ky)(l:List Str):Prop:=l=(WB ps).filter λx=>decide (x∈l)
theorem ql(k:Nat){ps:List Ky}{l:List Str}(h:rz ps l)(hp:ps.length<=1000):run aS (k+2) "are_sources" [.aq (l.map .str),.aq (ps.map dH)] []=some (.ok (.bl true),[]):=by
 have e1:(ps.map dH).length<=4000000:=by rw[ak];lia
 have e2:((ps.filter λq=>kd q.2).map λq=>PV.str q.1).length<=4000000:=by
  have:=nc (λq:Ky=>kd q.2) ps
  rw[ak]
  lia
 have e3:List.map (λx=>PV.str x.fst) (List.filter (λx=>decide (x.fst∈l)) (List.filter (λx=>kd x.snd) ps))=l.map PV.str:=by
  conv=>rhs;rw[h]
  unfold WB;rw[List.filter_map,fF];rfl
 rw[mM];simp only[↓aF,e1,e2,e3,eO,JI,JH,decide_true]
theorem FX:∀{H:List Hd} {x:Str},dY [.inr x] (H.map λG=>[.inr G.nm]) (H.map Ju)=(eP H x).map Ju
 | [],_=>rfl
 | r::l,x=>by
  show(if [(Sum.inr r.nm:cz)]=[Sum.inr x]then some (Ju r)else dY [.inr x] (l.map λG=>[.inr G.nm]) (l.map Ju))=_
  unfold eP;by_cases h:r.nm=x
  ·rw[if_pos h,if_pos (by rw[h])];rfl
  ·rw[if_neg h,if_neg (by simpa using h),FX]
theorem KN:∀{H:List Hd} {x:Str},gX [.inr x] (H.map λG=>[.inr G.nm])=(eP H x).isSome
 | [],_=>rfl
 | r::l,x=>by
  show(decide ([(Sum.inr r.nm:cz)]=[Sum.inr x]) || gX [.inr x] (l.map λG=>[.inr G.nm]))=_
  unfold eP;rw[KN];by_cases h:r.nm=x
  ·rw[if_pos h,aG (by rw[h])];rfl
  ·rw[if_neg h,aP (by simpa using h)];rfl
abbrev T2(H:List Hd):PV:=.nd (.eJ false (H.map λG=>[.inr G.nm])) (H.map Ju)
theorem Ot{H:List Hd}{x:Str}{G:Hd}{h:List ah}(hd:eP H x=some G):fw h (T2 H) (.str x)=some (Ju G):=by
 show dY [.inr x] (H.map λG=>[.inr G.nm]) (H.map Ju)=_
 rw[FX,hd];rfl
theorem SF{H:List Hd}{x:Str}{h:List ah}:lW true h (.str x) (T2 H)=some (.bl (!(eP H x).isSome)):=by
 show some (PV.bl (!gX [.inr x] (H.map λG=>[.inr G.nm])))=_
 rw[KN]
theorem mP(k:Nat)(ps:List PV)(a:Nat):run aS (k+2) "is_tuple_of" [.aq ps,.int a] []=some (.ok (.bl (decide (ps.length=a))),[]):=by
 have e:∀k,run aS (k+1) "is_tuple_from" [.aq ps,.int a,.int a] []=some (.ok (.bl (decide (ps.length=a))),[]):=λk=>by
  rw[f9];by_cases h1:(a:Int)<=ps.length
  ·by_cases h2:(ps.length:Int)<=a
   ·simp only[↓aF,aG h1,aG h2,aG (show ps.length=a by lia)]
   ·simp only[↓aF,aG h1,aP h2,aP (show ¬ps.length=a by lia)]
  ·simp only[↓aF,aP h1,aP (show ¬ps.length=a by lia)]
 rw[ic];simp only[↓aF,e]
theorem Cn(k:Nat){S:Sc}{x f:Str}{as:List Str}(h:qj (.call x f as)):run aS (k+14) "is_call" [gI S,fP (.call x f as)] []=some (.ok (.bl (cg S (.call x f as))),[]):=by
 have h:as.length<=1000:=h;rw[v7];show _=some (Rs.ok (PV.bl (pe S x f as)),_);unfold pe;cases hf:eP S.H f with
 | none =>
  have e0:∀h,lW true h (.str f) (T2 S.H)=some (.bl true):=λh=>by rw[SF,hf];rfl
  simp only[↓aF,e0]
 | some G =>
  have e0:∀h,lW true h (.str f) (T2 S.H)=some (.bl false):=λh=>by rw[SF,hf];rfl
  have e1:=λk=>k7 k S x G.res
  have e2:=λk=>mP k (as.map .str) (G.ps.map dH).length
  rw[ak,ak]at e2;have e3:∀k (z:Str×Ky),run aS (k+1) "has_kind" [gI S,.str z.1,c6 z.2.2] []=some (.ok (.bl (decide (aW S.K z.1=some z.2.2))),[]):=λk z=>g9 k S z.1 z.2.2
  have e4:min as.length G.ps.length<=4000000:=by lia
  by_cases h1:as.length=G.ps.length
  ·simp only[h1,decide_true]at e2;cases h2:tkB S x G.res
   ·simp only[h2]at e1;simp only[↓aF,e0,Ot hf,e1,e2,aG h1,h2,ak];rfl
   ·simp only[h2]at e1;simp only[↓aF,e0,Ot hf,e1,e2,e3,e4,mZ,all_map,aG h1,h2,ak,su,bz]
  ·simp only[h1,decide_false]at e2;simp only[↓aF,e0,Ot hf,e1,e2,aP h1,ak];rfl
def FY:Rw->Bool
 | .go _=>true
 | .iq _=>true
 | _=>false
theorem FZ{α:Type}{xs:List α}{v:α}(h:xs.getLast?=some v):L2.nY xs (-1)=some v:=by
 have hp:0<xs.length:=by cases xs with | nil=>cases h | cons=>simp
 unfold L2.nY L2.GA;rw[if_neg (by lia),if_pos (by lia),eU,show((-1:Int)+xs.length).toNat=xs.length-1 by lia,<-List.getLast?_eq_getElem?]
 exact h
structure Fd where
 nm:Str
 ps:List Ky
 res:j3
 ls:List Ky
 rw:List Rw
def c7(F:Fd):PV:=.aq [.str F.nm,.aq (F.ps.map dH),g8 F.res,.aq (F.ls.map dH),.aq (F.rw.map fP)]
def KO(ps:List Ky):j3->Prop
 | .jk _ _ l=>rz ps l
 | _=>True
theorem wq(k:Nat){ps:List Ky}{r:j3}(h:KO ps r)(hp:ps.length<=1000):run aS (k+11) "is_result" [g8 r,.aq (ps.map dH)] []=some (.ok (.bl true),[]):=by
 rw[qd];cases r with
 | aN=>simp only[↓aF]
 | own s =>
  have e1:∀k,run aS (k+9) "is_shape" [g8 (.own s)] []=some (.ok (.bl true),[]):=λk=>j4 k s
  simp only[↓aF,e1,show u7 (g8 (.own s))=false by cases s<;>rfl]
 | jk w s l =>
  have e1:∀k,run aS (k+9) "is_shape" [g8 (.jk w s l)] []=some (.ok (.bl false),[]):=λk=>by cases w<;>kernel_rfl
  have e2:∀k,run aS (k+2) "is_tuple_of" [g8 (.jk w s l),.int 3] []=some (.ok (.bl true),[]):=λk=>dj k _ _ rfl
  have e3:=λk=>ql k h hp
  simp only[↓aF,e1,e2,e3,gH]
structure JJ (F:Fd):Prop where
 p:F.ps.length<=4
 l:F.ls.length<=8
 n:∀q∈F.ps++F.ls,wm q.1
 d:((F.ps++F.ls).map (·.1)).Nodup
 r:KO F.ps F.res
 w:1<=F.rw.length
 x:F.rw.length<=32
theorem Co(k:Nat){F:Fd}(h:JJ F):run aS (k+13) "is_head" [c7 F] []=some (.ok (.bl true),[]):=by
 have e1:∀k,run aS (k+2) "is_tuple_of" [c7 F,.int 5] []=some (.ok (.bl true),[]):=λk=>dj k _ _ rfl
 have e2:=λk=>mw k F.ps 4 (by have:=h.p;lia) (by decide)
 have e3:=λk=>mw k F.ls 8 (by have:=h.l;lia) (by decide)
 have e4:((F.ps++F.ls).map dH).length<=4000000:=by
  have:=h.p;have:=h.l;rw[ak,dM]
  lia
 have e5:=λk=>mv k (l:=(F.ps++F.ls).map (·.1)) (λx hx=>by obtain⟨q,h1,rfl⟩:=ee.mp hx;exact h.n q h1) h.d (by have:=h.p;have:=h.l;rw[ak,dM];lia)
 rw[fF]at e5;simp only[sd]at e5;have e6:=λk=>wq k h.r (by have:=h.p;lia)
 have e7:=λk=>dq k (F.rw.map fP) 1 32 (by have:=h.w;rw[ak];lia) (by have:=h.x;rw[ak];lia)
 have e8:=λh'=>WA (f:=dH) (a:=F.ps) (b:=F.ls) (h:=h') (by have:=h.p;have:=h.l;lia)
 rw[vU];simp only[↓aF,e1,e2,e3,e4,e5,e6,e7,e8]
theorem um(k:Nat){F:Fd}(h:F.res=.aN)(hp:∀q∈F.ps,q.2=.ow .nu)(hl:F.ps.length<=4):run aS (k+1) "may_be_run" [c7 F] []=some (.ok (.bl true),[]):=by
 have e1:(F.ps.map dH).length<=4000000:=by rw[ak];lia
 have e2:∀h',∀q∈F.ps,lS h' (c6 q.2) pN=some (.bl true):=λh' q hq=>by rw[hp q hq];exact(qh (a:=.ow .nu) (b:=.ow .nu)).trans (by rw[aG rfl])
 rw[oU];simp only[↓aF,h,e1,e2,l7]
theorem F6{α:Type}(key:α->Str)(val:α->PV):∀(L M:List α),((M++L).map key).Nodup->oC (L.map λx=>((.inr (key x):cz),val x)) ⟨.eJ false (M.map λx=>[.inr (key x)]),M.map val⟩=⟨.eJ false ((M++L).map λx=>[.inr (key x)]),(M++L).map val⟩
 | [],M,_=>by simp[oC]
 | x::L,M,h=>by
  have hx:gX [.inr (key x)] (M.map λx=>[(.inr (key x):cz)])=false:=by
   unfold gX;rw[xj];intro y hy;obtain⟨z,hz,rfl⟩:=ee.mp hy;rw[dN]at h;have:=(xi.mp h).2.2 (key z) (rW hz) (key x) (by simp)
   simpa using this
  show oC (L.map _) (tD false [.inr (key x)] (val x) (M.map λx=>[.inr (key x)]) (M.map val))=_
  unfold tD;rw[hx,if_neg cE];have:=F6 key val L (M++[x]) (by simpa using h)
  simpa using this
theorem rA{α:Type}(key:α->Str)(val:α->PV):∀L:List α,bj vB (L.map λx=>.aq [.str (key x),val x])=some (L.map λx=>((.inr (key x):cz),val x))
 | []=>rfl
 | x::L=>by
  show(some ((.inr (key x):cz),val x)).bind (λy=>(bj vB (L.map λx=>.aq [.str (key x),val x])).map λys=>y::ys)=_
  rw[rA key val L];rfl
theorem Ax{α:Type}(key:α->Str)(val:α->PV){L:List α}(h:(L.map key).Nodup)(hl:L.length<=1000):vC (L.map λx=>.aq [.str (key x),val x])=some ⟨.eJ false (L.map λx=>[.inr (key x)]),L.map val⟩:=by
 unfold vC;rw[if_pos (by rw[ak];exact hl),rA]
 have:=F6 key val L [] (by simpa using h)
 exact eX some this
def wI(F:Fd):Hd:=⟨F.nm,F.ps,F.res,.aq (F.ls.map dH),.aq (F.rw.map fP)⟩
def mx(P:List Fd)(F:Fd):Sc:=⟨F.ps++F.ls,F.res,F.rw.length,P.map wI⟩
theorem SG{P:List Fd}{F:Fd}:gI (mx P F)=.nd (.ins "Scene" ["kinds","result","size","heads"]) [Jv (F.ps++F.ls),g8 F.res,.int F.rw.length,.nd (.eJ false (P.map λG=>[.inr G.nm])) (P.map c7)]:=by
 show PV.nd _ [Jv (F.ps++F.ls),g8 F.res,.int F.rw.length,.nd (.eJ false ((P.map wI).map λG=>[.inr G.nm])) ((P.map wI).map Ju)]=_
 rw[fF,fF];rfl
theorem JK(c:CT){P:List Fd}{F:Fd}(h:JJ F)(hd:(P.map (·.nm)).Nodup)(hl:P.length<=6):GH aS c "Scene" [.ref 0,.aq (P.map c7),c7 F] [⟨.ins "Scene" [],[]⟩]=some (.ok .aN,[⟨.ins "Scene" ["kinds","result","size","heads"],[.ref 1,g8 F.res,.int F.rw.length,.ref 2]⟩,⟨.eJ false (uA (F.ps++F.ls)),Aq (F.ps++F.ls)⟩,⟨.eJ false (P.map λG=>[.inr G.nm]),P.map c7⟩]):=by
 rw[FE];unfold Ao;have e1:∀st,RI (.aq (F.ps.map dH)) (.aq (F.ls.map dH)) st=some (.ok (.ref st.h.length),⟨st.ρ,st.h++[⟨.eJ false (uA (F.ps++F.ls)),Aq (F.ps++F.ls)⟩]⟩):=λst=>by
  show((vC (F.ps.map dH++F.ls.map dH)).bind λc=>ik c st)=_
  rw[<-dN,show vC ((F.ps++F.ls).map dH)=_ from Ax (λq:Ky=>q.1) (λq=>c6 q.2) h.d (by have:=h.p;have:=h.l;rw[dM];lia)]
  rfl
 have e2:vC (P.map λG=>.aq [.str G.nm,c7 G])=_:=Ax (λG:Fd=>G.nm) c7 hd (by lia)
 have e3:P.length<=4000000:=by lia
 simp only[↓aF,e1,e2,e3,eU,ak]
structure BX (P:List Fd):Prop where
 l:1<=P.length
 m:P.length<=6
 h:∀F∈P,JJ F
 n:∀F∈P,wm F.nm
 d:(P.map (·.nm)).Nodup
 f:∀F,P[0]?=some F->F.res=.aN/\∀q∈F.ps,q.2=.ow .nu
 r:∀F∈P,(∀r∈F.rw,qj r)/\∃r,F.rw.getLast?=some r/\FY r=true
def WC(P:List Fd):Bool:=P.all λF=>F.rw.all (cg (mx P F))
theorem Cp(s:Sx):noRef (cK s)=true:=by cases s<;>rfl
theorem uo(d:Kn):noRef (c6 d)=true:=by
 cases d with
 | ow s=>exact Cp s
 | ho w s=>simp[c6,noRef,aT,Cp]
theorem hJ{α:Type}{f:α->PV}(h:∀x,noRef (f x)=true):∀l:List α,aT (l.map f)=true
 | []=>rfl
 | x::l=>by rw[aO,aT,hJ h l,h];rfl
theorem m4(l:List Str):aT (l.map .str)=true:=hJ (λ_=>rfl) l
theorem KP(q:Ky):noRef (dH q)=true:=by simp[dH,noRef,aT,uo]
theorem F7(r:j3):noRef (g8 r)=true:=by
 cases r with
 | aN=>rfl
 | own s=>exact Cp s
 | jk w s l=>simp[g8,noRef,aT,Cp,m4]
theorem F8(s:Sp):noRef (dn s)=true:=by
 obtain⟨x,t,p,a⟩:=s;cases a<;>simp[dn,GI,we,noRef,aT,Au]
theorem SH:∀o,noRef (ui o)=true
 | .n _=>rfl
 | .s s=>F8 s
theorem KQ(r:Rw):noRef (fP r)=true:=by
 cases r<;>simp[fP,noRef,aT,F8,SH,m4]
theorem KR(F:Fd):noRef (c7 F)=true:=by simp[c7,noRef,aT,hJ,KP,F7,KQ]
theorem Cq{P:List Fd}{F:Fd}:kL [⟨.ins "Scene" ["kinds","result","size","heads"],[.ref 1,g8 F.res,.int F.rw.length,.ref 2]⟩,⟨.eJ false (uA (F.ps++F.ls)),Aq (F.ps++F.ls)⟩,⟨.eJ false (P.map λG=>[.inr G.nm]),P.map c7⟩] 4 (.ref 0)=some (gI (mx P F)):=by
 rw[SG];have d1:∀n,kL [⟨.ins "Scene" ["kinds","result","size","heads"],[.ref 1,g8 F.res,.int F.rw.length,.ref 2]⟩,⟨.eJ false (uA (F.ps++F.ls)),Aq (F.ps++F.ls)⟩,⟨.eJ false (P.map λG=>[.inr G.nm]),P.map c7⟩] (n+1) (.ref 1)=some (Jv (F.ps++F.ls)):=λn=>by
  show(bj (kL _ n) (Aq (F.ps++F.ls))).map _=_;rw[mY (l:=Aq (F.ps++F.ls)) (hJ (λq:Ky=>uo q.2) _)]
  rfl
 have d2:∀n,kL [⟨.ins "Scene" ["kinds","result","size","heads"],[.ref 1,g8 F.res,.int F.rw.length,.ref 2]⟩,⟨.eJ false (uA (F.ps++F.ls)),Aq (F.ps++F.ls)⟩,⟨.eJ false (P.map λG=>[.inr G.nm]),P.map c7⟩] (n+1) (.ref 2)=some (.nd (.eJ false (P.map λG=>[.inr G.nm])) (P.map c7)):=λn=>by
  show(bj (kL _ n) (P.map c7)).map _=_;rw[mY (hJ KR _)];rfl
 generalize hh:[(⟨.ins "Scene" ["kinds","result","size","heads"],[.ref 1,g8 F.res,.int F.rw.length,.ref 2]⟩:ah),⟨.eJ false (uA (F.ps++F.ls)),Aq (F.ps++F.ls)⟩,⟨.eJ false (P.map λG=>[.inr G.nm]),P.map c7⟩]=H at d1 d2 ⊢
 have d3:kL H 4 (.ref 0)=(bj (kL H 3) [.ref 1,g8 F.res,.int F.rw.length,.ref 2]).map (.nd (.ins "Scene" ["kinds","result","size","heads"])):=by subst hh;rfl
 have d4:kL H 3 (g8 F.res)=some (g8 F.res):=by unfold kL;rw[if_pos (F7 _)]
 rw[d3];simp only[bj,d1,d2,d4];rfl
theorem SJ(k:Nat){S:Sc}{r:Rw}(h:qj r):run aS (k+15) "is_row" [gI S,fP r] []=some (.ok (.bl (cg S r)),[]):=by
 rw[yJ];cases r with
 | put s o=>have e:=λk=>FU k (S:=S) h;simp only[↓aF,e]
 | set s g a b=>have e:=λk=>FV k (S:=S) h;simp only[↓aF,e]
 | fill s o=>have e:=λk=>Cc k (S:=S) h;simp only[↓aF,e]
 | fU t s=>have e:=λk=>Cd k (S:=S) h;simp only[↓aF,e]
 | i5 t s=>have e:=λk=>Ce k (S:=S) h;simp only[↓aF,e]
 | drop s=>have e:=λk=>Cf k (S:=S) h;simp only[↓aF,e]
 | fV w x s =>
  cases w
  ·have e:=λk=>Cg k (S:=S) (x:=x) h;simp only[↓aF,e]
  ·have e:=λk=>Ci k (S:=S) (x:=x) h;simp only[↓aF,e]
 | call x f as=>have e:=λk=>Cn k (S:=S) (x:=x) (f:=f) h;simp only[↓aF,e]
 | JD a b to=>have e:=λk=>JE k (S:=S) (to:=to) h;simp only[↓aF,e]
 | go to=>have e:=λk=>JF k (S:=S) (to:=to);simp only[↓aF,e]
 | Av o=>have e:=λk=>FW k (S:=S) h;simp only[↓aF,e]
 | iq x=>have e:=λk=>Cj k (S:=S) (x:=x);simp only[↓aF,e]
theorem yT(k:Nat){S:Sc}{R:List Rw}{r:Rw}(h:∀r∈R,qj r)(hl:R.getLast?=some r)(hr:FY r=true)(hn:R.length<=1000):run aS (k+16) "are_rows" [gI S,.aq (R.map fP)] []=some (.ok (.bl (R.all (cg S))),[]):=by
 have e1:∀k,∀r∈R,run aS (k+15) "is_row" [gI S,fP r] []=some (.ok (.bl (cg S r)),[]):=λk r hr=>SJ k (h r hr)
 have e2:(R.map fP).length<=4000000:=by rw[ak];lia
 have e3:fw [] (.aq (R.map fP)) (.int (-1))=some (fP r):=by
  show L2.nY (R.map fP) (-1)=_;exact FZ (by rw[List.getLast?_map,hl];rfl)
 rw[ub];cases r<;>first | (simp only[↓aF,e1,e2,e3,all_map,eV];done) | cases hr
theorem yU(k:Nat){P:List Fd}(h:BX P):run aS (k+17) "is_right" [.aq (P.map c7)] []=some (.ok (.bl (WC P)),[]):=by
 have e1:=λk=>dq k (P.map c7) 1 6 (by have:=h.l;rw[ak];lia) (by have:=h.m;rw[ak];lia)
 have e2:∀k,∀F∈P,run aS (k+13) "is_head" [c7 F] []=some (.ok (.bl true),[]):=λk F hF=>Co k (h.h F hF)
 have e3:(P.map c7).length<=4000000:=by have:=h.m;rw[ak];lia
 have e4:=λk=>mv k (l:=P.map (·.nm)) (λx hx=>by obtain⟨q,h1,rfl⟩:=ee.mp hx;exact h.n q h1) h.d (by have:=h.m;rw[ak];lia)
 rw[fF]at e4;simp only[sd]at e4;obtain⟨F0,h0⟩:∃F,P[0]?=some F:=⟨_,b9 h.l⟩
 have e5:∀h',fw h' (.aq (P.map c7)) (.int 0)=some (c7 F0):=λh'=>atI_nat (j:=0) (by rw[bR,h0];rfl)
 have e6:=λk=>um k (h.f F0 h0).1 (h.f F0 h0).2 (h.h F0 (w6 h0)).p
 have e7:∀k,∀F∈P,run aS (k+16) "are_rows" [gI (mx P F),.aq (F.rw.map fP)] []=some (.ok (.bl (F.rw.all (cg (mx P F)))),[]):=λk F hF=>by
  obtain⟨h1,r,h2,h3⟩:=h.r F hF;exact yT k h1 h2 h3 (by have:=(h.h F hF).x;lia)
 have e8:∀c,∀F∈P,GH aS c "Scene" [.ref 0,.aq (P.map c7),c7 F] [⟨.ins "Scene" [],[]⟩]=_:=λc F hF=>JK c (h.h F hF) h.d h.m
 rw[t8];unfold oT WC;simp only[↓aF,e1,e2,e3,e4,e5,e6,e7,e8,Cq,l7,all_map]
theorem hV{h:List ah}{i j:Int}(hj:0<j):fT h (.int i) (.int j)=some (.int (i%j)):=if_pos (aG hj)
theorem SK{h:List ah}{i j:Int}(hj:0<j/\j<1073741824):u5 h (.int i) (.int j)=some (.int (i/j)):=if_pos (aG hj)
theorem KS{h:List ah}{i j:Int}(hj:(-pV<i/\i<pV)\/(-pV<j/\j<pV)):l4 h (.int i) (.int j)=some (.int (i*j)):=if_pos hj
theorem Ou{n:Nat}(hn:n<=4000000):Bv [.int n]=some ((List.range n).map λm:Nat=>.int (m:Int)):=by
 show(if IA 0 n=true then some (Bu 0 ((n:Int)).toNat)else none)=_
 rw[if_pos (by unfold IA;exact aG (by lia))]
 unfold Bu;simp
theorem JL{ρ:List (Option PV)}{F:List PV}{v:PV}(h:F.length<=4000):pX (iM yl) (.ref 0) [v] ⟨ρ,[⟨.lst,F⟩]⟩=some (.ok .aN,⟨ρ,[⟨.lst,F++[v]⟩]⟩):=by
 have:yl F [v]=some (F++[v]):=if_pos (show F.length<iN from nv h (by decide))
 show(((yl F [v]).map λqs=>((⟨.lst,qs⟩:ah),PV.aN)).map λr=>_)=_
 rw[this];rfl
def cp(n:Int):Nat:=97+(n%26).toNat
def lt(n:Int):Str:=⟨#[cp n]⟩
def strOf(l:List Nat):Str:=⟨l.toArray⟩
theorem Cr{a b:List Nat}(h:strOf a=strOf b):a=b:=by
 have:a.toArray=b.toArray:=eX Str.cps h;simpa using this
theorem yV(a b:List Nat):strOf a++strOf b=strOf (a++b):=by
 show Str.append _ _=_;unfold Str.append strOf;simp
theorem JM:(Str.ofString "")=strOf []:=by decide +kernel
theorem m5(l:List Nat):(strOf l).length=l.length:=by
 unfold strOf Str.length;simp
theorem yW:∀m:Fin 26,L2.nY (Str.ofString "abcdefghijklmnopqrstuvwxyz").cps.toList ((m:Nat):Int)=some (97+(m:Nat)):=by decide +kernel
theorem rD{h:List ah}{n:Int}:fw h (.str "abcdefghijklmnopqrstuvwxyz") (.int (n%26))=some (.str (lt n)):=by
 have h0:=lE n (show(26:Int)≠0 by decide)
 have h1:=r6 n (show(0:Int)<26 by decide)
 obtain⟨m,hm⟩:=Int.eq_ofNat_of_zero_le h0;have:=yW ⟨m,by lia⟩
 show(if(Str.ofString "abcdefghijklmnopqrstuvwxyz").length<=iN then(L2.nY (Str.ofString "abcdefghijklmnopqrstuvwxyz").cps.toList (n%26)).map λc=>PV.str ⟨#[c]⟩else none)=_
 rw[if_pos (by decide +kernel),hm,this]
 show some (PV.str ⟨#[97+m]⟩)=some (PV.str ⟨#[cp n]⟩);unfold cp;rw[hm,lu]
theorem Ov{a b:Int}(h:cp a=cp b):a%26=b%26:=by
 unfold cp at h;have h0:=lE a (show(26:Int)≠0 by decide)
 have h1:=lE b (show(26:Int)≠0 by decide)
 lia
theorem KU(n:Int):97<=cp n/\cp n<=122:=by
 unfold cp;have h0:=lE n (show(26:Int)≠0 by decide)
 have h1:=r6 n (show(0:Int)<26 by decide)
 lia
theorem F9{l:List Nat}{n:Int}{h:List ah}(hl:l.length<=100):kB h (.str (strOf l)) (.str (lt n))=some (.str (strOf (l++[cp n]))):=by
 have e:kB h (.str (strOf l)) (.str (lt n))=U.sizeOk ((strOf l).length+(lt n).length) (.str (strOf l++lt n)):=rfl;rw[e,show lt n=strOf [cp n]from rfl,yV,m5,m5]
 exact if_pos (show l.length+1<=iN by have:iN=4000000:=rfl;lia)
abbrev Ow:PV:=.str "abcdefghijklmnopqrstuvwxyz"
def Ox(B:List Int)(a q i:Nat):Nat:=cp (B.getD i 0+(q:Int)*(if i=a then 1 else 0))
theorem my(c:CT){x0 x1 x6:Option PV}{h0:List ah}(B:List Int)(a q:Nat)(hB:B.length<=50):∀(T3 pre:List Nat) (x8:Option PV),List.range B.length=pre++T3->∃JN,eY (di 8) (oY c) (T3.map λn:Nat=>.int (n:Int)) ⟨[x0,x1,some Ow,some (.int q),some (.lst (B.map .int)),some (.int a),x6,some (.str (strOf (pre.map (Ox B a q)))),x8],h0⟩=some (.ok .nx,⟨[x0,x1,some Ow,some (.int q),some (.lst (B.map .int)),some (.int a),x6,some (.str (strOf ((List.range B.length).map (Ox B a q)))),JN],h0⟩)
 | [],pre,x8,e=>⟨x8,by rw[e,gj];rfl⟩
 | i::T3,pre,x8,e=>by
  have hi:i<B.length:=gL.mp (by rw[e];simp)
  have hp:pre.length<=B.length:=by
   have:=eX List.length e;rw[ny,dM]at this
   lia
  obtain⟨JN,h⟩:=my c (x0:=x0) (x1:=x1) (x6:=x6) (h0:=h0) B a q hB T3 (pre++[i]) (some (.int i)) (by rw[e];simp)
  simp only[dN,aO,eW,Ox]at h;refine⟨JN,?_⟩;have hb:∀h,fw h (.lst (B.map PV.int)) (.int (i:Int))=some (.int (B.getD i 0)):=λ_=>atI_nat (by rw[bR,CO,b9 hi];rfl)
  have he:∀h,D3 h [.bl ((i:Int)==(a:Int))]=some (.int (if i=a then 1 else 0)):=λh=>by
   by_cases hh:i=a
   ·rw[if_pos hh,hh,gh];rfl
   ·rw[if_neg hh,show((i:Int)==(a:Int))=false by rw[bW];lia];rfl
  have hm:∀h,l4 h (.int (q:Int)) (.int (if i=a then 1 else 0))=some (.int ((q:Int)*(if i=a then 1 else 0))):=λh=>KS (.inr (by split<;>decide))
  have hl:(pre.map (Ox B a q)).length<=100:=by rw[ak];lia
  rw[aO];refine dE ?_;simp only[↓ph,hb,he,hm,l8,rD,F9 hl,h]
def rE(C:Int)(B:List Int)(a q:Nat):List Nat:=(List.range B.length).map (Ox B a q)++(if C/49%2==1&&(q:Int)%2==1 then [cp (C/98)]else [])
theorem Cs(c:CT){x1:Option PV}{C:Int}(B:List Int)(a q:Nat)(hB:B.length<=50){F:List PV}(hF:F.length<=100)(x7 x8:Option PV):∃JN,jX c ⟨[some (.int C),x1,some Ow,some (.int q),some (.lst (B.map .int)),some (.int a),some (.ref 0),x7,x8],[⟨.lst,F⟩]⟩=some (.ok .nx,⟨[some (.int C),x1,some Ow,some (.int q),some (.lst (B.map .int)),some (.int a),some (.ref 0),some (.str (strOf (rE C B a q))),JN],[⟨.lst,F++[.str (strOf (rE C B a q))]⟩]⟩):=by
 obtain⟨JN,h⟩:=my c (x0:=some (.int C)) (x1:=x1) (x6:=some (.ref 0)) (h0:=[⟨.lst,F⟩]) B a q hB (List.range B.length) [] x8 rfl;obtain⟨l,hl⟩:∃l,l=(List.range B.length).map (Ox B a q):=⟨_,rfl⟩
 have ll:l.length<=100:=by rw[hl];simp;lia
 rw[<-hl]at h
 delta oY q9 at h
 refine⟨JN,?_⟩;have e1:jK [⟨.lst,F⟩] [.lst (B.map .int)]=some (.int (B.length:Nat)):=by show some (PV.int (((B.map PV.int).length:Nat):Int))=_;rw[ak]
 have e2:=Ou (n:=B.length) (by lia)
 have hF:=λρ v=>@JL ρ F v (aD hF (by decide))
 simp only[eW,<-JM]at h;refine dE ?_;unfold rE;rw[<-hl];cases h1:C/49%2==1
 ·simp only[↓ph,h,e1,e2,l8,h1,hF,bI,eR,de,gj]
 ·cases h2:(q:Int)%2==1
  ·simp only[↓ph,h,e1,e2,l8,h1,h2,hF,bz,eR,de,gj]
  ·simp only[↓ph,h,e1,e2,l8,h1,h2,hF,bz,ef,rD,F9 ll]
theorem pj(c:CT){x1:Option PV}{C:Int}(B:List Int)(a:Nat)(hB:B.length<=50):∀(qs:List Nat) (F:List PV) (x3 x7 x8:Option PV),F.length+qs.length<=100->∃SM SN JN,eY (di 3) (jX c) (qs.map λn:Nat=>.int (n:Int)) ⟨[some (.int C),x1,some Ow,x3,some (.lst (B.map .int)),some (.int a),some (.ref 0),x7,x8],[⟨.lst,F⟩]⟩=some (.ok .nx,⟨[some (.int C),x1,some Ow,SM,some (.lst (B.map .int)),some (.int a),some (.ref 0),SN,JN],[⟨.lst,F++qs.map λq=>.str (strOf (rE C B a q))⟩]⟩)
 | [],F,x3,x7,x8,_=>⟨x3,x7,x8,by simp;rfl⟩
 | q::qs,F,x3,x7,x8,hz=>by
  rw[cF]at hz;obtain⟨y8,h⟩:=Cs c (x1:=x1) (C:=C) B a q hB (F:=F) (by lia) x7 x8
  obtain⟨z3,z7,z8,h2⟩:=pj c (x1:=x1) (C:=C) B a hB qs (F++[.str (strOf (rE C B a q))]) (some (.int q)) (some (.str (strOf (rE C B a q)))) y8 (by simp;lia)
  refine⟨z3,z7,z8,?_⟩;rw[aO,aO,show F++PV.str (strOf (rE C B a q))::qs.map (λq=>PV.str (strOf (rE C B a q)))=F++[PV.str (strOf (rE C B a q))]++qs.map (λq=>PV.str (strOf (rE C B a q))) by simp]
  exact fC (s1:=⟨[some (.int C),x1,some Ow,some (.int q),some (.lst (B.map .int)),some (.int a),some (.ref 0),x7,x8],[⟨.lst,F⟩]⟩) rfl h h2
theorem JO{C:Int}{B:List Int}{a q q':Nat}(hp:a<B.length)(h1:q<26)(h2:q'<26)(h:strOf (rE C B a q)=strOf (rE C B a q')):q=q':=by
 have h:=Cr h;have at_:∀q:Nat,(rE C B a q)[a]?=some (cp (B.getD a 0+(q:Int))):=λq=>by
  unfold rE;rw[m7 (by simp;lia),bR,rY hp]
  simp[Ox]
 have e:=eX (λl=>l[a]?) h
 simp only[at_]at e;have:=Ov (bt e)
 lia
theorem Oy{C:Int}{B:List Int}{a q:Nat}(h1:1<=B.length)(h2:B.length<=7):wm (strOf (rE C B a q)):=by
 have hl:(rE C B a q).length=B.length+(if C/49%2==1&&(q:Int)%2==1 then 1 else 0):=by
  unfold rE;rw[dM,ak,ny];split<;>rfl
 refine⟨by rw[m5,hl];lia,by rw[m5,hl];split<;>lia,λc hc=>?_⟩
 have hc:c∈rE C B a q:=by simpa[strOf]using hc
 unfold rE at hc;rcases iH.mp hc with hc | hc
 ·obtain⟨i,_,rfl⟩:=ee.mp hc;exact KU _
 ·split at hc
  ·rw[iB.mp hc];exact KU _
  ·cases hc
def pH(N:Nat->Str):List Str:=(List.range 16).map N
theorem JP(k:Nat)(C:Int):∃N:Nat->Str,(∀i j,i<16->j<16->N i=N j->i=j)/\(∀i,wm (N i))/\run aS (k+1) "_law_names" [.int C,.int 16] []=some (.ok (.ref 0),[⟨.lst,(pH N).map .str⟩]):=by
 obtain⟨ln,Pb⟩:∃ln:Nat,1+C%7=(ln:Int):=⟨(1+C%7).toNat,by lia⟩
 have ln1:1<=ln/\ln<=7:=by lia
 obtain⟨B,hB⟩:∃B:List Int,B=(List.range ln).map λi:Nat=>(C/7/((i:Int)*i+1)+5*(i:Int))%26:=⟨_,rfl⟩
 have Bl:B.length=ln:=by rw[hB];simp
 obtain⟨a,ha⟩:∃a:Nat,C/7%(ln:Int)=(a:Int):=⟨(C/7%(ln:Int)).toNat,(Int.toNat_of_nonneg (lE _ (by lia))).symm⟩
 have hal:a<B.length:=by
  have:=r6 (C/7) (show(0:Int)<(ln:Int) by lia)
  lia
 obtain⟨x3,x7,x8,h⟩:=pj (run aS k) (x1:=some (.int 16)) (C:=C) B a (by lia) (List.range 16) [] none none none (by simp)
 refine⟨λq=>strOf (rE C B a q),λi j hi hj e=>JO hal (by lia) (by lia) e,λi=>Oy (by lia) (by lia),?_⟩
 have e1:=Ou (n:=ln) (by lia)
 have e2:∀i∈List.range ln,∀h,l4 h (.int (i:Int)) (.int (i:Int))=some (.int ((i:Int)*i)):=λi hi h=>KS (.inl (by have:=gL.mp hi;have:(pV:Int)=18446744073709551616:=rfl;lia))
 have e3:∀i∈List.range ln,∀h (a:Int),u5 h (.int a) (.int ((i:Int)*i+1))=some (.int (a/((i:Int)*i+1))):=λi hi h a=>by
  have hi:=gL.mp hi;have i0:(0:Int)<=(i:Int)*i:=Int.mul_nonneg (by lia) (by lia)
  have i49:(i:Int)*i<=49:=by
   rcases i with _ | _ | _ | _ | _ | _ | _ | _<;>first | lia | decide
  exact SK (by lia)
 have e4:∀i∈List.range ln,∀h,l4 h (.int 5) (.int (i:Int))=some (.int (5*(i:Int))):=λi hi h=>KS (.inl (by decide))
 have e5:(List.range ln).length<=4000000:=by rw[ny];lia
 have e6:(List.range ln).map (λi:Nat=>PV.int ((C/7/((i:Int)*i+1)+5*(i:Int))%26))=B.map .int:=by rw[hB,fF];rfl
 have e7:∀h,fT h (.int (C/7)) (.int (ln:Int))=some (.int (a:Int)):=λh'=>by rw[hV (by lia),ha]
 have e8:∀(f:Nat->PV) h,jK h [.lst ((List.range ln).map f)]=some (.int (ln:Int)):=λf h'=>by show some (PV.int ((((List.range ln).map f).length:Nat):Int))=_;rw[ak,ny]
 have e9:Bv [.int 16]=some ((List.range 16).map λm:Nat=>.int (m:Int)):=Ou (n:=16) (by decide)
 delta jX q9 at h
 rw[sk,<-e6]at h;rw[yO];simp only[↓aF,Pb,e1,e2,e3,e4,e5,e7,e8,e9,h,ak];rfl
theorem pq(ps:List PV)(q:Nat):fJ ps none (some (q:Int))=ps.take q:=by
 unfold fJ;rw[HT.zA,HT.uS,List.drop_zero,Nat.sub_zero];by_cases h:q<=ps.length
 ·rw[xC h]
 ·rw[Nat.min_eq_right (by lia),lj (by lia),lj (by lia)]
theorem wt(ps:List PV)(q:Nat):fJ ps (some (q:Int)) none=ps.drop q:=by
 unfold fJ;rw[HT.zA,HT.uS];by_cases h:q<=ps.length
 ·rw[xC h,lj (by simp)]
 ·rw[Nat.min_eq_right (by lia),List.drop_of_length_le (by lia),List.drop_of_length_le (by lia),List.take_nil]
theorem pick{α:Type}(f:α->PV)(L:List α)(m:Int)(h:0<L.length):∃p∈L,∀H:List ah,fw H (.lst (L.map f)) (.int (m%(L.length:Int)))=some (f p):=by
 have VW:=lE m (show(L.length:Int)≠0 by lia)
 have hj1:=r6 m (show(0:Int)<(L.length:Int) by lia)
 obtain⟨j,hj⟩:=Int.eq_ofNat_of_zero_le VW;have hjl:j<L.length:=by lia
 refine⟨L[j],xo _,λH=>?_⟩
 rw[hj];exact atI_nat (by rw[bR,b9 hjl];rfl)
theorem JQ(k:Nat)(C:Int):run aS (k+1) "_law_mixed" [.int C] []=some (.ok (.lst [.int (C*48271%2147483647),.int (C*69621%2147483629),.int (C*16807%2147483587),.int (C*39373%2147483579)]),[]):=by
 have e1:∀h,l4 h (.int C) (.int 48271)=some (.int (C*48271)):=λh=>KS (.inr (by decide))
 have e2:∀h,l4 h (.int C) (.int 69621)=some (.int (C*69621)):=λh=>KS (.inr (by decide))
 have e3:∀h,l4 h (.int C) (.int 16807)=some (.int (C*16807)):=λh=>KS (.inr (by decide))
 have e4:∀h,l4 h (.int C) (.int 39373)=some (.int (C*39373)):=λh=>KS (.inr (by decide))
 rw[yN];simp only[↓aF,e1,e2,e3,e4]
theorem SO(l:List Kn):aT (l.map c6)=true:=hJ uo l
def X4:j3->Option Kn
 | .aN=>none
 | .own s=>some (.ow s)
 | .jk w s _=>some (.ho w s)
theorem i7(k:Nat)(r:j3){d:Kn}(h:X4 r=some d):run aS (k+1) "_law_back" [g8 r] []=some (.ok (c6 d),[]):=by
 cases r with
 | aN=>cases h
 | own s=>cases h;cases s<;>kernel_rfl
 | jk w s l=>cases h;kernel_rfl
def w0:Kn->Str
 | .ho w _=>CD w
 | .ow .nu=>"num"
 | .ow .ow=>"own"
 | .ow (.st _)=>"strip"
 | .ow _=>"rec"
theorem Ct{h:List ah}{d:Kn}:fw h (c6 d) (.int 0)=some (.str (w0 d)):=by
 cases d with
 | ow s=>cases s<;>rfl
 | ho w s=>rfl
theorem Ay{h:List ah}{d:Kn}:lW false h (.str (w0 d)) (.aq [.str "lent",.str "sole"])=some (.bl (kd d)):=by
 cases d with
 | ow s=>cases s<;>kernel_rfl
 | ho w s=>cases w<;>kernel_rfl
theorem lz{xs:List Str}{ks:List Kn}(h:ks.length<=1000):TX (.lst (xs.map .str)) (.lst (ks.map c6))=some ((xs.zip ks).map dH):=by
 show(if(List.zipWith dZ (xs.map .str) (ks.map c6)).length<=iN then some (List.zipWith dZ (xs.map .str) (ks.map c6))else none)=_
 rw[mZ,if_pos]
 ·rfl
 ·rw[ak,su];exact aD (aD (Nat.min_le_right _ _) h) (by decide)
theorem Az{α β:Type}:∀(a:List α) (b:List β),(a.zip b).map (·.1)=a.take b.length
 | [],_=>by simp
 | _::_,[]=>by simp
 | x::a,y::b=>by simp[Az a b]
theorem AA{α β:Type}:∀(a:List α) (b:List β),b.length<=a.length->(a.zip b).map (·.2)=b
 | _,[],_=>by simp
 | [],_::_,h=>by simp at h
 | x::a,y::b,h=>by simp[AA a b (by simpa using h)]
def cell(ns:List Int)(i:Nat):Int:=ns.getD i 0
theorem Ga(k:Nat)(ns:List Int)(i:Nat):run aS (k+1) "_law_cell_at" [FC ns,.int (i:Int)] []=some (.ok (.int (cell ns i)),[]):=by
 rw[uc];have ln:jK [] [FC ns]=some (.int (ns.length:Int)):=by
  show some (PV.int (((ns.map PV.int).length:Nat):Int))=_;rw[ak]
 unfold cell;rw[CO];by_cases hi:i<ns.length
 ·have e:fw [] (FC ns) (.int (i:Int))=some (.int ns[i]):=atI_nat (by rw[bR,b9 hi];rfl)
  simp only[↓aF,ln,e,aG (show(i:Int)<(ns.length:Int) by lia),b9 hi,Option.getD_some]
 ·simp only[↓aF,ln,aP (show ¬(i:Int)<(ns.length:Int) by lia),rV (xu hi),xl]
def SQ(e:Te):PV:=.aq [GI e.1,.int (e.2.1:Int),cK e.2.2]
theorem k8(k:Nat)(s:Sx):run aS (k+9) "_law_table" [cK s] []=some (.ok (.lst ((fQ s).map SQ)),[]):=by cases s<;>kernel_rfl
theorem Gb(k:Nat)(d:Kn):run aS (k+1) "_law_held" [c6 d] []=some (.ok (cK (mN d)),[]):=by
 cases d with
 | ow s=>cases s<;>kernel_rfl
 | ho w s=>cases w<;>kernel_rfl
abbrev Zt:=Ky×Te
def AB(z:Zt):Sp:=⟨z.1.1,kd z.1.2,ie z.2.1,.aN⟩
def hW(z:Zt):PV:=.aq [.aq [.str z.1.1,.bl (kd z.1.2),GI z.2.1,.aN],cK z.2.2.2,.str (w0 z.1.2)]
theorem uq(z:Zt):hW z=.aq [dn (AB z),cK z.2.2.2,.str (w0 z.1.2)]:=by unfold hW;rw[o9];rfl
def ir(K:List Ky):List Zt:=K.flatMap λq=>(fQ (mN q.2)).map λe=>(q,e)
theorem wu(c:CT){x0:Option PV}{q:Ky}:∀(E:List Te) (L:List PV) (x5 x6 x7:Option PV),L.length+E.length<=4000->∃SR WD SN:Option PV,eY (pU 3 (fZ (di 5) (fZ (di 6) (fZ (di 7) td)))) (jY c) (E.map SQ) ⟨[x0,some (.ref 0),some (.str q.1),some (c6 q.2),some (.bl (kd q.2)),x5,x6,x7],[⟨.lst,L⟩]⟩=some (.ok .nx,⟨[x0,some (.ref 0),some (.str q.1),some (c6 q.2),some (.bl (kd q.2)),SR,WD,SN],[⟨.lst,L++E.map λe=>hW (q,e)⟩]⟩)
 | [],L,x5,x6,x7,_=>⟨x5,x6,x7,by simp;rfl⟩
 | e::E,L,x5,x6,x7,hl=>by
  simp only[cF]at hl;obtain⟨y5,y6,y7,h⟩:=wu c (x0:=x0) (q:=q) E (L++[hW (q,e)]) (some (GI e.1)) (some (.int e.2.1)) (some (cK e.2.2)) (by simp;lia)
  refine⟨y5,y6,y7,?_⟩;have e2:=λρ v=>@JL ρ L v (by lia)
  have h:eY _ (jY c) (E.map SQ) ⟨_,[⟨.lst,L++[.aq [.aq [.str q.1,.bl (kd q.2),GI e.1,.aN],cK e.2.2,.str (w0 q.2)]]⟩]⟩=_:=h;rw[aO,aO,show L++hW (q,e)::E.map (λe=>hW (q,e))=L++[hW (q,e)]++E.map λe=>hW (q,e) by simp]
  refine dE ?_;simp only[↓ph,Ct,e2,h]
theorem rF(c:CT) (hc:∀d,c "_law_held" [c6 d] []=some (.ok (cK (mN d)),[])) (ht:∀s,c "_law_table" [cK s] []=some (.ok (.lst ((fQ s).map SQ)),[])) {x0:Option PV}:∀(K:List Ky) (L:List PV) (x2 x3 x4 x5 x6 x7:Option PV),L.length+13*K.length<=4000->∃x2' SM WE SR WD SN:Option PV,eY (pU 2 (fZ (di 2) (fZ (di 3) td))) (oZ c) (K.map dH) ⟨[x0,some (.ref 0),x2,x3,x4,x5,x6,x7],[⟨.lst,L⟩]⟩=some (.ok .nx,⟨[x0,some (.ref 0),x2',SM,WE,SR,WD,SN],[⟨.lst,L++(ir K).map hW⟩]⟩)
 | [],L,x2,x3,x4,x5,x6,x7,_=>⟨x2,x3,x4,x5,x6,x7,by simp[ir];rfl⟩
 | q::K,L,x2,x3,x4,x5,x6,x7,hl=>by
  simp only[cF]at hl;have tl:(fQ (mN q.2)).length<=13:=by cases mN q.2<;>exact bF rfl
  obtain⟨a5,a6,a7,h1⟩:=wu c (x0:=x0) (q:=q) (fQ (mN q.2)) L x5 x6 x7 (by lia)
  obtain⟨y2,y3,y4,y5,y6,y7,h⟩:=rF c hc ht (x0:=x0) K (L++(fQ (mN q.2)).map λe=>hW (q,e)) (some (.str q.1)) (some (c6 q.2)) (some (.bl (kd q.2))) a5 a6 a7 (by simp;lia)
  refine⟨y2,y3,y4,y5,y6,y7,?_⟩
  delta jY q9 at h1
  rw[aO,show L++(ir (q::K)).map hW=L++((fQ (mN q.2)).map λe=>hW (q,e))++(ir K).map hW by simp[ir,sd]]
  refine dE ?_;simp only[↓ph,Ct,Ay,hc,ht,h1,h,aT,uo,Cp]
theorem JR(k:Nat)(K:List Ky)(hK:K.length<=20):run aS (k+10) "_law_spots" [.lst (K.map dH)] []=some (.ok (.ref 0),[⟨.lst,(ir K).map hW⟩]):=by
 obtain⟨y2,y3,y4,y5,y6,y7,h⟩:=rF (run aS (k+9)) (λd=>Gb _ d) (λs=>k8 _ s) (x0:=some (.lst (K.map dH))) K [] none none none none none none (by simp;lia)
 delta oZ q9 at h
 rw[sk]at h;rw[yP];simp only[↓aF,h]
def wx(n:Fin 8)(j:Kn):List Kn:=[.ow .nu,.ow (.st n),.ow .ow,.ow .tw,.ow (.os n),.ho false .tw,.ho true .tw,.ho false (.st n),.ho true (.os n),j]
theorem rot{ps:List PV}{t:Nat}{h:List ah}(hl:ps.length=10):kB h (.lst (fJ ps (some (t:Int)) none)) (.lst (fJ ps none (some (t:Int))))=some (.lst (ps.drop t++ps.take t)):=by
 show U.sizeOk _ _=_;unfold U.sizeOk;rw[pq,wt];exact if_pos (show _<=iN from by simp[hl];exact aD (show 10-t+min t 10<=20 by lia) (by decide))
theorem SS(k:Nat)(C:Int):∃(ks:List Kn) (h':List ah),ks.length=10/\.ow .nu∈ks/\.ho false .tw∈ks/\run aS (k+1) "_law_ten" [.int C] []=some (.ok (.lst (ks.map c6)),h'):=by
 obtain⟨n,hn⟩:∃n:Fin 8,C%8=(n.val:Int):=⟨⟨(C%8).toNat,by lia⟩,by simp;lia⟩
 obtain⟨t,ht,aae⟩:∃t:Nat,C/32%10=(t:Int)/\t<10:=⟨(C/32%10).toNat,by lia,by lia⟩
 obtain⟨j,hj⟩:∃j:Kn,∀h,fw h (.lst [.aq [.str "sole",pN],pN,.aq [.str "lent",pO],.aq [.str "sole",pO]]) (.int (C/8%4))=some (c6 j):=by
  have hr:C/8%4=0\/C/8%4=1\/C/8%4=2\/C/8%4=3:=by lia
  rcases hr with hr | hr | hr | hr<;>rw[hr]
  ·exact⟨.ho true .nu,λ_=>rfl⟩
  ·exact⟨.ow .nu,λ_=>rfl⟩
  ·exact⟨.ho false .ow,λ_=>rfl⟩
  ·exact⟨.ho true .ow,λ_=>rfl⟩
 have e:run aS (k+1) "_law_ten" [.int C] []=some (.ok (.lst (((wx n j).drop t++(wx n j).take t).map c6)),[⟨.lst,(wx n j).map c6⟩]):=by
  rw[FF];have e1:∀h,fT h (.int C) (.int 8)=some (.int (n.val:Int)):=λh=>by rw[hV (by decide),hn]
  have e2:∀h,fT h (.int (C/32)) (.int 10)=some (.int (t:Int)):=λh=>by rw[hV (by decide),ht]
  simp only[↓aF,e1,e2,hj,rot,cF,lD];rw[dN,nG,lH];rfl
 refine⟨(wx n j).drop t++(wx n j).take t,_,?_,?_,?_,e⟩
 ·simp[wx];lia
 ·rw[iH,or_comm,<-iH,lp];simp[wx]
 ·rw[iH,or_comm,<-iH,lp];simp[wx]
abbrev je(N:Nat->Str):PV:=.lst ((pH N).map .str)
theorem SU{p q:List Int}{h:List ah}(hl:p.length+q.length<=1000):kB h (.aq (p.map .int)) (.aq (q.map .int))=some (.aq ((p++q).map .int)):=by
 show U.sizeOk _ _=_;unfold U.sizeOk;rw[if_pos (show _<=iN from(by rw[ak,ak];exact aD hl (by decide))),dN]
theorem SV{p:List Int}{x:Int}{h:List ah}(hl:p.length<=900):kB h (.aq (p.map .int)) (.aq [.int x])=some (.aq ((p++[x]).map .int)):=SU (q:=[x]) (by simp;lia)
theorem WG(p:List Int):∃p':List Int,p'.length<=p.length/\∀h,GF h none (some (-1)) (.aq (p.map .int))=some (.aq (p'.map .int)):=by
 refine⟨(p.drop (HT.cL p.length 0 none)).take (HT.cL p.length p.length (some (-1))-HT.cL p.length 0 none),by simp;lia,λh=>?_⟩
 show some (PV.aq (fJ (p.map PV.int) none (some (-1))))=_;unfold fJ;rw[ak,lH,nG]
theorem pw{N:Nat->Str}{i:Nat}{h:List ah}(hi:i<16):fw h (je N) (.int (i:Int))=some (.str (N i)):=atI_nat (by unfold pH;rw[bR,bR,rY hi];rfl)
theorem AD{x m:Int}(l:List Str)(hl:(l.length:Int)=m)(h0:0<m):∃y∈l,∀h,fw h (.lst (l.map .str)) (.int (x%m))=some (.str y):=by
 subst hl;exact pick .str l x (by lia)
theorem JS{N:Nat->Str}{h:List ah}:GF h none (some 10) (je N)=some (.lst (((pH N).take 10).map .str)):=by
 show some (PV.lst (fJ ((pH N).map PV.str) none (some ((10:Nat):Int))))=_;rw[pq,lH]
theorem jn{l m:List Str}{h:List ah}(hl:l.length+m.length<=1000):kB h (.lst (l.map .str)) (.lst (m.map .str))=some (.lst ((l++m).map .str)):=by
 show U.sizeOk _ _=_;unfold U.sizeOk;rw[if_pos (show _<=iN from(by rw[ak,ak];exact aD hl (by decide))),dN]
structure X5 (s:Sp) (n:Nat):Prop where
 p:s.p.length<=n
 x:s.x.length<=100
theorem k9(k:Nat)(N:Nat->Str)(s:Sp)(m:Int)(hs:X5 s 900):∃s':Sp,s'.p.length<=s.p.length+1/\run aS (k+1) "_law_turned" [je N,dn s,.int m] []=some (.ok (dn s'),[]):=by
 obtain⟨x,t,p,a⟩:=s;obtain⟨p',vo,ep⟩:=WG p;obtain⟨y,_,ey⟩:=AD (x:=m/16) (m:=12) ((pH N).take 10++([("":Str),"B"]:List Str)) (by simp[pH]) (by decide)
 obtain⟨z,hz,ez⟩:∃z:Nat,m/16%10=(z:Int)/\z<16:=⟨(m/16%10).toNat,by lia,by lia⟩
 obtain⟨w,_,ew⟩:=AD (x:=m/16) (m:=4) ["","A",N 10,x++"a"] (by simp) (by decide)
 simp only[aO,eW]at ew;have e1:∀h,kB h (.lst (((pH N).take 10).map .str)) (.lst [.str "",.str "B"])=some (.lst (((pH N).take 10++([("":Str),"B"]:List Str)).map .str)):=λh=>jn (l:=(pH N).take 10) (m:=["","B"]) (by simp[pH])
 have e2:∀h,fw h (je N) (.int (m/16%10))=some (.str (N z)):=λh=>by rw[hz];exact pw ez
 have e3:∀h,fw h (je N) (.int 10)=some (.str (N 10)):=λh=>pw (i:=10) (by decide)
 have e4:∀h,kB h (.str x) (.str "a")=some (.str (x++"a")):=λh=>by
  show U.sizeOk _ _=_;unfold U.sizeOk;rw[if_pos (show _<=iN from aD (show x.length+("a":Str).length<=200 from Nat.add_le_add hs.x (show("a":Str).length<=100 by decide +kernel)) (by decide))]
 have e5:=λh (v:Int)=>SV (p:=p) (x:=v) (h:=h) hs.p
 have hr:m%16=0\/m%16=1\/m%16=2\/m%16=3\/m%16=4\/m%16=5\/m%16=6\/7<=m%16:=by lia
 have em:∀h,fT h (.int m) (.int 16)=some (.int (m%16)):=λh=>hV (by decide)
 rw[wc];rcases hr with hr | hr | hr | hr | hr | hr | hr | hr
 ·refine⟨⟨x,!t,p,a⟩,by simp,?_⟩
  simp only[↓aF,em,hr];rfl
 ·refine⟨⟨x,t,p++[m/16%4-1],a⟩,by simp,?_⟩
  simp only[↓aF,em,hr,e5];rfl
 ·refine⟨⟨x,t,p',a⟩,by simp;lia,?_⟩
  simp only[↓aF,em,hr,ep];rfl
 ·refine⟨⟨x,t,p,.num (m/16%11-1)⟩,by simp,?_⟩
  simp only[↓aF,em,hr];rfl
 ·refine⟨⟨x,t,p,.FN y⟩,by simp,?_⟩
  simp only[↓aF,em,hr,JS,e1,ey];rfl
 ·refine⟨⟨N z,t,p,a⟩,by simp,?_⟩
  simp only[↓aF,em,hr,e2];rfl
 ·refine⟨⟨w,t,p,a⟩,by simp,?_⟩
  simp only[↓aF,em,hr,e3,e4,ew];rfl
 ·refine⟨⟨x,t,p,a⟩,by simp,?_⟩
  have h0:(m%16==0)=false:=by rw[bW];lia
  have h1:(m%16==1)=false:=by rw[bW];lia
  have h2:(m%16==2)=false:=by rw[bW];lia
  have h3:(m%16==3)=false:=by rw[bW];lia
  have h4:(m%16==4)=false:=by rw[bW];lia
  have h5:(m%16==5)=false:=by rw[bW];lia
  have h6:(m%16==6)=false:=by rw[bW];lia
  simp only[↓aF,em,l8,h0,h1,h2,h3,h4,h5,h6]
structure jq (K:List Ky):Prop where
 l:K.length=10
 d:(K.map (·.1)).Nodup
 n:∀q∈K,wm q.1
 u:∃q∈K,q.2=.ow .nu
 h:∃q∈K,q.2=.ho false .tw
abbrev dG(K:List Ky):PV:=.lst (K.map dH)
theorem SW{h:List ah}{d:Kn}:lS h (c6 d) pN=some (.bl (decide (d=.ow .nu))):=qh (b:=.ow .nu)
theorem yX{K:List Ky}{d:Kn}(hq:∃q∈K,q.2=d):∃q∈K,q.2=d/\∀h:List ah,fw h (.lst ((K.filter λq=>decide (q.2=d)).map λq=>.str q.1)) (.int 0)=some (.str q.1):=by
 obtain⟨q,h1,h2⟩:=hq;have hm:q∈K.filter λq=>decide (q.2=d):=fD.mpr ⟨h1,aG h2⟩
 cases hf:K.filter λq=>decide (q.2=d)with
 | nil=>rw[hf]at hm;cases hm
 | cons r l =>
  have hr:r∈K.filter λq=>decide (q.2=d):=by rw[hf];exact dc
  obtain⟨h3,h4⟩:=fD.mp hr;exact⟨r,h3,eS h4,λh=>atI_nat (j:=0) rfl⟩
theorem Oz{K:List Ky}(hK:jq K){z:Zt}(hz:z∈ir K):X5 (AB z) 10:=by
 unfold ir at hz;obtain⟨q,hq,h2⟩:=sj.mp hz;obtain⟨e,he,rfl⟩:=ee.mp h2;refine⟨?_,aD (hK.n q hq).m (by decide)⟩
 show(ie e.1).length<=10;unfold ie;rw[ak]
 revert he
 cases mN q.2<;>simp[fQ]<;>(try rintro(rfl | rfl | rfl))<;>(try rintro rfl)<;>simp
theorem px(k:Nat)(N:Nat->Str){K:List Ky}(hK:jq K)(L:List Zt)(h0:0<L.length)(h1:L.length<=1000)(hL:∀z∈L,z∈ir K)(m:Int):∃s':Sp,FT s'/\run aS (k+2) "_law_spot" [je N,dG K,.lst (L.map hW),.int m] []=some (.ok (dn s'),[]):=by
 obtain⟨z,hz,ez⟩:=pick hW L m h0;simp only[uq]at ez;have hs:=Oz hK (hL z hz);obtain⟨q,hq,T4,eq⟩:=yX hK.u;obtain⟨R,hR⟩:∃R,R=m/(L.length:Int):=⟨_,rfl⟩
 have e1:∀h,jK h [.lst (L.map hW)]=some (.int (L.length:Int)):=λh=>by show some (PV.int (((L.map hW).length:Nat):Int))=_;rw[ak]
 have e2:∀h,u5 h (.int m) (.int (L.length:Int))=some (.int R):=λh=>by rw[hR];exact SK (by lia)
 have e3:∀h,fT h (.int m) (.int (L.length:Int))=some (.int (m%(L.length:Int))):=λh=>hV (by lia)
 have e4:∀h,fT h (.int R) (.int 3)=some (.int (R%3)):=λh=>hV (by decide)
 have e5:(K.map dH).length<=4000000:=by rw[ak,hK.l];decide
 rw[B2];by_cases hi:∃n,z.2.2.2=.st n
 ·obtain⟨n,hn⟩:=hi;rw[hn]at ez;have e6:∀h (a:Int),fT h (.int a) (.int (1+(n.val:Int)))=some (.int (a%(1+(n.val:Int)))):=λh a=>hV (by lia)
  have hr:R%3=0\/R%3=1\/R%3=2:=by lia
  rcases hr with hr | hr | hr
  ·obtain⟨s',h2,h3⟩:=k9 k N {AB z with a:=.num (R/3%(1+(n.val:Int)))} (R/24) ⟨aD hs.p (by decide),hs.x⟩
   refine⟨s',aD h2 (show(AB z).p.length+1<=1000 from by have:=hs.p;lia),?_⟩
   simp only[dn,we]at h3;simp only[↓aF,e1,e2,e3,e4,e5,e6,hr,ez,h3];rfl
  ·obtain⟨s',h2,h3⟩:=k9 k N {AB z with a:=.FN q.1} (R/24) ⟨aD hs.p (by decide),hs.x⟩
   refine⟨s',aD h2 (show(AB z).p.length+1<=1000 from by have:=hs.p;lia),?_⟩
   simp only[dn,we]at h3;simp only[↓aF,e1,e2,e3,e4,e5,hr,ez,h3,SW,eq];rfl
  ·obtain⟨s',h2,h3⟩:=k9 k N (AB z) (R/24) ⟨aD hs.p (by decide),hs.x⟩
   refine⟨s',aD h2 (show(AB z).p.length+1<=1000 from by have:=hs.p;lia),?_⟩
   simp only[↓aF,e1,e2,e3,e4,e5,hr,ez,h3]
 ·obtain⟨s',h2,h3⟩:=k9 k N (AB z) (R/24) ⟨aD hs.p (by decide),hs.x⟩
  refine⟨s',aD h2 (show(AB z).p.length+1<=1000 from by have:=hs.p;lia),?_⟩
  have e6:∀h,lS h (.str (Om z.2.2.2)) (.str "strip")=some (.bl false):=λh=>by
   generalize z.2.2.2=i at hi
   cases i with
   | st n=>exact absurd ⟨n,rfl⟩ hi
   | _=>kernel_rfl
  simp only[↓aF,e1,e2,e3,e6,ez,h3,fj]
theorem AE(K:List Ky):(ir K).length<=13*K.length:=by
 induction K with
 | nil=>simp[ir]
 | cons q K ih =>
  have tl:(fQ (mN q.2)).length<=13:=by cases mN q.2<;>exact bF rfl
  unfold ir at ih ⊢;rw[List.flatMap_cons,dM,ak,cF]
  lia
theorem SX(z:Zt):noRef (hW z)=true:=by simp[uq,noRef,aT,F8,Cp]
theorem yY(L:List Zt):aT (L.map hW)=true:=hJ SX L
def wz:Sx->Bool
 | .tw=>false
 | .os _=>false
 | _=>true
theorem dX{h:List ah}{i:Sx}:yg h (.str (Om i)) (.str "rec")=some (.bl (wz i)):=by cases i<;>kernel_rfl
theorem yZ{K:List Ky}(hK:jq K):∃z∈ir K,wz z.2.2.2=true:=by
 obtain⟨q,hq,h2⟩:=hK.u;refine⟨(q,[],0,.nu),?_,rfl⟩;unfold ir;refine sj.mpr ⟨q,hq,?_⟩;rw[h2];simp[mN,fQ]
theorem uu(k:Nat){K:List Ky}(hK:jq K):run aS (k+10) "_law_spots" [dG K] []=some (.ok (.ref 0),[⟨.lst,(ir K).map hW⟩]):=JR k K (by rw[hK.l];decide)
theorem rG(k:Nat)(N:Nat->Str){K:List Ky}(hK:jq K)(m C:Int):∃o:Op,JC o/\run aS (k+11) "_law_operand" [je N,dG K,.int m,.int C] []=some (.ok (ui o),[]):=by
 rw[ud];have e1:∀h,Bh h (.int 10) (.int 30)=some (.int (10^30)):=λh=>by kernel_rfl
 have e2:∀h,fT h (.int C) (.int (10^30))=some (.int (C%10^30)):=λh=>hV (by decide)
 have e3:∀h,fT h (.int m) (.int 8)=some (.int (m%8)):=λh=>hV (by decide)
 have hl:=AE K;rw[hK.l]at hl;by_cases hm:m%8=0
 ·obtain⟨i,_,hi⟩:=pick PV.int [0,10^30-1,10^30,-1,C%10^30,-1-C%10^30] (m/8) (by simp)
  have hi:∀h,fw h (.lst [.int 0,.int (10^30-1),.int (10^30),.int (-1),.int (C%10^30),.int (-1-C%10^30)]) (.int (m/8%6))=some (.int i):=hi
  refine⟨.n i,True.intro,?_⟩;simp only[↓aF,e1,e2,e3,hm,hi];rfl
 ·obtain⟨L,hL⟩:∃L,L=(ir K).filter λz=>wz z.2.2.2:=⟨_,rfl⟩
  have h0:0<L.length:=by
   obtain⟨z,h1,h2⟩:=yZ hK;rw[hL];exact wX (fD.mpr ⟨h1,h2⟩)
  have h1:L.length<=1000:=by rw[hL];exact aD (nc _ _) (by lia)
  have h2:∀z∈L,z∈ir K:=λz hz=>by rw[hL]at hz;exact(fD.mp hz).1
  obtain⟨s,hs,e4⟩:=px (k+8) N hK L h0 h1 h2 (m/8);rw[hL]at e4;have e5:((ir K).map hW).length<=4000000:=by rw[ak];lia
  have e6:(m%8==0)=false:=by rw[bW];lia
  refine⟨.s s,hs,?_⟩;have e4:run aS (k+10) "_law_spot" [je N,dG K,.lst (((ir K).filter λz=>wz z.2.2.2).map λz=>.aq [dn (AB z),cK z.2.2.2,.str (w0 z.1.2)]),.int (m/8)] []=some (.ok (dn s),[]):=by
   rw[<-e4]
   congr 5
   exact eX (List.map · _) (funext λz=>(uq z).symm)
  have e7:(ir K).map hW=(ir K).map λz=>.aq [dn (AB z),cK z.2.2.2,.str (w0 z.1.2)]:=xa λz _=>uq z
  have e8:=λk=>uu k hK
  rw[e7]at e8 e5;have e9:∀c,gZ c (.ref 0)=gZ c (.ref 0):=λ_=>rfl
  have OA:gZ [⟨.lst,(ir K).map λz=>.aq [dn (AB z),cK z.2.2.2,.str (w0 z.1.2)]⟩] (.ref 0)=some (.lst ((ir K).map λz=>.aq [dn (AB z),cK z.2.2.2,.str (w0 z.1.2)])):=by rw[<-e7];exact gF (yY _)
  simp only[↓aF,e3,l8,e6,e8,OA,e5,dX,fj,e4];rfl
theorem j5{h:List ah}{a b:Str}:lS h (.str a) (.str b)=some (.bl (a==b)):=rfl
theorem pz(k:Nat)(N:Nat->Str){K:List Ky}(hK:jq K)(q:PV)(g:Kn->Bool)(hg:∀h d,lS h (c6 d) q=some (.bl (g d)))(m:Int):∃x:Str,run aS (k+1) "_law_name" [je N,dG K,q,.int m] []=some (.ok (.str x),[]):=by
 obtain⟨L,hL⟩:∃L,L=(K.filter λz=>g z.2).map (·.1):=⟨_,rfl⟩
 have hl:L.length<=10:=by rw[hL,ak];exact aD (nc _ _) (by rw[hK.l];decide)
 have e1:(K.map dH).length<=4000000:=by rw[ak,hK.l];decide
 have e2:((K.filter λz=>g z.2).map λz=>PV.str z.1)=L.map .str:=by rw[hL,fF];rfl
 have e3:∀h,kB h (.lst (((pH N).take 10).map .str)) (.lst [.str "",.str "B",.str (N 11)])=some (.lst (((pH N).take 10++([("":Str),"B",N 11]:List Str)).map .str)):=λh=>jn (l:=(pH N).take 10) (m:=["","B",N 11]) (by simp[pH])
 obtain⟨y,_,ey⟩:=AD (x:=m/4) (m:=13) ((pH N).take 10++([("":Str),"B",N 11]:List Str)) (by simp[pH]) (by decide)
 have e4:∀h,fw h (je N) (.int 11)=some (.str (N 11)):=λh=>pw (i:=11) (by decide)
 rw[B3];cases L with
 | nil =>
  have e5:∀h,yg h (.lst (([]:List Str).map PV.str)) (.lst [])=some (.bl false):=λh=>by kernel_rfl
  refine⟨y,?_⟩;by_cases hm:0<m%4
  ·have Ed:decide (m%4>0)=true:=aG hm;simp only[<-e2]at e5;simp only[↓aF,e1,hg,e3,e4,e5,JS,ey,Ed]
  ·have Ed:decide (m%4>0)=false:=aP hm;simp only[↓aF,e1,hg,e2,e3,e4,JS,ey,Ed]
 | cons z L =>
  obtain⟨w,_,ew⟩:=AD (x:=m/4) (m:=((z::L).length:Int)) (z::L) rfl (by rw[cF];lia)
  have e5:∀h,yg h (.lst ((z::L).map PV.str)) (.lst [])=some (.bl true):=λh=>by
   show((((bj (toT h 999) ((z::L).map .str)).bind (yf .lst)).bind λx=>((bj (toT h 999) []).bind (yf .lst)).map λy=>eqT x y).map λb=>PV.bl (!b))=_
   rw[toT_strs];rfl
  have e6:∀h,jK h [.lst ((z::L).map PV.str)]=some (.int ((z::L).length:Int)):=λh=>by show some (PV.int ((((z::L).map PV.str).length:Nat):Int))=_;rw[ak]
  have e7:∀h (a:Int),fT h (.int a) (.int ((z::L).length:Int))=some (.int (a%((z::L).length:Int))):=λh a=>hV (by rw[cF];lia)
  by_cases hm:0<m%4
  ·have Ed:decide (m%4>0)=true:=aG hm;refine⟨w,?_⟩;rw[<-e2]at ew;simp only[<-e2]at e5 e6
   generalize ((z::L).length:Int)=ll at e6 e7 ew
   simp only[↓aF,e1,hg,e5,e6,e7,ew,Ed]
  ·have Ed:decide (m%4>0)=false:=aP hm;refine⟨y,?_⟩;simp only[↓aF,e1,hg,e2,e3,e4,JS,ey,Ed]
def Gd:Option Sx->PV
 | none=>.aN
 | some s=>cK s
theorem l9:∀{K:List Ky} {x:Str} {d:Kn},aW K x=some d->(x,d)∈K
 | r::l,x,d,h=>by
  unfold aW at h;by_cases hr:r.1=x
  ·rw[if_pos hr]at h;cases h;rw[<-hr];exact dc
  ·rw[if_neg hr]at h;exact da _ (l9 h)
theorem jf:∀{K:List Ky} {x:Str} {d:Kn},(K.map (·.1)).Nodup->(x,d)∈K->aW K x=some d
 | r::l,x,d,hd,h=>by
  rw[aO,iG]at hd;unfold aW;rcases aX.mp h with rfl | h
  ·rw[if_pos rfl]
  ·rw[if_neg (λe=>hd.1 (by rw[e];exact rW (f:=λq:Ky=>q.1) h)),jf hd.2 h]
theorem Cu{K:List Ky}(hK:jq K){x:Str}{d:Kn}:aW K x=some d↔(x,d)∈K:=⟨l9,jf hK.d⟩
def GL(x:Str)(t:Bool):List Ky->Option Sx->Option Sx
 | [],o=>o
 | q::K,o=>GL x t K (if q.1==x&&t==kd q.2 then some (mN q.2)else o)
theorem AF{x:Str}{t:Bool}:∀{K:List Ky} {o:Option Sx},(∀q∈K,q.1≠x)->GL x t K o=o
 | [],_,_=>rfl
 | q::K,o,h=>by
  unfold GL;rw[show(q.1==x)=false from bW.mpr (h q dc),bI]
  exact AF λr hr=>h r (da _ hr)
theorem y0{x:Str}{t:Bool}:∀{K:List Ky},(K.map (·.1)).Nodup->GL x t K none=(aW K x).bind λd=>if t=kd d then some (mN d)else none
 | [],_=>rfl
 | q::K,hd=>by
  rw[aO,iG]at hd;unfold GL aW;by_cases hq:q.1=x
  ·have hn:∀r∈K,r.1≠x:=λr hr e=>hd.1 (by rw[hq,<-e];exact rW (f:=λq:Ky=>q.1) hr)
   rw[if_pos hq,AF hn,eU,show(q.1==x)=true from gQ.mpr hq,bz]
   by_cases ht:t=kd q.2
   ·rw[if_pos ht,ht,gh,if_pos rfl]
   ·rw[if_neg ht,show(t==kd q.2)=false from bW.mpr ht,if_neg cE]
  ·rw[if_neg hq,show(q.1==x)=false from bW.mpr hq,bI,if_neg cE,y0 hd.2]
theorem Ge{h:List ah}{a b:Bool}:lS h (.bl a) (.bl b)=some (.bl (a==b)):=by cases a<;>cases b<;>kernel_rfl
theorem wA(c:CT) (hc:∀d,c "_law_held" [c6 d] []=some (.ok (cK (mN d)),[])) {x0 x5 x6:Option PV} {s:Sp}:∀(K:List Ky) (o:Option Sx) (x3 x4:Option PV),∃SM WE,eY (pU 2 (fZ (di 3) (fZ (di 4) td))) (jv c) (K.map dH) ⟨[x0,some (dn s),some (Gd o),x3,x4,x5,x6],[]⟩=some (.ok .nx,⟨[x0,some (dn s),some (Gd (GL s.x s.t K o)),SM,WE,x5,x6],[]⟩)
 | [],o,x3,x4=>⟨x3,x4,rfl⟩
 | q::K,o,x3,x4=>by
  obtain⟨y3,y4,h⟩:=wA c hc (x0:=x0) (x5:=x5) (x6:=x6) (s:=s) K (if q.1==s.x&&s.t==kd q.2 then some (mN q.2)else o) (some (.str q.1)) (some (c6 q.2))
  refine⟨y3,y4,?_⟩;rw[aO];unfold GL;refine dE ?_;cases hq:(q.1==s.x&&s.t==kd q.2)
  ·rw[hq,if_neg cE]at h;rw[if_neg cE];cases h1:q.1==s.x
   ·simp only[↓ph,Ct,Ay,Ge,j5,h1,h]
   ·rw[h1,bz]at hq;simp only[↓ph,Ct,Ay,Ge,j5,h1,hq,h]
  ·rw[hq,if_pos rfl]at h;rw[if_pos rfl];obtain⟨h1,h2⟩:=(aC _ _).mp hq;have h:eY _ _ _ ⟨[x0,some (dn s),some (cK (mN q.2)),_,_,x5,x6],[]⟩=_:=h;simp only[↓ph,Ct,Ay,Ge,j5,h1,h2,hc,h]
theorem WH{s:Sx}(h:wz s=false):∃a b,Jt s=[a,b]/\(∀h,fw h (cK s) (.int 1)=some (.aq [cK a,cK b])):=by
 cases s with
 | tw=>exact⟨.nu,.nu,rfl,λ_=>rfl⟩
 | os n=>exact⟨.ow,.st n,rfl,λ_=>rfl⟩
 | _=>cases h
theorem WI{s:Sx}(h:wz s=true):Jt s=[]:=by
 cases s with
 | tw=>cases h
 | os n=>cases h
 | _=>rfl
theorem bP{h:List ah}{s:Sx}:HX h (cK s) .aN=some (.bl false):=by cases s<;>rfl
theorem la(c:CT){x0 x1 x3 x4 x6:Option PV}:∀(p:List Int) (s:Sx) (x5:Option PV),(∀i,wk s p=some i->∃SR,eY (di 5) (cD c) (p.map .int) ⟨[x0,x1,some (cK s),x3,x4,x5,x6],[]⟩=some (.ok .nx,⟨[x0,x1,some (cK i),x3,x4,SR,x6],[]⟩))/\(wk s p=none->∃pF,eY (di 5) (cD c) (p.map .int) ⟨[x0,x1,some (cK s),x3,x4,x5,x6],[]⟩=some (.ok (.rt .aN),⟨pF,[]⟩))
 | [],s,x5=>⟨λi h=>by cases h;exact⟨x5,rfl⟩,λh=>by cases h⟩
 | j::l,s,x5=>by
  rw[aO];cases hs:wz s with
  | true =>
   have hw:wk s (j::l)=none:=by unfold wk;rw[WI hs];split<;>simp
   refine⟨λi h=>(by rw[hw]at h;cases h),λ_=>?_⟩
   exact⟨_,by
    refine dE ?_;simp only[↓ph,bP,fj,dX,hs];rfl⟩
  | false =>
   obtain⟨a,b,h1,h2⟩:=WH hs;have e1:∀h,jK h [.aq [cK a,cK b]]=some (.int 2):=λ_=>rfl
   by_cases hj:0<=j/\j<2
   ·have Vv:j=0\/j=1:=by lia
    rcases Vv with rfl | rfl
    ·obtain⟨ha,hb⟩:=la c (x0:=x0) (x1:=x1) (x3:=x3) (x4:=x4) (x6:=x6) l a (some (.int 0));have hw:wk s (0::l)=wk a l:=by
      conv=>(lhs;unfold wk)
      rw[h1,if_pos hj];rfl
     rw[hw];refine⟨λi h=>?_,λh=>?_⟩
     ·obtain⟨y,h⟩:=ha i h;refine⟨y,?_⟩;refine dE ?_;simp only[↓ph,bP,fj,dX,hs,h2,e1,h]
     ·obtain⟨y,h⟩:=hb h;refine⟨y,?_⟩;refine dE ?_;simp only[↓ph,bP,fj,dX,hs,h2,e1,h]
    ·obtain⟨ha,hb⟩:=la c (x0:=x0) (x1:=x1) (x3:=x3) (x4:=x4) (x6:=x6) l b (some (.int 1));have hw:wk s (1::l)=wk b l:=by
      conv=>(lhs;unfold wk)
      rw[h1,if_pos hj];rfl
     rw[hw];refine⟨λi h=>?_,λh=>?_⟩
     ·obtain⟨y,h⟩:=ha i h;refine⟨y,?_⟩;refine dE ?_;simp only[↓ph,bP,fj,dX,hs,h2,e1,h]
     ·obtain⟨y,h⟩:=hb h;refine⟨y,?_⟩;refine dE ?_;simp only[↓ph,bP,fj,dX,hs,h2,e1,h]
   ·have hw:wk s (j::l)=none:=by unfold wk;rw[if_neg hj]
    refine⟨λi h=>(by rw[hw]at h;cases h),λ_=>?_⟩
    by_cases h0:j<0
    ·exact⟨_,by
      refine dE ?_;simp only[↓ph,bP,fj,dX,hs,aG h0];rfl⟩
    ·exact⟨_,by
      refine dE ?_;simp only[↓ph,bP,fj,dX,hs,aP h0,h2,e1,aG (show j>=2 by lia)]
      rfl⟩
theorem Cv(c:CT){x0 x1 x3 x4 x5 x6:Option PV}(j:Int)(l:List Int):∃pF,eY (di 5) (cD c) ((j::l).map .int) ⟨[x0,x1,some .aN,x3,x4,x5,x6],[]⟩=some (.ok (.rt .aN),⟨pF,[]⟩):=by
 rw[aO];exact⟨_,by
  refine dE ?_;simp only[↓ph];rfl⟩
def uB(S:Sc)(s:Sp):Option Sx:=match cls S s with
 | none=>none
 | some q=>if s.a=.aN then some q.2 else some .nu
def Cw(q:Ky):Tr:=.aq [.str q.1,B7 q.2]
theorem toT_Ky{h:List ah}(q:Ky):toT h cf (dH q)=some (Cw q):=by
 obtain⟨x,d⟩:=q;rcases d with s | ⟨w,s⟩<;>cases s<;>rfl
theorem toT_Kys{h:List ah}:∀L:List Ky,bj (toT h cf) (L.map dH)=some (L.map Cw)
 | []=>rfl
 | q::L=>by
  show(toT h cf (dH q)).bind (λy=>(bj (toT h cf) (L.map dH)).map λys=>y::ys)=_
  rw[toT_Kys L,toT_Ky];rfl
theorem OB(a b:Ky):eqT (Cw a) (Cw b)=decide (a=b):=by
 show((a.1==b.1)&&(eqT (B7 a.2) (B7 b.2)&&true))=_;rw[KH,eV,dO,aC,gQ,r0,r0,Prod.ext_iff]
theorem SY{h:List ah}{q:Ky}{K:List Ky}:lW false h (dH q) (dG K)=some (.bl (decide (q∈K))):=by
 show((toT h cf (dH q)).bind λx=>(bj (toT h cf) (K.map dH)).map λys=>ys.any λy=>eqT y x).map (λb=>PV.bl b)=_
 rw[toT_Ky,toT_Kys];show some (PV.bl ((K.map Cw).any λy=>eqT y (Cw q)))=_
 congr 2
 rw[nH,dO,lB,dr];simp only[Function.comp,OB,dr];exact⟨λ⟨y,h1,h2⟩=>h2▸h1,λh=>⟨q,h,rfl⟩⟩
theorem rH{h:List ah}{S:Sc}(hK:jq S.K){x:Str}{d:Kn}:lW false h (.aq [.str x,c6 d]) (dG S.K)=some (.bl (decide (aW S.K x=some d))):=by
 rw[show(PV.aq [.str x,c6 d])=dH (x,d)from rfl,SY]
 congr 2
 rw[dO,dr,dr,Cu hK]
theorem OC{h:List ah}{S:Sc}(hK:jq S.K){x:Str}:lW false h (.aq [.str x,pN]) (dG S.K)=some (.bl (decide (aW S.K x=some (.ow .nu)))):=rH hK (d:=.ow .nu)
theorem y9{S:Sc}{s:Sp}{b:Sx}(hB:GL s.x s.t S.K none=some b)(hd:(S.K.map (·.1)).Nodup):i4 S s=none->wk b s.p=none:=by
 intro h;rw[y0 hd]at hB;obtain⟨d,h1,h2⟩:=m8.mp hB;split at h2
 ·rename_i ht;cases h2;unfold i4 at h;rw[h1,eU,if_pos ht]at h;simpa using h
 ·cases h2
theorem uv{S:Sc}{n:Fin 8}{j:Int}:qi S (.st n) (.num j)=(decide (0<=j)&&decide (j<1+(n.val:Int))):=rfl
theorem AG{S:Sc}{n:Fin 8}{y:Str}:qi S (.st n) (.FN y)=decide (aW S.K y=some (.ow .nu)):=rfl
theorem dz(k:Nat){S:Sc}(hK:jq S.K)(s:Sp):run aS (k+2) "_law_shape_at" [dG S.K,dn s] []=some (.ok (Gd (uB S s)),[]):=by
 obtain⟨x3,x4,h1⟩:=wA (run aS (k+1)) (λd=>Gb _ d) (x0:=some (dG S.K)) (x5:=none) (x6:=none) (s:=s) S.K none none none
 delta jv q9 at h1
 have h1:eY _ _ _ ⟨[some (dG S.K),some (dn s),some .aN,none,none,none,none],[]⟩=_:=h1;cases hs:i4 S s with
 | none =>
  have hc:uB S s=none:=by unfold uB cls;rw[hs];rfl
  rw[hc];cases hB:GL s.x s.t S.K none with
  | none =>
   rw[hB]at h1;have h1:eY _ _ _ ⟨[some (dG S.K),some (dn s),some .aN,none,none,none,none],[]⟩=some (.ok .nx,⟨[some (dG S.K),some (dn s),some .aN,x3,x4,none,none],[]⟩):=h1;obtain⟨x,t,p,a⟩:=s;cases p with
   | nil =>
    have e:∀h,∃b,HX h (we a) .aN=some (.bl b):=λh=>by cases a<;>exact⟨_,rfl⟩
    rw[eI];cases a<;>(simp only[↓aF,h1];rfl)
   | cons j l =>
    obtain⟨bK,h2⟩:=Cv (run aS (k+1)) (x0:=some (dG S.K)) (x1:=some (dn ⟨x,t,j::l,a⟩)) (x3:=x3) (x4:=x4) (x5:=none) (x6:=none) j l
    delta cD q9 at h2
    rw[eI];simp only[↓aF,h1,h2];rfl
  | some b =>
   rw[hB]at h1;have h1:eY _ _ _ ⟨[some (dG S.K),some (dn s),some .aN,none,none,none,none],[]⟩=some (.ok .nx,⟨[some (dG S.K),some (dn s),some (cK b),x3,x4,none,none],[]⟩):=h1;obtain⟨bK,h2⟩:=(la (run aS (k+1)) (x0:=some (dG S.K)) (x1:=some (dn s)) (x3:=x3) (x4:=x4) (x6:=none) s.p b none).2 (y9 hB hK.d hs)
   delta cD q9 at h2
   rw[eI];simp only[↓aF,h1,h2];rfl
 | some q =>
  obtain⟨d,i⟩:=q;obtain⟨hk,ht,hp⟩:=kZ hs;have hB:GL s.x s.t S.K none=some (mN d):=by rw[y0 hK.d,hk,eU,if_pos ht]
  rw[hB]at h1;have h1:eY _ _ _ ⟨[some (dG S.K),some (dn s),some .aN,none,none,none,none],[]⟩=some (.ok .nx,⟨[some (dG S.K),some (dn s),some (cK (mN d)),x3,x4,none,none],[]⟩):=h1;obtain⟨y5,h2⟩:=(la (run aS (k+1)) (x0:=some (dG S.K)) (x1:=some (dn s)) (x3:=x3) (x4:=x4) (x6:=none) s.p (mN d) none).1 i hp
  delta cD q9 at h2
  have hc:uB S s=if qi S i s.a=true then(if s.a=.aN then some i else some .nu)else none:=by
   unfold uB cls;rw[hs,eU];cases qi S i s.a<;>rfl
  rw[hc];have pA:∀h,yg h (.str (Om i)) (.str "strip")=some (.bl (!mO i)):=λh=>KL
  rw[eI];obtain⟨x,t,p,a⟩:=s;cases a with
  | aN =>
   simp only[↓aF,h1,h2,bP];cases i<;>rfl
  | num j =>
   cases hi:mO i with
   | false =>
    have:qi S i (.num j)=false:=by cases i<;>first | rfl | cases hi
    simp only[↓aF,h1,h2,bP,fj,pA,hi,this];rfl
   | true =>
    obtain⟨n,rfl⟩:∃n,i=.st n:=by cases i<;>first | exact⟨_,rfl⟩ | cases hi
    by_cases j0:0<=j
    ·by_cases j1:j<1+(n.val:Int)
     ·have:qi S (.st n) (.num j)=true:=by rw[uv,aG j0,aG j1];rfl
      simp only[↓aF,h1,h2,bP,fj,pA,hi,this,aG j0,aG j1];rfl
     ·have:qi S (.st n) (.num j)=false:=by rw[uv,aP j1,du]
      simp only[↓aF,h1,h2,bP,fj,pA,hi,this,aG j0,aP j1];rfl
    ·have:qi S (.st n) (.num j)=false:=by rw[uv,aP j0,bI]
     simp only[↓aF,h1,h2,bP,fj,pA,hi,this,aP j0];rfl
  | FN y =>
   cases hi:mO i with
   | false =>
    have:qi S i (.FN y)=false:=by cases i<;>first | rfl | cases hi
    simp only[↓aF,h1,h2,bP,fj,pA,hi,this];rfl
   | true =>
    obtain⟨n,rfl⟩:∃n,i=.st n:=by cases i<;>first | exact⟨_,rfl⟩ | cases hi
    have e:∀h,lW false h (.aq [we (At.FN y),pN]) (dG S.K)=some (.bl (decide (aW S.K y=some (.ow .nu)))):=λh=>OC hK (x:=y) (h:=h)
    by_cases hy:aW S.K y=some (.ow .nu)
    ·have:qi S (.st n) (.FN y)=true:=by rw[AG,aG hy]
     simp only[aG hy]at e;simp only[↓aF,h1,h2,bP,fj,pA,hi,this,e];rfl
    ·have:qi S (.st n) (.FN y)=false:=by rw[AG,aP hy]
     simp only[aP hy]at e;simp only[↓aF,h1,h2,bP,fj,pA,hi,this,e];rfl
theorem OD{h:List ah}{o:Option Sx}:lW false h (Gd o) (.aq [pN,pO])=some (.bl (decide (o=some .nu) || decide (o=some .ow))):=by
 cases o with
 | none=>kernel_rfl
 | some s=>cases s<;>kernel_rfl
theorem OE(S:Sc)(s:Sp):CF S s=(decide (uB S s=some .nu) || decide (uB S s=some .ow)):=by
 unfold CF uB;cases cls S s with
 | none=>rfl
 | some q=>by_cases h:s.a=.aN<;>simp[h]
theorem Gf(k:Nat){S:Sc}(hK:jq S.K)(o:Op):run aS (k+3) "_law_is_number" [dG S.K,ui o] []=some (.ok (.bl (pG S o)),[]):=by
 rw[o7];cases o with
 | n i =>
  have h3:∀h,Bh h (.int 10) (.int 30)=some (.int (10^30)):=λh=>by kernel_rfl
  by_cases h1:0<=i
  ·simp only[↓aF,ui,pG,h3,aG h1,bz]
  ·simp only[↓aF,ui,pG,h3,aP h1,bI]
 | s s =>
  have e:=λk=>dz k hK s
  simp only[↓aF,ui,pG,e,OD,OE]
theorem Gg(k:Nat){S:Sc}(hK:jq S.K)(s:Sp):run aS (k+3) "_law_is_number" [dG S.K,dn s] []=some (.ok (.bl (CF S s)),[]):=Gf k hK (.s s)
theorem Gh{h:List ah}{x:Str}{l:List Str}:lW true h (.str x) (.lst (l.map .str))=some (.bl (!decide (x∈l))):=by
 show((bj (toT h cf) (l.map .str)).map λys=>ys.any λy=>eqT y (.str x)).map (λb=>PV.bl (!b))=_
 rw[show cf=999+1 from rfl,toT_strs]
 show some (PV.bl (!((l.map Tr.str).any λy=>eqT y (.str x))))=_
 congr 3
 rw[nH,dO,lB];simp only[Function.comp,eqT,gQ,dr];exact⟨λ⟨y,h1,h2⟩=>h2▸h1,λh=>⟨x,h,rfl⟩⟩
theorem fB(k:Nat){S:Sc}(hK:jq S.K)(s:Sp):∃b,(∀k,run aS (k+1) "_law_written" [dG S.K,dn s] []=some (.ok (.bl b),[]))/\∀d i,cls S s=some (d,i)->b=Sy d:=by
 obtain⟨L,hL⟩:∃L,L=(S.K.filter λq=>q.1==s.x).map λq=>w0 q.2:=⟨_,rfl⟩
 refine⟨!s.t || !decide ((Str.ofString "lent")∈L),λk=>?_,λd i hc=>?_⟩
 ·have e1:(S.K.map dH).length<=4000000:=by rw[ak,hK.l];decide
  have e2:((S.K.filter λq=>q.1==s.x).map λq=>PV.str (w0 q.2))=L.map .str:=by rw[hL,fF];rfl
  have e3:∀h,lW true h (.str "lent") (.lst ((S.K.filter λq=>q.1==s.x).map λq=>PV.str (w0 q.2)))=some (.bl (!decide ((Str.ofString "lent")∈L))):=λh=>by rw[e2,Gh]
  rw[uf];simp only[↓aF,e1,j5,Ct,e3]
 ·obtain⟨hk,ht,hp⟩:=dW hc;have hm:(Str.ofString "lent"∈L)↔w0 d="lent":=by
   rw[hL];constructor
   ·intro h;obtain⟨q,h1,h2⟩:=ee.mp h;obtain⟨h3,h4⟩:=fD.mp h1;have:aW S.K s.x=some q.2:=jf hK.d (by rw[<-gQ.mp h4];exact h3)
    rw[hk]at this;cases this;exact h2
   ·intro h;exact ee.mpr ⟨(s.x,d),fD.mpr ⟨l9 hk,gh _⟩,h⟩
  rw[ht];rcases d with s | ⟨_ | _,s⟩
  ·rfl
  ·rw[aG (hm.mpr rfl)];rfl
  ·rw[aP (λh=>absurd (hm.mp h) (by simp[w0,CD];decide +kernel))]
   rfl
theorem AH(k:Nat){S:Sc}(hK:jq S.K)(x:Str)(r:j3):run aS (k+2) "_law_taken" [dG S.K,.str x,g8 r] []=some (.ok (.bl (tkB S x r)),[]):=by
 rw[yQ];cases r with
 | aN=>simp only[↓aF,j5,tkB]
 | own s =>
  have e1:∀k,run aS (k+1) "_law_back" [g8 (.own s)] []=some (.ok (c6 (.ow s)),[]):=λk=>i7 k _ rfl
  have e2:=λh=>rH hK (x:=x) (d:=.ow s) (h:=h)
  simp only[↓aF,e1,e2,tkB,show ∀h,HX h (g8 (.own s)) .aN=some (.bl false)from λh=>bP]
 | jk w s l =>
  have e1:∀k,run aS (k+1) "_law_back" [g8 (.jk w s l)] []=some (.ok (c6 (.ho w s)),[]):=λk=>i7 k _ rfl
  have e2:=λh=>rH hK (x:=x) (d:=.ho w s) (h:=h)
  simp only[↓aF,e1,e2,tkB]
theorem uw{h:List ah}{i:Sx}:lW false h pO (.lst ((fQ i).map λe=>cK e.2.2))=some (.bl (!Oo i)):=by cases i<;>kernel_rfl
theorem KW{h:List ah}{o:Option Sx}{i:Sx}:lS h (Gd o) (cK i)=some (.bl (decide (o=some i))):=by
 cases o with
 | none=>cases i<;>rfl
 | some s =>
  show lS h (cK s) (cK i)=_;rw[FK];simp
theorem ma{h:List ah}{a:At}:kH h (we a) .aN=some (.bl (!decide (a=.aN))):=by cases a<;>rfl
theorem AI(i:Sx):((fQ i).map SQ).length<=4000000:=by rw[ak];cases i<;>exact bF rfl
theorem za{S:Sc}{s:Sp}(h:s.a=.aN):uB S s=(cls S s).map (·.2):=by
 unfold uB;cases cls S s with
 | none=>rfl
 | some q=>exact if_pos h
theorem KY{S:Sc}{s:Sp}(h:s.a≠.aN):k6 S s=false:=by unfold k6;rw[aP h,du]
theorem KZ{S:Sc}{s:Sp}(h:cls S s=none):k6 S s=false:=by unfold k6;rw[h];rfl
theorem Gi{S:Sc}{s:Sp}{q:Kn×Sx}(h:cls S s=some q)(h2:s.a=.aN):k6 S s=true:=by unfold k6;rw[h,aG h2];rfl
theorem Gj{S:Sc}{s:Sp}(h:cls S s=none):uB S s=none:=by unfold uB;rw[h]
theorem S0{S:Sc}{s:Sp}{q:Kn×Sx}(h:cls S s=some q):∃i,uB S s=some i:=by
 unfold uB;rw[h];by_cases h2:s.a=.aN
 ·exact⟨_,if_pos h2⟩
 ·exact⟨_,if_neg h2⟩
def OF:Rw->Bool
 | .fU _ _=>true
 | .i5 _ _=>true
 | .drop _=>true
 | .fV _ _ _=>true
 | _=>false
def cU:Rw->Sp
 | .fU _ s=>s
 | .i5 _ s=>s
 | .drop s=>s
 | .fV _ _ s=>s
 | _=>⟨"",false,[],.aN⟩
theorem OG{S:Sc}{r:Rw}(hr:OF r=true)(h:k6 S (cU r)=false):cg S r=false:=by
 cases r with
 | fU t s=>simp only[cg,show k6 S s=false from h,du,bI]
 | i5 t s=>simp only[cg,B9,show k6 S s=false from h,du,bI]
 | drop s=>simp only[cg,B9,show k6 S s=false from h,bI]
 | fV w x s=>cases w<;>simp only[cg,kf,show k6 S s=false from h,bI]
 | _=>cases hr
theorem zb(k:Nat){S:Sc}(hK:jq S.K)(r:Rw)(hr:OF r=true)(h:k6 S (cU r)=false):run aS (k+4) "_law_thing_fits" [dG S.K,fP r] []=some (.ok (.bl false),[]):=by
 have e0:=λk=>dz k hK (cU r)
 cases hc:cls S (cU r)with
 | none =>
  rw[Gj hc]at e0;have e0:∀k,run aS (k+2) "_law_shape_at" [dG S.K,dn (cU r)] []=some (.ok .aN,[]):=e0
  rw[fg];cases r with
  | fU t s=>simp only[cU]at e0;simp only[↓aF,e0]
  | i5 t s=>simp only[cU]at e0;simp only[↓aF,e0]
  | drop s=>simp only[cU]at e0;simp only[↓aF,e0]
  | fV w x s =>
   have z0:∀k,run aS (k+2) "_law_shape_at" [dG S.K,dn s] []=some (.ok .aN,[]):=e0
   cases w<;>simp only[↓aF,z0]
  | _=>cases hr
 | some q =>
  have ha:¬(cU r).a=.aN:=λha=>by rw[Gi hc ha]at h;cases h
  obtain⟨i,hi⟩:=S0 hc;rw[hi]at e0;have e0:∀k,run aS (k+2) "_law_shape_at" [dG S.K,dn (cU r)] []=some (.ok (cK i),[]):=e0
  have e1:∀h,kH h (we (cU r).a) .aN=some (.bl true):=λh=>by rw[ma,aP ha];rfl
  rw[fg];cases r with
  | fU t s=>simp only[cU]at e0 e1;simp only[↓aF,e0,e1,bP]
  | i5 t s=>simp only[cU]at e0 e1;simp only[↓aF,e0,e1,bP]
  | drop s=>simp only[cU]at e0 e1;simp only[↓aF,e0,e1,bP]
  | fV w x s =>
   have z0:∀k,run aS (k+2) "_law_shape_at" [dG S.K,dn s] []=some (.ok (cK i),[]):=e0
   have z1:∀h,kH h (we s.a) .aN=some (.bl true):=e1
   cases w<;>simp only[↓aF,z0,z1,bP]
  | _=>cases hr
theorem c8(k:Nat){S:Sc}(hK:jq S.K)(r:Rw)(hr:OF r=true):run aS (k+12) "_law_thing_fits" [dG S.K,fP r] []=some (.ok (.bl (cg S r)),[]):=by
 cases hp:k6 S (cU r)with
 | false=>rw[OG hr hp];exact zb (k+8) hK r hr hp
 | true =>
  obtain⟨d,i,hc⟩:=i6 hp;have ha:(cU r).a=.aN:=by
   unfold k6 at hp;exact eS ((aC _ _).mp hp).2
  have e0:∀k,run aS (k+2) "_law_shape_at" [dG S.K,dn (cU r)] []=some (.ok (cK i),[]):=λk=>by
   have:=dz k hK (cU r);rw[za ha,hc]at this;exact this
  have e1:∀h,kH h (we (cU r).a) .aN=some (.bl false):=λh=>by rw[ma,aG ha];rfl
  rw[fg];cases r with
  | fV w x s =>
   simp only[cU]at e0 e1 hp hc;have e3:uj S s (λi=>decide (aW S.K x=some (.ho w i)))=decide (aW S.K x=some (.ho w i)):=by unfold uj;rw[hc]
   cases w with
   | false =>
    have e2:∀h,lW false h (.aq [.str x,.aq [.str "lent",cK i]]) (dG S.K)=some (.bl (decide (aW S.K x=some (.ho false i)))):=λh=>rH hK (d:=.ho false i)
    simp only[↓aF,e0,e1,bP,e2,cg,hp,e3,bz]
   | true =>
    have e2:∀h,lW false h (.aq [.str x,.aq [.str "sole",cK i]]) (dG S.K)=some (.bl (decide (aW S.K x=some (.ho true i)))):=λh=>rH hK (d:=.ho true i)
    obtain⟨b,e4,hb⟩:=fB k hK s;have e5:kf S s=b:=by unfold kf JB;rw[hp,hc,hb d i hc];rfl
    simp only[↓aF,e0,e1,bP,e2,e4,cg,e5,e3];rw[Bool.and_comm]
  | drop s =>
   simp only[cU]at e0 e1 hp hc;have e5:B9 S s = !s.t:=by unfold B9;rw[hp,bz]
   cases ht:s.t
   ·simp only[↓aF,e0,e1,bP,ht,cg,e5];rfl
   ·simp only[↓aF,e0,e1,bP,ht,cg,e5];rfl
  | fU t s =>
   simp only[cU]at e0 e1 hp hc;have e6:uj S s Oo=Oo i:=by unfold uj;rw[hc]
   by_cases ta:t.a=.aN
   ·have e2:∀h,kH h (we t.a) .aN=some (.bl false):=λh=>by rw[ma,aG ta];rfl
    obtain⟨b,e4,hb⟩:=fB k hK t;have e7:=λk=>dz k hK t
    cases zc:cls S t with
    | none =>
     have e8:kf S t=false:=by unfold kf;rw[KZ zc];rfl
     rw[Gj zc]at e7;have e7:∀k,run aS (k+2) "_law_shape_at" [dG S.K,dn t] []=some (.ok .aN,[]):=e7
     have e9:∀h,lS h .aN (cK i)=some (.bl false):=λh=>KW (o:=none)
     cases b<;>(simp only[↓aF,e0,e1,e2,e4,e7,e9,bP,k8,AI,uw,cg,e8];rfl)
    | some q =>
     obtain⟨e,j⟩:=q;have e8:kf S t=b:=by unfold kf JB;rw[Gi zc ta,zc,hb e j zc];rfl
     rw[za ta,zc]at e7;have e7:∀k,run aS (k+2) "_law_shape_at" [dG S.K,dn t] []=some (.ok (cK j),[]):=e7
     have e9:GJ S t s=decide (j=i):=by unfold GJ;rw[zc,hc]
     cases b
     ·simp only[↓aF,e0,e1,e2,e4,bP,cg,e8];rfl
     ·simp only[↓aF,e0,e1,e2,e4,e7,bP,k8,AI,uw,FK,cg,e8,hp,e9,e6,Bool.not_not,bz,Bool.false_or]
   ·have e2:∀h,kH h (we t.a) .aN=some (.bl true):=λh=>by rw[ma,aP ta];rfl
    have e8:kf S t=false:=by unfold kf;rw[KY ta];rfl
    simp only[↓aF,e0,e1,e2,bP,cg,e8];rfl
  | i5 t s =>
   simp only[cU]at e0 e1 hp hc;have e5:B9 S s = !s.t:=by unfold B9;rw[hp,bz]
   cases hs:s.t with
   | true =>
    simp only[↓aF,e0,e1,bP,hs,cg,e5];rw[Bool.not_true,du,bI]
   | false =>
    by_cases ta:t.a=.aN
    ·have e2:∀h,kH h (we t.a) .aN=some (.bl false):=λh=>by rw[ma,aG ta];rfl
     obtain⟨b,e4,hb⟩:=fB k hK t;have e7:=λk=>dz k hK t
     cases zc:cls S t with
     | none =>
      have e8:kf S t=false:=by unfold kf;rw[KZ zc];rfl
      rw[Gj zc]at e7;have e7:∀k,run aS (k+2) "_law_shape_at" [dG S.K,dn t] []=some (.ok .aN,[]):=e7
      have e9:∀h,lS h .aN (cK i)=some (.bl false):=λh=>KW (o:=none)
      cases b<;>(simp only[↓aF,e0,e1,e2,e4,e7,e9,bP,k8,AI,uw,hs,cg,e8];rfl)
     | some q =>
      obtain⟨e,j⟩:=q;have e8:kf S t=b:=by unfold kf JB;rw[Gi zc ta,zc,hb e j zc];rfl
      rw[za ta,zc]at e7;have e7:∀k,run aS (k+2) "_law_shape_at" [dG S.K,dn t] []=some (.ok (cK j),[]):=e7
      have e9:GJ S t s=decide (j=i):=by unfold GJ;rw[zc,hc]
      cases b
      ·simp only[↓aF,e0,e1,e2,e4,bP,hs,cg,e8];rfl
      ·simp only[↓aF,e0,e1,e2,e4,e7,bP,k8,AI,uw,FK,hs,cg,e8,hp,e9,e5,sF,bz,Bool.true_or,eV]
    ·have e2:∀h,kH h (we t.a) .aN=some (.bl true):=λh=>by rw[ma,aP ta];rfl
     have e8:kf S t=false:=by unfold kf;rw[KY ta];rfl
     simp only[↓aF,e0,e1,e2,bP,hs,cg,e8];rfl
  | _=>cases hr
def cB(S:Sc)(x:Str)(as:List Str)(ps:List Ky)(res:j3):Bool:=decide (as.length=ps.length)&&(tkB S x res&&(as.zip ps).all λz=>decide (aW S.K z.1=some z.2.2))
def lb:List Fd->Str->Option Fd
 | [],_=>none
 | r::l,x=>if r.nm=x then some r else lb l x
theorem Gk{as:List Str}{ps:List Ky}:List.zipWith dZ (as.map .str) (ps.map λq=>c6 q.2)=(as.zip ps).map λz=>.aq [.str z.1,c6 z.2.2]:=by rw[mZ]
theorem Gn(c:CT){S:Sc}(hK:jq S.K) (ht:∀x r,c "_law_taken" [dG S.K,.str x,g8 r] []=some (.ok (.bl (tkB S x r)),[])) {x f:Str} {as:List Str} (ha:as.length<=1000) (F:Fd) (hF:F.ps.length<=1000) {x1 x3 x4:Option PV} (rest:List PV) (hf:F.nm=f):∃pF,eY (di 3) (dS c) (c7 F::rest) ⟨[some (dG S.K),x1,some (fP (.call x f as)),x3,x4],[]⟩=some (.ok (.rt (.bl (cB S x as F.ps F.res))),⟨pF,[]⟩):=by
 subst hf;have e0:∀h:List ah,lS h (.str F.nm) (.str F.nm)=some (.bl true):=λh=>by rw[j5,gh]
 have e1:∀h:List ah,yg h (.int (as.length:Int)) (.int (F.ps.length:Int))=some (.bl (!decide (as.length=F.ps.length))):=λh=>by
  show some (PV.bl (!((as.length:Int)==(F.ps.length:Int))))=_
  congr 3
  rw[dO,gQ,r0]
  lia
 have e2:∀h:List ah,jK h [.aq (as.map .str)]=some (.int (as.length:Int)):=λh=>by show some (PV.int (((as.map PV.str).length:Nat):Int))=_;rw[ak]
 have e3:∀h:List ah,jK h [.aq (F.ps.map dH)]=some (.int (F.ps.length:Int)):=λh=>by show some (PV.int (((F.ps.map dH).length:Nat):Int))=_;rw[ak]
 have e4:(F.ps.map dH).length<=4000000:=by rw[ak];lia
 have e5:((as.zip F.ps).map λz=>PV.aq [.str z.1,c6 z.2.2]).length<=4000000:=by rw[ak,su];lia
 have e6:∀h (z:Str×Ky),lW false h (.aq [.str z.1,c6 z.2.2]) (dG S.K)=some (.bl (decide (aW S.K z.1=some z.2.2))):=λh z=>rH hK
 unfold cB;by_cases hl:as.length=F.ps.length
 ·rw[aG hl,bz];simp only[aG hl]at e1;cases hk:tkB S x F.res with
  | false =>
   have ht:=ht x F.res;rw[hk]at ht;exact⟨_,by
    refine dE ?_;simp only[↓ph,e0,e1,e2,e3,ht];rfl⟩
  | true =>
   have ht:=ht x F.res;rw[hk]at ht;exact⟨_,by
    refine dE ?_;simp only[↓ph,e0,e1,e2,e3,e4,e5,e6,ht,Gk,all_map,bz];rfl⟩
 ·rw[aP hl,bI];simp only[aP hl]at e1;exact⟨_,by
   refine dE ?_;simp only[↓ph,e0,e1,e2,e3];rfl⟩
theorem rJ(c:CT){S:Sc}(hK:jq S.K) (ht:∀x r,c "_law_taken" [dG S.K,.str x,g8 r] []=some (.ok (.bl (tkB S x r)),[])) {x f:Str} {as:List Str} (ha:as.length<=1000) {x1:Option PV}:∀(P:List Fd) (x3 x4:Option PV),(∀F∈P,F.ps.length<=1000)->(∀F,lb P f=some F->∃pF,eY (di 3) (dS c) (P.map c7) ⟨[some (dG S.K),x1,some (fP (.call x f as)),x3,x4],[]⟩=some (.ok (.rt (.bl (cB S x as F.ps F.res))),⟨pF,[]⟩))/\(lb P f=none->∃pF,eY (di 3) (dS c) (P.map c7) ⟨[some (dG S.K),x1,some (fP (.call x f as)),x3,x4],[]⟩=some (.ok .nx,⟨pF,[]⟩))
 | [],x3,x4,_=>⟨λF h=>(by cases h),λ_=>⟨_,rfl⟩⟩
 | G::P,x3,x4,hP=>by
  rw[aO];unfold lb;by_cases hg:G.nm=f
  ·rw[if_pos hg];refine⟨λF h=>?_,λh=>(by cases h)⟩
   cases h;exact Gn c hK ht ha G (hP G dc) _ hg
  ·rw[if_neg hg];obtain⟨h1,h2⟩:=rJ c hK ht (x:=x) (f:=f) ha (x1:=x1) P (some (c7 G)) x4 λF hF=>hP F (da _ hF)
   have e0:∀h:List ah,lS h (.str G.nm) (.str f)=some (.bl false):=λh=>by rw[j5,bW.mpr hg]
   refine⟨λF h=>?_,λh=>?_⟩
   ·obtain⟨pF,h⟩:=h1 F h;refine⟨pF,?_⟩;refine dE ?_;simp only[↓ph,e0,h]
   ·obtain⟨pF,h⟩:=h2 h;refine⟨pF,?_⟩;refine dE ?_;simp only[↓ph,e0,h]
def OH(o:Option Fd):Option (List Ky×j3):=o.map λF=>(F.ps,F.res)
def Gp(o:Option Hd):Option (List Ky×j3):=o.map λF=>(F.ps,F.res)
theorem wB(k:Nat){S:Sc}(hK:jq S.K){P:List Fd}(hP:∀F∈P,F.ps.length<=1000)(hH:∀f,OH (lb P f)=Gp (eP S.H f)){x f:Str}{as:List Str}(ha:as.length<=1000):run aS (k+3) "_law_call_fits" [dG S.K,.lst (P.map c7),fP (.call x f as)] []=some (.ok (.bl (cg S (.call x f as))),[]):=by
 obtain⟨h1,h2⟩:=rJ (run aS (k+2)) hK (λx r=>AH k hK x r) (x:=x) (f:=f) ha (x1:=some (.lst (P.map c7))) P none none hP
 delta dS q9 at h1 h2
 have hf:=hH f;show _=some (Rs.ok (PV.bl (pe S x f as)),_);rw[o8];cases hp:lb P f with
 | none =>
  rw[hp]at hf;have hn:eP S.H f=none:=by
   cases hh:eP S.H f with
   | none=>rfl
   | some G=>rw[hh]at hf;cases hf
  obtain⟨pF,h⟩:=h2 hp;unfold pe;rw[hn];simp only[↓aF,h]
 | some F =>
  rw[hp]at hf;obtain⟨G,hG⟩:∃G,eP S.H f=some G:=by
   cases hh:eP S.H f with
   | none=>rw[hh]at hf;cases hf
   | some G=>exact⟨G,rfl⟩
  rw[hG]at hf;have hf:(F.ps,F.res)=(G.ps,G.res):=bt hf;obtain⟨pF,h⟩:=h1 F hp;have:pe S x f as=cB S x as F.ps F.res:=by
   unfold pe cB;rw[hG,show F.ps=G.ps from(Prod.ext_iff.mp hf).1,show F.res=G.res from(Prod.ext_iff.mp hf).2]
  rw[this];simp only[↓aF,h]
theorem WJ{h:List ah}{a b:Bool}:p7 h [.lst [.bl a,.bl b]]=some (.bl (a&&b)):=by cases a<;>cases b<;>rfl
theorem JT{S:Sc}{s:Sp}(h:cls S s=none):CF S s=false:=by unfold CF;rw[h]
theorem K1{S:Sc}{s:Sp}{b:Bool}(hb:∀d i,cls S s=some (d,i)->b=Sy d):(b&&CF S s)=KI S s:=by
 unfold KI JB;cases hc:cls S s with
 | none=>rw[JT hc,du,bI]
 | some q=>rw[hb q.1 q.2 hc,Bool.and_comm]
theorem OI{h:List ah}{o:Option Sx}:kH h (Gd o) .aN=some (.bl o.isSome):=by
 cases o with
 | none=>rfl
 | some s=>cases s<;>rfl
structure K2 (S:Sc) (P:List Fd):Prop where
 K:jq S.K
 p:∀F∈P,F.ps.length<=1000
 h:∀f,OH (lb P f)=Gp (eP S.H f)
 s:S.size=3
 r:∃F,P[5]?=some F/\F.res=S.res
theorem OJ(k:Nat){S:Sc}{P:List Fd}(hO:K2 S P)(r:Rw)(hr:qj r):run aS (k+13) "_law_fits" [dG S.K,.lst (P.map c7),fP r] []=some (.ok (.bl (cg S r)),[]):=by
 have hK:=hO.K;have e1:=λk o=>Gf k hK o
 have X6:=λk s=>Gg k hK s
 have e2:=λk x r=>AH k hK x r
 obtain⟨F5,h5,h6⟩:=hO.r;have e3:∀h',fw h' (.lst (P.map c7)) (.int 5)=some (c7 F5):=λh'=>atI_nat (j:=5) (by rw[bR,h5];rfl)
 have e4:=λk r hr=>c8 k hK r hr
 have jb:∀to:Int,jB S to=(decide (0<=to)&&decide (to<3)):=λto=>by unfold jB;rw[hO.s];rfl
 rw[B4];cases r with
 | fU t s =>
  have e:=λk=>c8 k hK (.fU t s) rfl
  simp only[↓aF,e]
 | i5 t s =>
  have e:=λk=>c8 k hK (.i5 t s) rfl
  simp only[↓aF,e]
 | drop s =>
  have e:=λk=>c8 k hK (.drop s) rfl
  simp only[↓aF,e]
 | fV w x s =>
  cases w
  ·have e:=λk=>c8 k hK (.fV false x s) rfl
   simp only[↓aF,e]
  ·have e:=λk=>c8 k hK (.fV true x s) rfl
   simp only[↓aF,e]
 | call x f as =>
  have e:=λk=>wB k hK hO.p hO.h (x:=x) (f:=f) (as:=as) hr
  simp only[↓aF,e]
 | iq x=>simp only[↓aF,e2,e3,h6,cg]
 | go to =>
  have ea:∀h,p7 h [.lst []]=some (.bl true):=λ_=>rfl
  have el:([]:List PV).length<=4000000:=by decide
  by_cases h0:0<=to
  ·by_cases h1:to<3
   ·simp only[↓aF,aG h0,aG h1,ea,el,cg,jb];rfl
   ·simp only[↓aF,aG h0,aP h1,ea,cg,jb];rfl
  ·simp only[↓aF,aP h0,ea,cg,jb];rfl
 | JD a b to =>
  have el:[ui a,ui b].length<=4000000:=bF rfl;by_cases h0:0<=to
  ·by_cases h1:to<3
   ·simp only[↓aF,aG h0,aG h1,e1,el,WJ,cg,jb,eV];simp
   ·simp only[↓aF,aG h0,aP h1,cg,jb,du]
  ·simp only[↓aF,aP h0,cg,jb,bI,du]
 | Av o=>simp only[↓aF,e1,cg]
 | put s o =>
  obtain⟨b,e5,hb⟩:=fB k hK s;have ht:=K1 hb;have e:cg S (.put s o)=(KI S s&&pG S o):=rfl;rw[e,<-ht];cases b
  ·simp only[↓aF,e5,bI]
  ·cases ho:pG S o
   ·have e1:=λk=>e1 k o
    simp only[ho]at e1;simp only[↓aF,e5,e1,du]
   ·have e1:=λk=>e1 k o
    simp only[ho]at e1;simp only[↓aF,e5,e1,X6,eV,bz]
 | set s g a o =>
  obtain⟨b,e5,hb⟩:=fB k hK s;have ht:=K1 hb;have e:cg S (.set s g a o)=(KI S s&&(pG S a&&pG S o)):=rfl;rw[e,<-ht];cases b
  ·simp only[↓aF,e5,bI]
  ·cases ho:pG S o
   ·have e1:=λk=>e1 k o
    simp only[ho]at e1;simp only[↓aF,e5,e1,du]
   ·have Pl:=λk=>e1 k o
    simp only[ho]at Pl;simp only[↓aF,e5,Pl,e1,X6,eV,bz]
 | fill s o =>
  obtain⟨b,e5,hb⟩:=fB k hK s;have e:cg S (.fill s o)=((kf S s&&uj S s mO)&&pG S o):=rfl;have e0:=λk=>dz k hK s
  rw[e];have hw:(kf S s&&uj S s mO)=(b&&(match uB S s with | some i=>mO i&&decide (s.a=.aN) | none=>false)):=by
   unfold kf uj k6 JB uB;cases hc:cls S s with
   | none=>simp
   | some q =>
    rw[hb q.1 q.2 hc];by_cases ha:s.a=.aN<;>simp[ha,Bool.and_comm]
  rw[hw];cases b
  ·simp only[↓aF,e5,bI]
  ·cases ho:pG S o
   ·have e1:=λk=>e1 k o
    simp only[ho]at e1;simp only[↓aF,e5,e1,du]
   ·have Pl:=λk=>e1 k o
    simp only[ho]at Pl;cases hs:uB S s with
    | none =>
     rw[hs]at e0;have e0:∀k,run aS (k+2) "_law_shape_at" [dG S.K,dn s] []=some (.ok .aN,[]):=e0
     simp only[↓aF,e5,Pl,e0];rfl
    | some i =>
     rw[hs]at e0;have e0:∀k,run aS (k+2) "_law_shape_at" [dG S.K,dn s] []=some (.ok (cK i),[]):=e0
     have e6:∀h,kH h (cK i) .aN=some (.bl true):=λh=>OI (o:=some i)
     have e7:∀h,lS h (.str (Om i)) (.str "strip")=some (.bl (mO i)):=λh=>by cases i<;>kernel_rfl
     have e8:∀h,HX h (we s.a) .aN=some (.bl (decide (s.a=.aN))):=λh=>by cases s.a<;>rfl
     simp only[↓aF,e5,Pl,e0,e6,e7,e8,fj,eV,bz]
def F0(N:Nat->Str):Fd:=⟨N 10,[],.aN,[],[.iq ""]⟩
def F1(N:Nat->Str):Fd:=⟨N 12,[],.aN,[],[.iq ""]⟩
def F2(N:Nat->Str):Fd:=⟨N 13,[(N 0,.ow .nu)],.own .nu,[],[.iq (N 0)]⟩
def F3(N:Nat->Str):Fd:=⟨N 14,[(N 2,.ho false .tw),(N 1,.ho true .tw)],.jk false .tw [N 2],[],[.iq (N 2)]⟩
def F4(N:Nat->Str):Fd:=⟨N 15,[(N 0,.ho true .tw),(N 1,.ow .ow)],.aN,[],[.iq ""]⟩
def FL(N:Nat->Str)(K:List Ky)(res:j3)(R:List Rw):Fd:=⟨N 11,K.take 3,res,K.drop 3,R⟩
def bG(x:Str):List Rw:=[.Av (.n 5),.iq x]
def jg(N:Nat->Str)(K:List Ky)(res:j3)(R:List Rw):List Fd:=[F0 N,F1 N,F2 N,F3 N,F4 N,FL N K res R]
theorem Gq(k:Nat)(N:Nat->Str):run aS (k+1) "_law_called" [je N] []=some (.ok (.ref 0),[⟨.lst,[F1 N,F2 N,F3 N,F4 N].map c7⟩]):=by
 have e:∀h (i:Fin 16),fw h (je N) (.int (i.val:Int))=some (.str (N i.val)):=λh i=>pw i.isLt
 have e0:∀h,fw h (je N) (.int 0)=some (.str (N 0)):=λh=>e h 0
 have e1:∀h,fw h (je N) (.int 1)=some (.str (N 1)):=λh=>e h 1
 have e2:∀h,fw h (je N) (.int 2)=some (.str (N 2)):=λh=>e h 2
 have WK:∀h,fw h (je N) (.int 12)=some (.str (N 12)):=λh=>e h 12
 have e13:∀h,fw h (je N) (.int 13)=some (.str (N 13)):=λh=>e h 13
 have wJ:∀h,fw h (je N) (.int 14)=some (.str (N 14)):=λh=>e h 14
 have Pt:∀h,fw h (je N) (.int 15)=some (.str (N 15)):=λh=>e h 15
 rw[wb];simp only[↓aF,e0,e1,e2,WK,e13,wJ,Pt];rfl
theorem pB{K:List Ky}{h:List ah}:GF h none (some 3) (dG K)=some (.lst ((K.take 3).map dH)):=by
 show some (PV.lst (fJ (K.map dH) none (some ((3:Nat):Int))))=_;rw[pq,lH]
theorem pC{K:List Ky}{h:List ah}:GF h (some 3) none (dG K)=some (.lst ((K.drop 3).map dH)):=by
 show some (PV.lst (fJ (K.map dH) (some ((3:Nat):Int)) none))=_;rw[wt,nG]
theorem OK(P:List Fd):aT (P.map c7)=true:=hJ KR P
theorem K3{S:Sc}(hK:jq S.K){q:Ky}(hq:q∈S.K){r:j3}(h:X4 r=some q.2):tkB S q.1 r=true:=by
 have:aW S.K q.1=some q.2:=jf hK.d hq;cases r with
 | aN=>cases h
 | own s=>cases h2:q.2<;>rw[h2]at h<;>cases h;unfold tkB;rw[this,h2];exact aG rfl
 | jk w s l=>cases h2:q.2<;>rw[h2]at h<;>cases h;unfold tkB;rw[this,h2];exact aG rfl
theorem JU(k:Nat)(N:Nat->Str){K:List Ky}(hK:jq K)(m:Int):∃res x,(res=.aN\/res=.own .nu\/res=.jk false .tw [])/\(∀S:Sc,S.K=K->tkB S x res=true)/\run aS (k+2) "_law_heads" [je N,dG K,.int m] []=some (.ok (.lst ((jg N K res (bG x)).map c7)),[]):=by
 have OA:∀h,fw h (je N) (.int 10)=some (.str (N 10)):=λh=>pw (i:=10) (by decide)
 have S2:∀h,fw h (je N) (.int 11)=some (.str (N 11)):=λh=>pw (i:=11) (by decide)
 have e1:=λk=>Gq k N
 have e2:gZ [⟨.lst,[F1 N,F2 N,F3 N,F4 N].map c7⟩] (.ref 0)=some (.lst ([F1 N,F2 N,F3 N,F4 N].map c7)):=gF (OK _);have e3:∀h,fT h (.int m) (.int 3)=some (.int (m%3)):=λh=>hV (by decide)
 have e5:(K.map dH).length<=4000000:=by rw[ak,hK.l];decide
 have hr:m%3=0\/m%3=1\/m%3=2:=by lia
 rcases hr with hr | hr | hr
 ·refine⟨.aN,"",.inl rfl,λS _=>rfl,?_⟩
  rw[jZ];simp only[↓aF,e3,hr,e1,e2,OA,S2,pB,pC];rfl
 ·obtain⟨q,hq,T4,eq⟩:=yX hK.u;refine⟨.own .nu,q.1,.inr (.inl rfl),λS hS=>K3 (hS▸hK) (hS▸hq) (by rw[T4];rfl),?_⟩
  have e4:∀k,run aS (k+1) "_law_back" [pN] []=some (.ok (c6 (.ow .nu)),[]):=λk=>i7 k (.own .nu) rfl
  rw[jZ];simp only[↓aF,e3,hr,e1,e2,e4,e5,qh,eq,OA,S2,pB,pC];rfl
 ·obtain⟨q,hq,T4,eq⟩:=yX hK.h;refine⟨.jk false .tw [],q.1,.inr (.inr rfl),λS hS=>K3 (hS▸hK) (hS▸hq) (by rw[T4];rfl),?_⟩
  have e4:∀k,run aS (k+1) "_law_back" [.aq [.str "lent",pT,.aq []]] []=some (.ok (c6 (.ho false .tw)),[]):=λk=>i7 k (.jk false .tw []) rfl
  rw[jZ];simp only[↓aF,e3,hr,e1,e2,e4,e5,qh,eq,OA,S2,pB,pC];rfl
theorem K4(N:Nat->Str):noRef (je N)=true:=m4 _
theorem K5(K:List Ky):noRef (dG K)=true:=hJ KP _
theorem j6(i:Int):noRef (.int i)=true:=rfl
theorem g7{h:List ah}{p:PV}(hp:noRef p=true):gZ h p=some p:=by
 unfold gZ;split
 ·rfl
 ·unfold kL;rw[if_pos hp]
theorem rK(c:CT)(N:Nat->Str)(K:List Ky)(hc:∀d m,∃x,c "_law_name" [je N,dG K,c6 d,.int m] []=some (.ok (.str x),[])){x2 x3 x4 x5 x6 x7 x8:Option PV}:∀(ps:List Ky) (as:List Str) (m:Int) (S3 S4:Option PV),as.length+ps.length<=1000->∃(OL:List Str) (m':Int) (WL WM:Option PV),OL.length<=as.length+ps.length/\eY (pU 2 (fZ (di 11) (fZ (di 12) td))) (ju c) (ps.map dH) ⟨[some (je N),some (dG K),x2,x3,x4,x5,x6,x7,x8,some (.ref 0),some (.int m),S3,S4],[⟨.lst,as.map .str⟩]⟩=some (.ok .nx,⟨[some (je N),some (dG K),x2,x3,x4,x5,x6,x7,x8,some (.ref 0),some (.int m'),WL,WM],[⟨.lst,OL.map .str⟩]⟩)
 | [],as,m,S3,S4,_=>⟨as,m,S3,S4,by simp,rfl⟩
 | q::ps,as,m,S3,S4,hl=>by
  rw[cF]at hl;obtain⟨x,hx⟩:=hc q.2 m;obtain⟨OL,m',y11,y12,h1,h2⟩:=rK c N K hc (x2:=x2) (x3:=x3) (x4:=x4) (x5:=x5) (x6:=x6) (x7:=x7) (x8:=x8) ps (as++[x]) (m/52) (some (.str q.1)) (some (c6 q.2)) (by simp;lia)
  refine⟨OL,m',y11,y12,by simp at h1;rw[cF];lia,?_⟩
  have e1:=λρ v=>@JL ρ (as.map .str) v (by rw[ak];lia)
  simp only[dN,aO,eW]at h2;rw[aO];refine dE ?_;simp only[↓ph,hx,aT,uo,K4,K5,j6,e1,h2]
theorem WN(l:List Str):∃l':List Str,l'.length<=l.length/\fJ (l.map .str) none (some (-1))=l'.map .str:=by
 refine⟨(l.drop (HT.cL l.length 0 none)).take (HT.cL l.length l.length (some (-1))-HT.cL l.length 0 none),by simp;lia,?_⟩
 unfold fJ;rw[ak,lH,nG]
theorem zd(k:Nat)(N:Nat->Str){K:List Ky}(hK:jq K)(P:List Fd)(h6:P.length=6)(hP:∀F∈P,F.ps.length<=900)(c0 c1 c2 c3:Int):∃(r:Rw) (h':List ah),qj r/\run aS (k+2) "_law_call_row" [je N,dG K,.lst (P.map c7),.lst [.int c0,.int c1,.int c2,.int c3]] []=some (.ok (fP r),h'):=by
 obtain⟨F,hF,eF⟩:=pick c7 P c0 (by lia)
 rw[h6]at eF;have eF:∀h,fw h (.lst (P.map c7)) (.int (c0%6))=some (c7 F):=eF
 obtain⟨as,m',S3,S4,hl,mz⟩:=rK (run aS (k+1)) N K (λd m=>pz k N hK (c6 d) (λe=>decide (e=d)) (λh e=>qh) m) (x2:=some (.lst (P.map c7))) (x3:=some (.lst [.int c0,.int c1,.int c2,.int c3])) (x4:=some (.str F.nm)) (x5:=some (.aq (F.ps.map dH))) (x6:=some (g8 F.res)) (x7:=some (.aq (F.ls.map dH))) (x8:=some (.aq (F.rw.map fP))) F.ps [] c1 none none (by have:=hP F hF;simp;lia)
 delta ju q9 at mz
 rw[eW]at mz;have hl:as.length<=900:=by have:=hP F hF;simp at hl;lia
 obtain⟨OL,hl',ec⟩:=WN as;obtain⟨z,hz,ez⟩:∃z:Nat,c2/8%10=(z:Int)/\z<16:=⟨(c2/8%10).toNat,by lia,by lia⟩
 have e1:∀h,fw h (je N) (.int (c2/8%10))=some (.str (N z)):=λh=>by rw[hz];exact pw ez
 have e2:∀h,fT h (.int c2) (.int 8)=some (.int (c2%8)):=λh=>hV (by decide)
 have e3:∀h,fT h (.int (c2/8)) (.int 8)=some (.int (c2/8%8)):=λh=>hV (by decide)
 have e4:=λρ v=>@JL ρ (as.map .str) v (by rw[ak];lia)
 have e5:∀h,fT h (.int c3) (.int 4)=some (.int (c3%4)):=λh=>hV (by decide)
 have hb:∃(q:PV) (g:Kn->Bool),noRef q=true/\(∀h d,lS h (c6 d) q=some (.bl (g d)))/\run aS (k+1) "_law_back" [g8 F.res] []=some (.ok q,[])/\∃b,(∀h,HX h (g8 F.res) .aN=some (.bl b)):=by
  cases hr:F.res with
  | aN=>exact⟨.aN,λd=>eqT (B7 d) .aN,rfl,λh d=>(by
    show((toT h cf (c6 d)).bind λx=>(toT h cf .aN).map λy=>eqT x y).map _=_
    rw[toT_K];rfl),(by kernel_rfl),true,λh=>rfl⟩
  | own s=>exact⟨c6 (.ow s),λd=>decide (d=.ow s),uo _,λh d=>qh,i7 k (.own s) rfl,false,λh=>bP⟩
  | jk w s l=>exact⟨c6 (.ho w s),λd=>decide (d=.ho w s),uo _,λh d=>qh,i7 k (.jk w s l) rfl,false,λh=>rfl⟩
 obtain⟨q,g,nq,hg,e6,b,e7⟩:=hb;obtain⟨y,ey⟩:=pz k N hK q g hg (c3/4);have n1:=K4 N;have n2:=K5 K;have n3:=F7 F.res;have OM:∀(JV:List Str) (R:Option (Rs PV×List ah)),JV.length<=1000->(∃f h2,R=some (Rs.ok (PV.aq [.str "call",.str "",.str f,.aq (JV.map .str)]),h2))->∃(r:Rw) (h':List ah),qj r/\R=some (.ok (fP r),h'):=by
  rintro JV R hl ⟨f,h2,rfl⟩
  exact⟨.call "" f JV,h2,hl,rfl⟩
 have ON:∀(JV:List Str) (R:Option (Rs PV×List ah)),JV.length<=1000->(∃f h2,R=some (Rs.ok (PV.aq [.str "call",.str y,.str f,.aq (JV.map .str)]),h2))->∃(r:Rw) (h':List ah),qj r/\R=some (.ok (fP r),h'):=by
  rintro JV R hl ⟨f,h2,rfl⟩
  exact⟨.call y f JV,h2,hl,rfl⟩
 rw[qg];have h2:c2%8=0\/c2%8=1\/((c2%8==0)=false/\(c2%8==1)=false):=by
  by_cases h0:c2%8=0
  ·exact .inl h0
  ·by_cases h1:c2%8=1
   ·exact .inr (.inl h1)
   ·exact .inr (.inr ⟨bW.mpr h0,bW.mpr h1⟩)
 rcases h2 with h2 | h2 | ⟨h2,X7⟩
 ·cases h3:(c2/8%8==1)<;>cases b<;>cases h4:decide (c3%4>0)<;>first
   | exact ON OL _ (by lia) ⟨_,_,by simp only[↓aF,eF,mz,e1,e2,e3,e5,e6,e7,l8,h2,h3,h4,ey,ec,n1,n2,n3,j6,nq,aT,g7];rfl⟩
   | exact OM OL _ (by lia) ⟨_,_,by simp only[↓aF,eF,mz,e1,e2,e3,e5,e6,e7,l8,h2,h3,h4,ey,ec,n1,n2,n3,j6,nq,aT,g7];rfl⟩
 ·cases h3:(c2/8%8==1)<;>cases b<;>cases h4:decide (c3%4>0)<;>first
   | exact ON (as++[N z]) _ (by simp;lia) ⟨_,_,by simp only[↓aF,eF,mz,e1,e2,e3,e4,e5,e6,e7,l8,h2,h3,h4,ey,n1,n2,n3,j6,nq,aT,g7,dN];rfl⟩
   | exact OM (as++[N z]) _ (by simp;lia) ⟨_,_,by simp only[↓aF,eF,mz,e1,e2,e3,e4,e5,e6,e7,l8,h2,h3,h4,ey,n1,n2,n3,j6,nq,aT,g7,dN];rfl⟩
 ·cases h3:(c2/8%8==1)<;>cases b<;>cases h4:decide (c3%4>0)<;>first
   | exact ON as _ (by lia) ⟨_,_,by simp only[↓aF,eF,mz,e1,e2,e3,e5,e6,e7,l8,h2,X7,h3,h4,ey,n1,n2,n3,j6,nq,aT,g7];rfl⟩
   | exact OM as _ (by lia) ⟨_,_,by simp only[↓aF,eF,mz,e1,e2,e3,e5,e6,e7,l8,h2,X7,h3,h4,ey,n1,n2,n3,j6,nq,aT,g7];rfl⟩
theorem WO{h:List ah}{q:PV}{t:Tr}(hq:∀h,toT h cf q=some t)(d:Kn):lS h (c6 d) q=some (.bl (eqT (B7 d) t)):=by
 show((toT h cf (c6 d)).bind λx=>(toT h cf q).map λy=>eqT x y).map _=_
 rw[toT_K,hq];rfl
def OO:Option Sx->Tr
 | none=>.aN
 | some s=>FH s
theorem toT_lo{h:List ah}{w:Bool}{o:Option Sx}:toT h cf (.aq [.str (CD w),Gd o])=some (.aq [.str (CD w),OO o]):=by
 cases o with
 | none=>rfl
 | some s=>cases s<;>rfl
theorem Gs(k:Nat)(r:j3):∃(q:PV) (g:Kn->Bool),noRef q=true/\(∀h d,lS h (c6 d) q=some (.bl (g d)))/\run aS (k+1) "_law_back" [g8 r] []=some (.ok q,[]):=by
 cases r with
 | aN=>exact⟨.aN,λd=>eqT (B7 d) .aN,rfl,λh d=>WO (t:=.aN) (λ_=>rfl) d,(by kernel_rfl)⟩
 | own s=>exact⟨c6 (.ow s),λd=>decide (d=.ow s),uo _,λh d=>qh,i7 k (.own s) rfl⟩
 | jk w s l=>exact⟨c6 (.ho w s),λd=>decide (d=.ho w s),uo _,λh d=>qh,i7 k (.jk w s l) rfl⟩
theorem ij{h:List ah}{z:Zt}:fw h (hW z) (.int 1)=some (cK z.2.2.2):=rfl
theorem rL{h:List ah}{o:Option Sx}{i:Sx}:lS h (cK i) (Gd o)=some (.bl (decide (o=some i))):=by
 cases o with
 | none=>cases i<;>rfl
 | some s =>
  show lS h (cK i) (cK s)=_;rw[FK]
  congr 2
  rw[dO,dr,dr];exact⟨λe=>by rw[e],λe=>(bt e).symm⟩
theorem toT_se{h:List ah}(z:Zt):∃t,toT h 999 (hW z)=some t:=by
 have e:∃t,toT h 998 (.aq [.str z.1.1,.bl (kd z.1.2),GI z.2.1,.aN])=some t:=by
  rw[o9];refine⟨.aq [.str z.1.1,.bl (kd z.1.2),.aq ((ie z.2.1).map .int),.aN],?_⟩;show(((some (Tr.str z.1.1)).bind λy=>(((some (Tr.bl (kd z.1.2))).bind λy=>((((bj (toT h 996) ((ie z.2.1).map .int)).bind (yf .aq)).bind λy=>(((some Tr.aN).bind λy=>(some []).map λys=>y::ys)).map λys=>y::ys)).map λys=>y::ys)).map λys=>y::ys)).bind (yf .aq)=_
  rw[toT_ints];rfl
 have e2:∃t,toT h 998 (cK z.2.2.2)=some t:=by cases z.2.2.2<;>exact⟨_,rfl⟩
 obtain⟨t,ht⟩:=e;obtain⟨u,hu⟩:=e2;refine⟨.aq [t,u,.str (w0 z.1.2)],?_⟩;show(((toT h 998 (.aq [.str z.1.1,.bl (kd z.1.2),GI z.2.1,.aN])).bind λy=>(((toT h 998 (cK z.2.2.2)).bind λy=>(((some (Tr.str (w0 z.1.2))).bind λy=>(some []).map λys=>y::ys)).map λys=>y::ys)).map λys=>y::ys)).bind (yf .aq)=_
 rw[ht,hu];rfl
theorem toT_ses{h:List ah}:∀L:List Zt,∃ts,bj (toT h 999) (L.map hW)=some ts/\(L≠[]->ts≠[])
 | []=>⟨[],rfl,λh=>absurd rfl h⟩
 | z::L=>by
  obtain⟨t,ht⟩:=toT_se (h:=h) z;obtain⟨ts,Wv,_⟩:=toT_ses (h:=h) L;refine⟨t::ts,?_,λ_=>by simp⟩
  show(toT h 999 (hW z)).bind (λy=>(bj (toT h 999) (L.map hW)).map λys=>y::ys)=_
  rw[ht,Wv];rfl
theorem OP{h:List ah}{L:List Zt}:yg h (.lst (L.map hW)) (.lst [])=some (.bl (!L.isEmpty)):=by
 obtain⟨ts,h1,h2⟩:=toT_ses (h:=h) L;show((((bj (toT h 999) (L.map hW)).bind (yf .lst)).bind λx=>((bj (toT h 999) []).bind (yf .lst)).map λy=>eqT x y).map λb=>PV.bl (!b))=_
 rw[h1];cases L with
 | nil =>
  have:ts=[]:=by
   have:bj (toT h 999) (([]:List Zt).map hW)=some []:=rfl;rw[h1]at this;exact bt this
  subst this;rfl
 | cons z L =>
  cases ts with
  | nil=>exact absurd rfl (h2 (by simp))
  | cons t ts=>rfl
theorem AJ{K:List Ky}(hK:jq K):0<(ir K).length:=by
 obtain⟨z,h1,_⟩:=yZ hK;exact wX h1
theorem me{K:List Ky}(hK:jq K):(ir K).length<=1000:=by
 have:=AE K;rw[hK.l]at this
 lia
def zf:Fin 5->Str
 | 0=>"copy"
 | 1=>"move"
 | 2=>"drop"
 | 3=>"lend"
 | 4=>"sole"
theorem eQ(k:Nat)(N:Nat->Str){K:List Ky}(hK:jq K)(w:Fin 5)(c0 c1 c2 c3:Int):∃r:Rw,qj r/\run aS (k+11) "_law_thing_row" [je N,dG K,.str (zf w),.lst [.int c0,.int c1,.int c2,.int c3]] []=some (.ok (fP r),[]):=by
 obtain⟨s,hs,es⟩:=px (k+8) N hK (ir K) (AJ hK) (me hK) (λz h=>h) c0
 obtain⟨S,hS⟩:∃S:Sc,S=⟨K,.aN,0,[]⟩:=⟨_,rfl⟩
 have e1:=λk=>uu k hK
 have e2:gZ [⟨.lst,(ir K).map hW⟩] (.ref 0)=some (.lst ((ir K).map hW)):=gF (yY _);obtain⟨o,ho⟩:∃o,∀k,run aS (k+2) "_law_shape_at" [dG K,dn s] []=some (.ok (Gd o),[]):=⟨uB S s,λk=>by have:=dz k (S:=S) (by rw[hS];exact hK) s;rw[hS]at this ⊢;exact this⟩
 have e3:((ir K).map hW).length<=4000000:=by rw[ak];have:=me hK;lia
 have e4:∀h,fT h (.int c1) (.int 4)=some (.int (c1%4)):=λh=>hV (by decide)
 obtain⟨L,hL⟩:∃L,L=(ir K).filter λz=>decide (o=some z.2.2.2):=⟨_,rfl⟩
 have fU:∀L':List Zt,L'=ir K\/(L'=L/\L.isEmpty=false)->∃t,FT t/\run aS (k+10) "_law_spot" [je N,dG K,.lst (L'.map hW),.int (c1/4)] []=some (.ok (dn t),[]):=by
  rintro L' (rfl | ⟨rfl,h2⟩)
  ·exact px (k+8) N hK (ir K) (AJ hK) (me hK) (λz h=>h) (c1/4)
  ·refine px (k+8) N hK L' (by cases L' with | nil=>cases h2 | cons=>simp) ?_ ?_ (c1/4)
   ·rw[hL];exact aD (nc _ _) (me hK)
   ·intro z hz;rw[hL]at hz;exact(fD.mp hz).1
 have ne:∀h,yg h (.lst (((ir K).filter λz=>decide (o=some z.2.2.2)).map hW)) (.lst [])=some (.bl (!L.isEmpty)):=λh=>by rw[hL];exact OP
 rw[o6];rcases w with⟨_ | _ | _ | _ | _ | w,hw⟩
 case succ.succ.succ.succ.succ=>lia
 ·cases hb:(!L.isEmpty&&decide (c1%4>0))
  ·obtain⟨t,ht,et⟩:=fU _ (.inl rfl);refine⟨.fU t s,⟨ht,hs⟩,?_⟩;cases hl:L.isEmpty
   ·rw[hl]at hb ne;rw[sF,bz]at hb;simp only[↓aF,zf,e1,e2,es,ho,e3,ij,rL,ne,e4,hb,et];rfl
   ·rw[hl]at ne;simp only[↓aF,zf,e1,e2,es,ho,e3,ij,rL,ne,e4,et];rfl
  ·obtain⟨h1,h2⟩:=(aC _ _).mp hb;have h1:L.isEmpty=false:=by simpa using h1
   obtain⟨t,ht,et⟩:=fU L (.inr ⟨rfl,h1⟩);rw[hL]at et;rw[h1]at ne;refine⟨.fU t s,⟨ht,hs⟩,?_⟩;simp only[↓aF,zf,e1,e2,es,ho,e3,ij,rL,ne,e4,h2,et];rfl
 ·cases hb:(!L.isEmpty&&decide (c1%4>0))
  ·obtain⟨t,ht,et⟩:=fU _ (.inl rfl);refine⟨.i5 t s,⟨ht,hs⟩,?_⟩;cases hl:L.isEmpty
   ·rw[hl]at hb ne;rw[sF,bz]at hb;simp only[↓aF,zf,e1,e2,es,ho,e3,ij,rL,ne,e4,hb,et];rfl
   ·rw[hl]at ne;simp only[↓aF,zf,e1,e2,es,ho,e3,ij,rL,ne,e4,et];rfl
  ·obtain⟨h1,h2⟩:=(aC _ _).mp hb;have h1:L.isEmpty=false:=by simpa using h1
   obtain⟨t,ht,et⟩:=fU L (.inr ⟨rfl,h1⟩);rw[hL]at et;rw[h1]at ne;refine⟨.i5 t s,⟨ht,hs⟩,?_⟩;simp only[↓aF,zf,e1,e2,es,ho,e3,ij,rL,ne,e4,h2,et];rfl
 ·refine⟨.drop s,hs,?_⟩;simp only[↓aF,zf,e1,e2,es,ho];rfl
 ·obtain⟨x,hx⟩:=pz (k+9) N hK (.aq [.str "lent",Gd o]) (λd=>eqT (B7 d) (.aq [.str "lent",OO o])) (λh d=>WO (λh=>toT_lo (w:=false)) d) c1
  refine⟨.fV false x s,hs,?_⟩;simp only[↓aF,zf,e1,e2,es,ho,hx];rfl
 ·obtain⟨x,hx⟩:=pz (k+9) N hK (.aq [.str "sole",Gd o]) (λd=>eqT (B7 d) (.aq [.str "sole",OO o])) (λh d=>WO (λh=>toT_lo (w:=true)) d) c1
  refine⟨.fV true x s,hs,?_⟩;simp only[↓aF,zf,e1,e2,es,ho,hx];rfl
theorem Gu{N:Nat->Str}{K:List Ky}{res:j3}{R:List Rw}:∀F∈jg N K res R,F.ps.length<=900:=by
 intro F hF;simp only[jg,aX,bH,bJ]at hF;rcases hF with rfl | rfl | rfl | rfl | rfl | rfl
 case inr.inr.inr.inr.inr =>
  show(K.take 3).length<=900;rw[lA]
  lia
 all_goals exact bF rfl
theorem Gv{N:Nat->Str}{K:List Ky}{res:j3}{R:List Rw}{h:List ah}:fw h (.lst ((jg N K res R).map c7)) (.int 5)=some (c7 (FL N K res R)):=by
 have e:((jg N K res R).map c7)[5]?=some (c7 (FL N K res R)):=rfl;exact atI_nat (j:=5) e
theorem WQ(x:Int):∃g:Fin 3,∀h,fw h (.str "+-*") (.int (x%3))=some (.str (X3 g)):=by
 have hr:x%3=0\/x%3=1\/x%3=2:=by lia
 rcases hr with hr | hr | hr<;>rw[hr]
 ·exact⟨0,λh=>by kernel_rfl⟩
 ·exact⟨1,λh=>by kernel_rfl⟩
 ·exact⟨2,λh=>by kernel_rfl⟩
theorem Cy(k:Nat)(N:Nat->Str){K:List Ky}(hK:jq K)(res:j3)(R:List Rw)(C:Int):∃r:Rw,qj r/\run aS (k+13) "_law_any_row" [je N,dG K,.lst ((jg N K res R).map c7),.int C] []=some (.ok (fP r),[]):=by
 have em:=λk=>JQ k C
 obtain⟨c0,h0⟩:∃c,c=C*48271%2147483647:=⟨_,rfl⟩
 obtain⟨c1,h1⟩:∃c,c=C*69621%2147483629:=⟨_,rfl⟩
 obtain⟨c2,h2⟩:∃c,c=C*16807%2147483587:=⟨_,rfl⟩
 obtain⟨c3,h3⟩:∃c,c=C*39373%2147483579:=⟨_,rfl⟩
 rw[<-h0,<-h1,<-h2,<-h3]at em;obtain⟨L,hL⟩:∃L,L=(ir K).filter λz=>wz z.2.2.2:=⟨_,rfl⟩
 have l0:0<L.length:=by
  obtain⟨z,h1,h2⟩:=yZ hK;rw[hL];exact wX (fD.mpr ⟨h1,h2⟩)
 have l1:L.length<=1000:=by rw[hL];exact aD (nc _ _) (me hK)
 obtain⟨s,hs,es⟩:=px (k+10) N hK L l0 l1 (λz hz=>by rw[hL]at hz;exact(fD.mp hz).1) c0
 rw[hL]at es;obtain⟨a,ha,ea⟩:=rG (k+1) N hK c1 C;obtain⟨b,hb,eb⟩:=rG (k+1) N hK c2 (C+1);have e1:=λk=>uu k hK
 have e2:gZ [⟨.lst,(ir K).map hW⟩] (.ref 0)=some (.lst ((ir K).map hW)):=gF (yY _);have e3:((ir K).map hW).length<=4000000:=by rw[ak];have:=me hK;lia
 obtain⟨to,_,K6⟩:=pick PV.int [0,1,2,3,-1,10^30,C%3,C%9-3] c3 (by simp)
 have K6:∀h,fw h (.lst [.int 0,.int 1,.int 2,.int 3,.int (-1),.int (10^30),.int (C%3),.int (C%9-3)]) (.int (c3%8))=some (.int to):=K6
 have e4:∀h,Bh h (.int 10) (.int 30)=some (.int (10^30)):=λh=>by kernel_rfl
 obtain⟨g,eg⟩:=WQ c3;obtain⟨rc,hc,lc,ec⟩:=zd (k+10) N hK (jg N K res R) rfl Gu c0 c1 c2 c3;have ew:=g7 (h:=hc) (KQ rc);obtain⟨q,g',nq,hg,S5⟩:=Gs (k+11) res;obtain⟨x,ex⟩:=pz (k+11) N hK q g' hg c0;have wJ:∀h,fT h (.int C) (.int 14)=some (.int (C%14)):=λh=>hV (by decide)
 have e8:∀h,fT h (.int c3) (.int 8)=some (.int (c3%8)):=λh=>hV (by decide)
 have e33:∀h,fT h (.int c3) (.int 3)=some (.int (c3%3)):=λh=>hV (by decide)
 have hr:C%14=0\/C%14=1\/C%14=2\/C%14=3\/C%14=4\/C%14=5\/C%14=6\/C%14=7\/C%14=8\/C%14=9\/C%14=10\/C%14=11\/C%14=12\/C%14=13:=by lia
 rw[ue];rcases hr with hr | hr | hr | hr | hr | hr | hr | hr | hr | hr | hr | hr | hr | hr
 ·refine⟨.put s a,⟨hs,ha⟩,?_⟩;simp only[↓aF,em,wJ,hr,e1,e2,e3,ij,fj,dX,es,ea,eb,K6,e4,e8];rfl
 ·refine⟨.set s g a b,⟨hs,ha,hb⟩,?_⟩;simp only[↓aF,em,wJ,hr,e1,e2,e3,ij,fj,dX,es,ea,eb,K6,e4,e8,e33,eg];rfl
 ·refine⟨.fill s a,⟨hs,ha⟩,?_⟩;simp only[↓aF,em,wJ,hr,e1,e2,e3,ij,fj,dX,es,ea,eb,K6,e4,e8];rfl
 ·obtain⟨r,JW,er⟩:=eQ (k+1) N hK 0 c0 c1 c2 c3;refine⟨r,JW,?_⟩;simp only[zf]at er;simp only[↓aF,em,wJ,hr,er]
 ·obtain⟨r,JW,er⟩:=eQ (k+1) N hK 1 c0 c1 c2 c3;refine⟨r,JW,?_⟩;simp only[zf]at er;simp only[↓aF,em,wJ,hr,er]
 ·obtain⟨r,JW,er⟩:=eQ (k+1) N hK 2 c0 c1 c2 c3;refine⟨r,JW,?_⟩;simp only[zf]at er;simp only[↓aF,em,wJ,hr,er]
 ·obtain⟨r,JW,er⟩:=eQ (k+1) N hK 3 c0 c1 c2 c3;refine⟨r,JW,?_⟩;simp only[zf]at er;simp only[↓aF,em,wJ,hr,er]
 ·obtain⟨r,JW,er⟩:=eQ (k+1) N hK 4 c0 c1 c2 c3;refine⟨r,JW,?_⟩;simp only[zf]at er;simp only[↓aF,em,wJ,hr,er]
 ·refine⟨rc,lc,?_⟩;simp only[↓aF,em,wJ,hr,ec,ew]
 ·refine⟨rc,lc,?_⟩;simp only[↓aF,em,wJ,hr,ec,ew]
 ·refine⟨.JD a b to,⟨ha,hb⟩,?_⟩;simp only[↓aF,em,wJ,hr,e1,e2,e3,ij,fj,dX,es,ea,eb,K6,e4,e8];rfl
 ·refine⟨.go to,True.intro,?_⟩;simp only[↓aF,em,wJ,hr,e1,e2,e3,ij,fj,dX,es,ea,eb,K6,e4,e8];rfl
 ·refine⟨.Av a,ha,?_⟩;simp only[↓aF,em,wJ,hr,e1,e2,e3,ij,fj,dX,es,ea,eb,K6,e4,e8];rfl
 ·refine⟨.iq x,True.intro,?_⟩;simp only[↓aF,em,wJ,hr,Gv,show(FL N K res R).res=res from rfl,S5,ex]
  rfl
structure Pm (N:Nat->Str):Prop where
 i:∀i j,i<16->j<16->N i=N j->i=j
 n:∀i,wm (N i)
theorem AK{N:Nat->Str}(hN:Pm N):∀l:List Nat,l.Nodup->(∀i∈l,i<16)->(l.map N).Nodup:=by
 intro l hl hb;rw[CP,List.pairwise_map];refine List.Pairwise.imp_of_mem ?_ (CP.mp hl);intro a b ha iu hab e;exact hab (hN.i a b (hb a ha) (hb b iu) e)
theorem OQ{N:Nat->Str}(hN:Pm N){ks:List Kn}(hl:ks.length=10)(h1:.ow .nu∈ks)(h2:.ho false .tw∈ks):jq ((pH N).zip ks):=by
 have hs:((pH N).zip ks).map (·.2)=ks:=AA _ _ (by rw[hl];exact bF rfl)
 have hf:((pH N).zip ks).map (·.1)=(List.range 10).map N:=by
  rw[Az,hl];rfl
 refine⟨?_,?_,?_,?_,?_⟩
 ·rw[su,hl];rfl
 ·rw[hf];exact AK hN _ (by decide) (by intro i hi;have:=gL.mp hi;lia)
 ·intro q hq;have:q.1∈(List.range 10).map N:=hf▸rW (f:=λq:Ky=>q.1) hq
  obtain⟨i,_,hi⟩:=ee.mp this;rw[<-hi];exact hN.n i
 ·rw[<-hs]at h1;obtain⟨q,hq,e⟩:=ee.mp h1;exact⟨q,hq,e⟩
 ·rw[<-hs]at h2;obtain⟨q,hq,e⟩:=ee.mp h2;exact⟨q,hq,e⟩
theorem S6{N:Nat->Str}(hN:Pm N){K:List Ky}(hK:jq K){res:j3}(hr:res=.aN\/res=.own .nu\/res=.jk false .tw []){R:List Rw}(h1:1<=R.length)(h2:R.length<=32):∀F∈jg N K res R,JJ F:=by
 intro F hF;simp only[jg,aX,bH,bJ]at hF;have n2:∀i j,i<16->j<16->i≠j->N i≠N j:=λi j hi hj h e=>h (hN.i i j hi hj e)
 rcases hF with rfl | rfl | rfl | rfl | rfl | rfl
 ·exact⟨bF rfl,bF rfl,λq hq=>(by cases hq),lF,True.intro,bF rfl,bF rfl⟩
 ·exact⟨bF rfl,bF rfl,λq hq=>(by cases hq),lF,True.intro,bF rfl,bF rfl⟩
 ·refine⟨bF rfl,bF rfl,λq hq=>?_,?_,True.intro,bF rfl,bF rfl⟩
  ·simp[F2]at hq;subst hq;exact hN.n 0
  ·simp[F2]
 ·refine⟨bF rfl,bF rfl,λq hq=>?_,?_,?_,bF rfl,bF rfl⟩
  ·simp[F3]at hq;rcases hq with rfl | rfl<;>exact hN.n _
  ·simp[F3];exact n2 2 1 (by decide) (by decide) (by decide)
  ·show rz _ _;unfold rz WB F3;simp[kd];intro e;exact absurd e (n2 1 2 (by decide) (by decide) (by decide))
 ·refine⟨bF rfl,bF rfl,λq hq=>?_,?_,True.intro,bF rfl,bF rfl⟩
  ·simp[F4]at hq;rcases hq with rfl | rfl<;>exact hN.n _
  ·simp[F4];exact n2 0 1 (by decide) (by decide) (by decide)
 ·have e:K.take 3++K.drop 3=K:=lp 3 K;refine⟨?_,?_,?_,?_,?_,h1,h2⟩
  ·show(K.take 3).length<=4;rw[lA];lia
  ·show(K.drop 3).length<=8;rw[xp,hK.l];decide
  ·show ∀q∈K.take 3++K.drop 3,_;rw[e];exact hK.n
  ·show((K.take 3++K.drop 3).map (·.1)).Nodup;rw[e];exact hK.d
  ·rcases hr with rfl | rfl | rfl
   ·exact True.intro
   ·exact True.intro
   ·show rz _ [];unfold rz;simp
theorem S7{N:Nat->Str}(hN:Pm N){K:List Ky}(hK:jq K){res:j3}(hr:res=.aN\/res=.own .nu\/res=.jk false .tw []){r:Rw}(hl:qj r)(x:Str):BX (jg N K res (r::bG x)):=by
 refine⟨bF rfl,bF rfl,S6 hN hK hr (by simp[bG]) (by simp[bG]),?_,?_,?_,?_⟩
 ·intro F hF;simp only[jg,aX,bH,bJ]at hF;rcases hF with rfl | rfl | rfl | rfl | rfl | rfl<;>exact hN.n _
 ·exact AK hN [10,12,13,14,15,11] (by decide) (by decide)
 ·intro F hF;cases hF;exact⟨rfl,λq hq=>by cases hq⟩
 ·intro F hF;simp only[jg,aX,bH,bJ]at hF;rcases hF with rfl | rfl | rfl | rfl | rfl | rfl
  case inr.inr.inr.inr.inr =>
   refine⟨?_,.iq x,rfl,rfl⟩;intro s hs;simp only[FL,bG,aX,bH,bJ]at hs;rcases hs with rfl | rfl | rfl
   ·exact hl
   ·exact True.intro
   ·exact True.intro
  all_goals
   refine⟨?_,_,rfl,rfl⟩;intro s hs;simp only[F0,F1,F2,F3,F4,aX,bH,bJ]at hs;subst hs;exact True.intro
theorem OR{N:Nat->Str}{K:List Ky}{res:j3}{r:Rw}{x:Str}(hx:∀S:Sc,S.K=K->tkB S x res=true):WC (jg N K res (r::bG x))=cg (mx (jg N K res (r::bG x)) (FL N K res (r::bG x))) r:=by
 suffices go:∀P:List Fd,(jg N K res (r::bG x)).all (λF=>F.rw.all (cg (mx P F)))=cg (mx P (FL N K res (r::bG x))) r from go _
 intro P;unfold jg;have e:(mx P (FL N K res (r::bG x))).K=K:=lp 3 K;have h5:=hx (mx P (FL N K res (r::bG x))) e;have a0:(F0 N).rw.all (cg (mx P (F0 N)))=true:=rfl;have a1:(F1 N).rw.all (cg (mx P (F1 N)))=true:=rfl;have a2:(F2 N).rw.all (cg (mx P (F2 N)))=true:=by
  simp[F2,cg,mx,tkB,aW]
 have a3:(F3 N).rw.all (cg (mx P (F3 N)))=true:=by
  simp[F3,cg,mx,tkB,aW]
 have a4:(F4 N).rw.all (cg (mx P (F4 N)))=true:=rfl;have a5:(FL N K res (r::bG x)).rw.all (cg (mx P (FL N K res (r::bG x))))=cg (mx P (FL N K res (r::bG x))) r:=by
  show(cg _ r&&(cg (mx P (FL N K res (r::bG x))) (.Av (.n 5))&&(tkB (mx P (FL N K res (r::bG x))) x res&&true)))=_;rw[h5,show cg (mx P (FL N K res (r::bG x))) (.Av (.n 5))=true from rfl,eV,eV,eV]
 simp only[fE,List.all_nil,a0,a1,a2,a3,a4,a5,bz,eV]
theorem OS{N:Nat->Str}{K:List Ky}(hK:jq K){res:j3}{r:Rw}{x:Str}:K2 (mx (jg N K res (r::bG x)) (FL N K res (r::bG x))) (jg N K res (bG x)):=by
 have e:(mx (jg N K res (r::bG x)) (FL N K res (r::bG x))).K=K:=lp 3 K;refine⟨by rw[e];exact hK,λF hF=>aD (Gu F hF) (by decide),?_,rfl,⟨FL N K res (bG x),rfl,rfl⟩⟩
 intro f;show OH (lb _ f)=Gp (eP ((jg N K res (r::bG x)).map wI) f);unfold jg;simp only[lb,eP,aO,eW];by_cases h0:(F0 N).nm=f
 ·rw[if_pos h0,if_pos (show(wI (F0 N)).nm=f from h0)];rfl
 rw[if_neg h0,if_neg (show ¬(wI (F0 N)).nm=f from h0)]
 by_cases h1:(F1 N).nm=f
 ·rw[if_pos h1,if_pos (show(wI (F1 N)).nm=f from h1)];rfl
 rw[if_neg h1,if_neg (show ¬(wI (F1 N)).nm=f from h1)]
 by_cases h2:(F2 N).nm=f
 ·rw[if_pos h2,if_pos (show(wI (F2 N)).nm=f from h2)];rfl
 rw[if_neg h2,if_neg (show ¬(wI (F2 N)).nm=f from h2)]
 by_cases h3:(F3 N).nm=f
 ·rw[if_pos h3,if_pos (show(wI (F3 N)).nm=f from h3)];rfl
 rw[if_neg h3,if_neg (show ¬(wI (F3 N)).nm=f from h3)]
 by_cases h4:(F4 N).nm=f
 ·rw[if_pos h4,if_pos (show(wI (F4 N)).nm=f from h4)];rfl
 rw[if_neg h4,if_neg (show ¬(wI (F4 N)).nm=f from h4)]
 by_cases h5:N 11=f
 ·rw[if_pos (show(FL N K res (bG x)).nm=f from h5),if_pos (show(wI (FL N K res (r::bG x))).nm=f from h5)];rfl
 ·rw[if_neg (show ¬(FL N K res (bG x)).nm=f from h5),if_neg (show ¬(wI (FL N K res (r::bG x))).nm=f from h5)];rfl
theorem OT{h:List ah}{l:List PV}:D2 h [.lst l]=some (.aq l):=rfl
theorem sl5{N:Nat->Str}{K:List Ky}{res:j3}{R:List Rw}{h:List ah}:GF h none (some 5) (.lst ((jg N K res R).map c7))=some (.lst [c7 (F0 N),c7 (F1 N),c7 (F2 N),c7 (F3 N),c7 (F4 N)]):=by
 show some (PV.lst (fJ ((jg N K res R).map c7) none (some ((5:Nat):Int))))=_;rw[pq];rfl
theorem sl4{N:Nat->Str}{K:List Ky}{res:j3}{R:List Rw}{h:List ah}:GF h none (some 4) (c7 (FL N K res R))=some (.aq [.str (N 11),.aq ((K.take 3).map dH),g8 res,.aq ((K.drop 3).map dH)]):=by
 show some (PV.aq (fJ [.str (N 11),.aq ((K.take 3).map dH),g8 res,.aq ((K.drop 3).map dH),.aq (R.map fP)] none (some ((4:Nat):Int))))=_;rw[pq];rfl
theorem wC(k:Nat){N:Nat->Str}(hN:Pm N){K:List Ky}(hK:jq K){res:j3}(hr:res=.aN\/res=.own .nu\/res=.jk false .tw []){x:Str}(hx:∀S:Sc,S.K=K->tkB S x res=true){x0 x2:Option PV}:∀(ms:List Int) (x5 x6 x7 x8 x9:Option PV),∃pF,eY (di 5) (Ap (run aS (k+20))) (ms.map .int) ⟨[x0,some (je N),x2,some (dG K),some (.lst ((jg N K res (bG x)).map c7)),x5,x6,x7,x8,x9],[]⟩=some (.ok .nx,⟨pF,[]⟩)
 | [],x5,x6,x7,x8,x9=>⟨_,rfl⟩
 | m::ms,x5,x6,x7,x8,x9=>by
  obtain⟨r,hl,er⟩:=Cy (k+7) N hK res (bG x) m;obtain⟨P,hP⟩:∃P,P=jg N K res (r::bG x):=⟨_,rfl⟩
  have e1:=yU (k+3) (S7 hN hK hr hl x);rw[OR hx]at e1;have e2:=OJ (k+7) (OS (N:=N) hK (res:=res) (r:=r) (x:=x)) r hl;have eK:(mx (jg N K res (r::bG x)) (FL N K res (r::bG x))).K=K:=lp 3 K;rw[eK]at e2
  generalize cg (mx (jg N K res (r::bG x)) (FL N K res (r::bG x))) r=b at e1 e2
  have e1:run aS (k+20) "is_right" [.aq [c7 (F0 N),c7 (F1 N),c7 (F2 N),c7 (F3 N),c7 (F4 N),.aq [.str (N 11),.aq ((K.take 3).map dH),g8 res,.aq ((K.drop 3).map dH),.aq [fP r,fP (.Av (.n 5)),fP (.iq x)]]]] []=some (.ok (.bl b),[]):=e1;have e3:∀h,yg h (.bl b) (.bl b)=some (.bl false):=λh=>by rw[FQ,bne_self_eq_false]
  obtain⟨pF,h⟩:=wC k hN hK hr hx (x0:=x0) (x2:=x2) ms (some (.int m)) (some (fP r)) (some (c7 (FL N K res (bG x)))) (some (.aq [c7 (F0 N),c7 (F1 N),c7 (F2 N),c7 (F3 N),c7 (F4 N),.aq [.str (N 11),.aq ((K.take 3).map dH),g8 res,.aq ((K.drop 3).map dH),.aq [fP r,fP (.Av (.n 5)),fP (.iq x)]]])) (some (.bl b));refine⟨pF,?_⟩;rw[aO];refine dE ?_;simp only[↓ph,er,Gv,sl5,sl4,OT,e1,e2,e3,h]
theorem OU{ns:List Int}{h:List ah}:∃ms:List Int,GF h (some 2) (some 40) (FC ns)=some (.lst (ms.map .int)):=by
 refine⟨(ns.drop (HT.cL ns.length 0 (some 2))).take (HT.cL ns.length ns.length (some 40)-HT.cL ns.length 0 (some 2)),?_⟩;show some (PV.lst (fJ (ns.map PV.int) (some 2) (some 40)))=_;unfold fJ;rw[ak,lH,nG]
theorem Gw(ns:List Int)(h:ns.length<=63):TZ (run aS 30 "law" [FC ns] []):=by
 obtain⟨N,hN1,hN2,e1⟩:=JP 28 (cell ns 0);have hN:Pm N:=⟨hN1,hN2⟩;obtain⟨m,hm⟩:∃m,m=cell ns 1*48271%2147483647:=⟨_,rfl⟩
 obtain⟨ks,h',k1,k2,k3,e2⟩:=SS 28 m;obtain⟨K,X8⟩:∃K,K=(pH N).zip ks:=⟨_,rfl⟩
 have hK:jq K:=by rw[X8];exact OQ hN k1 k2 k3
 obtain⟨res,x,hr,hx,e3⟩:=JU 27 N hK (m/320);obtain⟨ms,e4⟩:=OU (ns:=ns) (h:=[]);obtain⟨pF,e5⟩:=wC 9 hN hK hr hx (x0:=some (FC ns)) (x2:=some (.int m)) ms none none none none none
 delta Ap q9 at e5
 have e6:run aS 29 "_law_cell_at" [FC ns,.int 0] []=some (.ok (.int (cell ns 0)),[]):=Ga 28 ns 0;have e7:run aS 29 "_law_cell_at" [FC ns,.int 1] []=some (.ok (.int (cell ns 1)),[]):=Ga 28 ns 1;have e8:∀h,l4 h (.int (cell ns 1)) (.int 48271)=some (.int (cell ns 1*48271)):=λh=>KS (.inr (by decide))
 have e9:∀h,fT h (.int (cell ns 1*48271)) (.int 2147483647)=some (.int m):=λh=>by rw[hm];exact hV (by decide)
 have OA:gZ [⟨.lst,(pH N).map .str⟩] (.ref 0)=some (je N):=gF (m4 _);have S2:gZ h' (.lst (ks.map c6))=some (.lst (ks.map c6)):=g7 (SO ks);have WK:TX (je N) (.lst (ks.map c6))=some (K.map dH):=by rw[X8];exact lz (by rw[k1];decide)
 rw[show run aS 30 "law"=_ from Jr 29]
 refine(λo (h:o=some (Rs.ok (PV.bl true),[]))=>(⟨[],h⟩:TZ o)) _ ?_
 simp only[↓aF,e1,e2,e3,e4,e5,e6,e7,e8,e9,OA,S2,WK]
end cA
noncomputable section
open PySem PySem.W PyProof.Rows PySem.Calls
theorem PySem.Challenge.cw_lendrule_k18_rows_judged_holds : PySem.Challenge.rw_lendrule_k18_rows_judged.Holds := by
 exact cA.i8 λd h1 h2=>L2.U.FD (P:=cA.aS) (N:=30) (st:=cA.Sv) (x:="_law_script") (l:=PySem.Challenge.rw_lendrule_k18_rows_judged) (by kernel_rfl) (by kernel_rfl) rfl h1 h2 ⟨rfl,by decide,by decide⟩ (by kernel_rfl) (λw h Y=>Y) cA.Gw
end
