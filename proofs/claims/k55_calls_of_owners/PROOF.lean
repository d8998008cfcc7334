import PyProof.Rows.All
import KE.KSortTup
import KE.KDictOf
import KE.KNestM
import KE.KItemsList
import KE.KIsAll
import KE.KLam
import KE.KRevIter
import KE.KSortedM
import PyProof.StrWalks
import PyProof.SetKind
import PyProof.AttrMissHeap
import PyProof.DictUpdate
import KE.KUnpack
import PySem.Challenge.RW_lendrule_k55_calls_of_owners
set_option compiler.extract_closed false
set_option maxHeartbeats 0
set_option Elab.async false
set_option linter.all false
set_option maxRecDepth 100000
noncomputable section
section
open PySem PySem.Spec PyProof.Rows
def mN:=@PyProof.Rows.slot_tuple_getitem
def mO:=@List.eq_nil_of_length_eq_zero
def EL:=@F.args_tuple_iterator_next_1
def kG:=@PyProof.Rows.callWith_type1
def EM:=@F.entry_tuple_iterator_next
def uB:=@F.slot_tuple_iterator_next
def jj:=@List.getElem?_append_right
def EN:=@PySem.F.args_object_init_3
def EO:=@Calls.Name_function_global
def kH:=@List.getD_eq_getElem?_getD
def pC:=@Array.getElem?_eq_getElem
def ik:=@List.getElem?_eq_none_iff
def yW:=@List.drop_eq_getElem_cons
def de:=@List.getElem?_eq_some_iff
def fw:=@List.getElem?_append_left
def eu:=@List.getElem?_eq_getElem
def uC:=@List.filterMap_cons_some
def uD:=@List.filterMap_cons_none
def yX:=@F.slot_list_getattribute
def jk:=@AutoSeq1.wpAny_loadPart'
def pE:=@List.eq_of_mem_replicate
def yY:=@PySem.F.args_tuple_mul_2
def yZ:=@PySem.F.args_tuple_add_2
def y0:=@PySem.F.entry_tuple_add
def fS:=@wpAny_callSpecial?_slot
def za:=@PySem.F.plainAttrs_list
def zb:=@PySem.F.entry_tuple_mul
def zc:=@PySem.F.slot_tuple_mul
def aK:=@Heap.get?_push_of_some
def zd:=@PySem.F.slot_tuple_add
def uE:=@List.getElem?_set_self
def uF:=@List.take_of_length_le
def kJ:=@Option.map_eq_some_iff
def kK:=@Array.getElem?_eq_none
def jl:=@Heap.get?_update_other
def mP:=@Heap.get?_update_self
def uG:=@List.mem_iff_getElem?
def ze:=@builtinLookup_eq_fast
def uH:=@List.getElem?_eq_none
def fx:=@List.mem_append_right
def zf:=@Array.getElem?_toList
def cW:=@List.mem_cons_of_mem
def aL:=@List.getElem?_set_ne
def zg:=@wpAny_updateSeq_pair
def uI:=@Around.under_plainId
def pF:=@Bool.and_eq_true_iff
def mQ:=@List.mem_append_left
def cX:=@List.mem_of_getElem?
def uJ:=@Int.toNat_of_nonneg
def fy:=@PySem.mem_of_lookup
def zh:=@List.mem_map_of_mem
def bO:=@beq_eq_false_iff_ne
def bP:=@Heap.get?_push_size
def uK:=@F.plain_extend_loop
def gu:=@List.replicate_succ
def zi:=@List.filterMap_cons
def zj:=@List.getElem?_range
def pG:=@Array.length_toList
def zk:=@List.map_congr_left
def aW:=@List.mem_singleton
def kL:=@wpAny_setField_rec
def uL:=@tupleKind_room_in1
def jm:=@Int.emod_lt_of_pos
def cR:=@Bool.false_ne_true
def dy:=@List.mem_cons_self
def mR:=@wpAny_Call_Name_kw
def bR:=@List.length_append
def fT:=@Bool.false_eq_true
def mS:=@Nat.lt_of_le_of_lt
def pH:=@List.mem_filterMap
def bV:=@Nat.lt_of_lt_of_le
def mT:=@List.length_range
def kM:=@wpAny_newObj_type
def kN:=@wpAny_truthy_bool
def cE:=@List.size_toArray
def uM:=@decide_eq_true_eq
def jn:=@List.append_assoc
def zl:=@wpAny_pyIter_list
def mU:=@F.args_zip_next_1
def zm:=@Bool.not_eq_true'
def zo:=@List.nodup_append
def bK:=@List.getElem?_map
def zq:=@Function.comp_def
def kO:=@Int.toNat_natCast
def kP:=@List.flatten_cons
def il:=@List.map_inj_left
def ip:=@of_decide_eq_true
def eN:=@List.lookup_cons
def iN:=@beq_self_eq_true
def pK:=@Nat.lt_succ_self
def uN:=@wpAny_isInstance
def mV:=@F.entry_zip_next
def zt:=@List.length_drop
def cz:=@List.length_cons
def zu:=@noFill_tuple_add
def zw:=@Nat.le_of_not_lt
def uO:=@Heap.size_update
def jo:=@Option.bind_some
def mW:=@List.length_take
def aG:=@Bool.and_eq_true
def fA:=@List.all_eq_true
def bu:=@List.not_mem_nil
def gw:=@wpAny_call_entry
def zx:=@Nat.le_add_right
def uP:=@Around.in1_units
def zy:=@List.isEmpty_iff
def zz:=@wpAny_pyIter_zip
def zA:=@Option.getD_none
def zB:=@List.getElem_mem
def zC:=@List.mem_filter
def fU:=@F.slot_zip_next
def mX:=@List.length_nil
def pM:=@wpAny_updateSeq
def pN:=@wpAny_execs_nil
def zD:=@List.of_mem_zip
def cF:=@decide_eq_false
def pO:=@Nat.min_eq_left
def pP:=@wpAny_ite_false
def zE:=@List.cons.injEq
def zF:=@List.range_succ
def dz:=@List.append_nil
def bE:=@Option.some.inj
def mY:=@List.nodup_cons
def b8:=@List.mem_append
def pQ:=@List.find?_cons
def uQ:=@codeAny_builtin
def zG:=@Option.map_some
def kQ:=@wpAny_passesOwn
def pS:=@List.forIn_cons
def fV:=@Int.emod_nonneg
def aN:=@List.length_map
def iq:=@List.length_set
def zH:=@typeLookup_type
def kR:=@List.foldl_cons
def gy:=@List.nil_append
def fW:=@List.map_append
def uR:=@List.nodup_nil
def ez:=@decide_eq_true
def uS:=@List.forIn_nil
def uT:=@Nat.mul_le_mul
def az:=@Bool.and_false
def eA:=@Heap.size_push
def uU:=@isSubtype_stop
def gz:=@wpAny_seqItems
def uV:=@List.mem_range
def fB:=@Nat.lt_irrefl
def uW:=@wpAny_onRaise
def jq:=@Prod.mk.injEq
def uX:=@wpAny_standAt
def uY:=@List.map_take
def eE:=@wpAny_holding
def mZ:=@List.any_cons
def aD:=@List.mem_cons
def bW:=@Bool.and_true
def kT:=@Bool.and_self
def uZ:=@plainId_quiet
def nc:=@Bool.true_and
def jr:=@List.all_cons
def nh:=@Paired.length
def aO:=@List.map_cons
def kU:=@wpAny_attempt
def nj:=@wpAny_typeOf
def cb:=@Bool.or_true
def u0:=@Nat.le_of_lt
def aA:=@Bool.or_self
def kW:=@Nat.lt_trans
def u4:=@Nat.zero_add
def js:=@Nat.le_of_eq
def bF:=@Nat.ne_of_lt
def kX:=@List.map_map
def pT:=@codeAny_mono
def kY:=@Nat.add_zero
def dQ:=@List.map_nil
def dR:=@List.mem_map
def aH:=@Heap.lt_size
def pU:=@Nat.ne_of_gt
def aX:=@Nat.le_trans
def cJ:=@wpAny_field
def aF:=@Nat.le_refl
def kZ:=@sizeLine_eq
def pV:=@wpAny_letGo
def jt:=@Nat.zero_le
def fX:=@call_meets
def k9:=@wpAny_rule
def ar:=@wpAny_pure
def ag:=@wpAny_bind
def nv:=@beq_iff_eq
def pW:=@typeIs_int
def ny:=@wpAny_mono
def aY:=@eq_of_beq
def nz:=@tail_any
def gA:=@congrArg
def dS:=@if_false
def bz:=@or_false
def cx:=@Ne.symm
def eO:=@if_true
end
namespace PSh
end PSh
section
namespace L2
open PySem PySem.Spec PyProof.Rows
abbrev dZ:=Sum Int Str
inductive V where
 | aP | bl (b:Bool) | int (i:Int) | str (x:Str) | RX (b:Array UInt8) | Wx (b:UInt64) | ref (a:Addr) | ty (n:String)
 deriving DecidableEq
def RelV:V->Value->Prop
 | .aP,u=>u=Value.none
 | .bl b,u=>u=Value.bool b
 | .int i,u=>∃t,u=Value.int i t
 | .str x,u=>∃t,u=Value.str x t
 | .RX b,u=>∃t,u=Value.bytes b t
 | .Wx b,u=>∃t,u=Value.float b t
 | .ref a,u=>u=Value.ref a
 | .ty n,u=>u=Value.type n
abbrev Vals:List V->List Value->Prop:=Paired RelV
noncomputable def kV:dZ->V
 | .inl i=>.int i
 | .inr x=>.str x
inductive HO where
 /-- a list -/
 | lst (xs:List V)
 /-- a tuple (never Wy) -/
 | ak (xs:List V)
 /-- a dict Mt keys Xs ints and SF;one Mt keys Xs tuples of ints and SF (JA empty one is acy) -/
 | dK (kvs:List (dZ×V)) | dT (xs:List (List dZ×Addr×Value))
 /-- a set of ints: au Wz,au size -/
 | set (S:Int->Bool) (n:Nat)
 /-- an instance of JA class at C,au dict at dx,au NC -/
 | ins (C dx:Addr) (fs:List (Str×V))
 /-- JA dict of JA instance at x -/
 | own (x:Addr)
 /-- JA dict of an RY -/
 | xd (fs:List (Str×V))
 /-- a bound method,f of x -/
 | WA (f x:Addr)
 /-- a range ER lo,lo+1,.. below hi -/
 | WB (lo hi:Int)
 /-- a SG acz is aaG to JA ER (JA Xu;a dict while a loop aaH it): acA,never written while it is so -/
 | wV (o:Obj) (u:HO)
 /-- a code SH table -/
 | zI (q:Str)
 /-- any other SG,by what is true of au one ER (a def of aaI own: acB a S n:=HO.ext λh=>..) -/
 | ext (φ:Heap->Prop)
abbrev Hp:=Addr->Option HO
def Rd(H:Hp)(a:Addr)(u:HO):Prop:=H a=some u\/∃o,H a=some (.wV o u)
noncomputable def dA:List Str:=["arrivals","empties","needs","held"]
def gZ(K:W.Frag)(H:Hp)(a:Addr)(xs:List V):Prop :=
 Rd H a (.ak xs) \/
  ∃(o:Obj) (au:Array Value) (n:Nat),K.lookup a=some o/\o.cls=.type "tuple"/\(o.data=.seq au n/\o.dict=none)/\au.size<=sizeLine/\Vals xs au.toList
def iZ(K:W.Frag)(H:Hp)(a:Addr)(xs:List V):Prop :=
 Rd H a (.lst xs)\/∃(au:List Value) (n:Nat),K.lookup a=some {cls:=.type "list",data:=.seq au.toArray n}/\au.length<=sizeLine/\Vals xs au
structure sO (K:W.Frag) (C:Addr):Prop where
 pg:W.plainGet K C Str.empty=true
 hd:W.hasDictIn K C=true
 po:W.plainOver K C=true
 sa:W.findIn K (.ref C) "__setattr__"=some (some (.builtin "object.__setattr__"))
def ir(K:W.Frag)(C:Addr)(f:Str):Prop:=W.findIn K (.ref C) f=some none
def cK(K:W.Frag)(fd:FuncData)(ps:List Str)(ds:List Value):Prop :=
 ∀(s:Shared) (us:List Value),K.In s.heap->(us++ds).length=ps.length->BindsTo s fd ⟨us,[]⟩ (ps.zip (us++ds))
def cK.all{K:W.Frag}{fd:FuncData}{ps:List Str}(h:∀us:List Value,us.length=ps.length->bindArgs fd ⟨us,[]⟩=pure (ps.zip us)):cK K fd ps []:=λs us _ hl=>by
 rw[dz]at hl ⊢;exact .of_eq (h us hl)
section
variable {X:Cx} {CX:C8} {k:Nat} {f C:Addr} {fd:FuncData} {ps:List Str} {sp:Sp} {ju:List V} {ds:List Value} {E:XK} {x m:Str} {p pos eM:Pos} {e o:Expr} {es:List Expr} {ta:TE} {t:TA}
structure Mk (K:W.Frag) (C f:Addr):Prop where
 makes:W.makesIn K C=true
 init:W.findIn K (.ref C) "__init__"=some (some (.ref f))
 fn:W.isFn K (.ref f)=true
 kp:W.keepIn K (.ref C)=true
end
structure cL (N P:List Str) (sc:Scope):Prop where
 kind:sc.kind=.function
 co:sc.isCoroutine=false
 gen:sc.isGenerator=false
 nd:N.Nodup
 pre:N.take P.length=P
 par:∀x∈P,sc.names.lookup x=some .local\/sc.names.lookup x=some .cell
 nofree:∀y∈sc.names,y.2≠.free
noncomputable def ej(s:Stmt):Arguments:=match s with
 | .FunctionDef _ a _ _ _ _ _ _ _ _=>a
 | _=>{posonlyargs:=[],args:=[],vararg:=none,kwonlyargs:=[],kw_defaults:=[],kwarg:=none,defaults:=[]}
noncomputable def cj(s:Stmt):List Stmt:=match s with
 | .FunctionDef _ _ b _ _ _ _ _ _ _=>b
 | _=>[]
noncomputable def ao(s:Stmt):Scope:=match s with
 | .FunctionDef _ _ _ _ _ _ sc _ _ _=>sc
 | _=>{kind:=.function,names:=[],isGenerator:=false,isCoroutine:=false}
structure Mu (K:W.Frag) (x qual:Str) (st:Stmt) (f:Addr) (fd:FuncData):Prop where
 ex:∃(oc:Value) (od:Option Addr) (kV doc pm:Value) (an:Option Addr) (cU ct:Value) (pX:Array (Option Value)),
  fd=W.fnOf x qual (ej st) (cj st) (ao st) .none kV doc pm an cU ct/\K.lookup f=some ⟨oc,od,.func fd,pX⟩/\W.codeIn K cU qual=true
 kp:W.keepIn K (.ref f)=true
section
variable {P:Program} {w:World} {K:W.Frag} {mg:Str->Option Value} {base:Heap}
def NF{st:Stmt}{oc:Value}{od an:Option Addr}{pX:Array (Option Value)}{kV doc pm cU ct:Value}(l:K.lookup f=some ⟨oc,od,.func (W.fnOf x qual (ej st) (cj st) (ao st) .none kV doc pm an cU ct),pX⟩)
  (c:W.codeIn K cU qual=true) (k:W.keepIn K (.ref f)=true):Mu K x qual st f (W.fnOf x qual (ej st) (cj st) (ao st) .none kV doc pm an cU ct):=⟨⟨oc,od,kV,doc,pm,an,cU,ct,pX,rfl,l,c⟩,k⟩
end
section
variable {X:Cx} {af:List (Addr×Obj)} {σ:St} {H:Hp} {s:Shared} {a b:Addr} {k:List dZ} {v:V} {r:Value} {A:Around} {E:Value->Shared->Prop} {xs:List (List dZ×Addr×Value)}
def fY(K:W.Frag)(H:Hp)(xs:List (List dZ×Addr×Value)):Prop:=∀x∈xs,gZ K H x.2.1 (x.1.map kV)
end
end L2
namespace L2.U
open PySem PySem.Spec PyProof.Rows
inductive Kd where
 | ak | lst | ins (C:Str) (ns:List Str) | gB (t:Bool) (ks:List (List dZ))
inductive PV where
 | aP | bl (b:Bool) | int (i:Int) | str (x:Str) | ref (n:Nat) | fn (x:Str) | nd (k:Kd) (ps:List PV)
noncomputable abbrev PV.ak (ps:List PV):PV:=.nd .ak ps
structure Fz where
 F:Hp
 μ:List Addr
def ClsAt(K:W.Frag)(C:Str)(cls:Value):Prop:=W.nsIn K mainGlobals C=some (some cls)
def lb(K:W.Frag)(F H:Hp)(a:Addr)(x:Bool):Kd->List V->Prop
 | .ak,vs=>x=false/\gZ K H a vs
 | .lst,vs=>if x=true then H a=some (.lst vs)else iZ K H a vs
 | .ins C ns,vs=>∃Ca dx fs,ClsAt K C (.ref Ca)/\sO K Ca/\(∀f∈ns,ir K Ca f)/\H a=some (.ins Ca dx fs)/\fs.map (·.1)=ns/\fs.map (·.2)=vs
 | .gB false ks,vs=>∃kvs:List (dZ×V),H a=some (.dK kvs)/\kvs.map (λy=>[y.1])=ks/\kvs.map (·.2)=vs
 | .gB true ks,vs=>∃xs,H a=some (.dT xs)/\fY K F xs/\xs.map (·.1)=ks/\Vals vs (xs.map (·.2.2))
mutual
def bB(K:W.Frag)(F:Fz):PV->V->Prop
 | .aP,v=>v=.aP
 | .bl b,v=>v=.bl b
 | .int i,v=>v=.int i
 | .str x,v=>v=.str x
 | .ref n,v=>∃a,F.μ[n]?=some a/\v=.ref a
 | .fn x,v=>∃a,v=.ref a/\W.nsIn K mainGlobals x=some (some (.ref a))
 | .nd k ps,v=>∃a vs,v=.ref a/\lb K F.F F.F a false k vs/\aw K F ps vs
def aw(K:W.Frag)(F:Fz):List PV->List V->Prop
 | [],vs=>vs=[]
 | p::ps,vs=>∃v r,vs=v::r/\bB K F p v/\aw K F ps r
end
section
variable {K:W.Frag} {F F':Fz}
def aw.nil:aw K F [] []:=by simp[aw]
def aw.cons(h:bB K F p v)(t:aw K F ps vs):aw K F (p::ps) (v::vs):=by
 simp only[aw];exact⟨v,vs,rfl,h,t⟩
def cV:bB K F .aP v↔v=.aP:=by simp only[bB]
def br:bB K F (.bl b) v↔v=.bl b:=by simp only[bB]
def aC:bB K F (.int i) v↔v=.int i:=by simp only[bB]
def bN:bB K F (.str i) v↔v=.str i:=by simp only[bB]
def iO:bB K F (.nd k ps) v↔∃a vs,v=.ref a/\lb K F.F F.F a false k vs/\aw K F ps vs:=by simp only[bB]
def bX:bB K F (.ak ps) v↔∃a vs,v=.ref a/\gZ K F.F a vs/\aw K F ps vs :=
 iO.trans ⟨(by rintro⟨a,vs,h1,h2,h3⟩;exact⟨a,vs,h1,h2.2,h3⟩),(by rintro⟨a,vs,h1,h2,h3⟩;exact⟨a,vs,h1,⟨rfl,h2⟩,h3⟩)⟩
end
end L2.U
namespace L2
open PySem PySem.Spec PyProof.Rows
section
structure ES (K:W.Frag) (C:Addr) (m:Str) (f:Addr):Prop where
  at_:W.findIn K (.ref C) m=some (some (.ref f))
  fn:W.isFn K (.ref f)=true
  kp:W.keepIn K (.ref f)=true
end
end L2
namespace L2.U
open PySem PySem.Spec PyProof.Rows
structure Xv (K:W.Frag) (C:Addr):Prop where
 makes:W.makesIn K C=true
 init:W.findIn K (.ref C) "__init__"=some (some (.builtin "object.__init__"))
 kp:W.keepIn K (.ref C)=true
structure r9 (K:W.Frag) (x qual:Str) (st:Stmt) (f:Addr) (fd:FuncData) (dV:Value):Prop where
 ex:∃(oc:Value) (od:Option Addr) (kV doc pm:Value) (an:Option Addr) (cU ct:Value) (pX:Array (Option Value)),
  fd=W.fnOf x qual (ej st) (cj st) (ao st) dV kV doc pm an cU ct/\K.lookup f=some ⟨oc,od,.func fd,pX⟩/\W.codeIn K cU qual=true
 kp:W.keepIn K (.ref f)=true
structure Pg where
 defs:List (Str×Stmt)
 cons:List (Str×PV):=[]
 dB:List Str:=[]
 tabs:List (Str×List (Str×Str)):=[]
 eL:List (Str×List (Str×PV)):=[]
 cls:List (Str×Stmt):=[]
 flds:List Str:=[]
 se:List Str:=[]
 SJ:List (Str×List (Str×Nat)):=[]
 gC:List (Str×(Str×Str×Stmt)):=[]
 jv:List (Str×List PV):=[]
 wW:List Str:=[]
def params(st:Stmt):List Str:=(ej st).args.map λa=>a.arg
noncomputable def SK:NameKind->Bool
 | .local=>true
 | .cell=>true
 | _=>false
def bS(st:Stmt):List Str:=params st++((ao st).names.filter λy=>SK y.2&&!(params st).contains y.1).map λy=>y.1
structure ET (K:W.Frag) (jv:List (Str×List PV)) (x:Str) (st:Stmt):Prop where
 ex:∃f fd dV,W.nsIn K mainGlobals x=some (some (.ref f))/\r9 K x x st f fd dV/\cK K fd (params st) []/\(∀ds,jv.lookup x=some ds->∃ju pY,Vals ju pY/\(∀F,aw K F ds ju)/\cK K fd (params st) pY)/\(jv.lookup x=none->∀us:List Value,us.length=(params st).length->bindArgs fd ⟨us,[]⟩=pure ((params st).zip us))
 sc:cL (bS st) (params st) (ao st)
def C9(K:W.Frag)(P:Params)(T:Str)(rows:List (Str×Str)):Prop :=
 ∃a es n,W.nsIn K mainGlobals T=some (some (.ref a))/\K.lookup a=some ⟨.type "dict",none,.dict es n,#[]⟩/\W.KeysLit P es.toList/\∀d∈rows,∃f,W.nsIn K a d.1=some (some (.ref f))/\W.nsIn K mainGlobals d.2=some (some (.ref f))
def Xw{K:W.Frag}{P:Params}{T:Str}{rows:List (Str×Str)}{a:Addr}{es:Array DictEntry}{n:Nat}(h1:W.nsIn K mainGlobals T=some (some (.ref a)))(h2:K.lookup a=some ⟨.type "dict",none,.dict es n,#[]⟩)(h3:W.KeysLit P es.toList)
  (h4:∀d∈rows,∃f,W.nsIn K a d.1=some (some (.ref f))/\W.nsIn K mainGlobals d.2=some (some (.ref f))):C9 K P T rows:=⟨a,es,n,h1,h2,h3,h4⟩
noncomputable def Mv:PV->Value->Bool
 | .int i,.int j _=>i==j
 | .str x,.str y _=>x==y
 | .bl a,.bool b=>a==b
 | .aP,.none=>true
 | _,_=>false
def lg:List PV->List Value->Bool
 | [],[]=>true
 | p::r,u::q=>Mv p u&&lg r q
 | _,_=>false
def NG{K:W.Frag}{p:PV}{u:Value}(h:Mv p u=true):∃v,RelV v u/\∀F,bB K F p v:=by
 cases p<;>cases u<;>first | exact absurd h cR | skip
 ·exact⟨.aP,rfl,λF=>cV.mpr rfl⟩
 ·cases aY h;exact⟨.bl _,rfl,λF=>br.mpr rfl⟩
 ·cases aY h;exact⟨.int _,⟨_,rfl⟩,λF=>aC.mpr rfl⟩
 ·cases aY h;exact⟨.str _,⟨_,rfl⟩,λF=>bN.mpr rfl⟩
def Br{K:W.Frag}{ps:List PV}{us:List Value}(h:lg ps us=true):∃vs,Vals vs us/\∀F,aw K F ps vs:=by
 induction ps generalizing us with
 | nil=>cases us;exact⟨[],.nil,λ_=>.nil⟩;cases h
 | cons p r ih =>
  cases us with
  | nil=>cases h
  | cons u q =>
   have h:=pF.mp h;obtain⟨v,a,b⟩:=NG (K:=K) h.1;obtain⟨vs,h1,h2⟩:=ih h.2;exact⟨v::vs,.cons a h1,λF=>.cons (b F) (h2 F)⟩
def JB{K:W.Frag}{g:Addr}{x:Str}{a:Addr}{ps:List PV}{us:List Value}{n:Nat}{sl:Array (Option Value)}(h1:W.nsIn K g x=some (some (.ref a)))(h2:K.lookup a=some ⟨.type "tuple",none,.seq us.toArray n,sl⟩)(h3:lg ps us=true)(h4:us.length<=100) :
  ∃u v,W.nsIn K g x=some (some u)/\RelV v u/\∀F,bB K F (.ak ps) v:=by
 obtain⟨vs,r,b⟩:=Br h3;exact⟨_,.ref a,h1,rfl,λF=>bX.mpr ⟨a,vs,rfl,.inr ⟨_,us.toArray,n,h2,rfl,⟨rfl,rfl⟩,by rw[cE];exact aX h4 (by decide),by grind⟩,b F⟩⟩
def JC{K:W.Frag}{g:Addr}{x:Str}{y:Str}{t:Tok}(a:W.nsIn K g x=some (some (.str y t))):∃u v,W.nsIn K g x=some (some u)/\RelV v u/\∀F,bB K F (.str y) v:=⟨_,.str y,a,⟨t,rfl⟩,λF=>bN.mpr rfl⟩
def JD{K:W.Frag}{g:Addr}{x:Str}{i:Int}{t:Tok}(a:W.nsIn K g x=some (some (.int i t))):∃u v,W.nsIn K g x=some (some u)/\RelV v u/\∀F,bB K F (.int i) v:=⟨_,.int i,a,⟨t,rfl⟩,λF=>aC.mpr rfl⟩
def wX(K:W.Frag)(P:Params)(T:Str)(rows:List (Str×PV)):Prop :=
 ∃a es n,(a==sysModules)=false/\W.nsIn K mainGlobals T=some (some (.ref a))/\K.lookup a=some ⟨.type "dict",none,.dict es n,#[]⟩/\W.KeysLit P es.toList/\∀d∈rows,∃u v,W.nsIn K a d.1=some (some u)/\RelV v u/\∀F,bB K F d.2 v
def NH(K:W.Frag)(C:Str)(st:Stmt)(flds:List Str):Prop:=∃Ca f fd,W.nsIn K mainGlobals C=some (some (.ref Ca))/\Mk K Ca f/\sO K Ca/\(∀g∈flds,ir K Ca g)/\Mu K "__init__" (C++".__init__") st f fd/\(∀us:List Value,us.length=(params st).length->bindArgs fd ⟨us,[]⟩=pure ((params st).zip us))/\cL (bS st) (params st) (ao st)
def NI(K:W.Frag)(d:Str×(Str×Str×Stmt)):Prop:=∃Ca f fd dV,ClsAt K d.2.1 (.ref Ca)/\ES K Ca d.2.2.1 f/\r9 K d.2.2.1 d.1 d.2.2.2 f fd dV/\cK K fd (params d.2.2.2) []/\cL (bS d.2.2.2) (params d.2.2.2) (ao d.2.2.2)
def NJ(K:W.Frag)(C:Str):Prop:=∃Ca,ClsAt K C (.ref Ca)/\sO K Ca/\Xv K Ca
def NK(K:W.Frag)(x:Str):Prop:=x∈dA/\∃c T,W.tabIn K x=some (c,T)/\W.codeHdIn K c T=true
def EU(K:W.Frag):Prop:=∃bm o,W.nsIn K mainGlobals "__builtins__"=some (some (.ref bm))/\bm≠builtinsNs/\bm≠mainGlobals/\K.lookup bm=some o/\o.cls=.type "module"/\o.dict=some builtinsNs/\o.data=.plain
structure lL (K:W.Frag) (h:Heap):Prop where
 at_:∀x∈dA,∀c T,W.tabIn K x=some (c,T)->W.codeHdIn K c T=true/\h.get? T=some {cls:=.none,data:=.fields #[]}/\K.lookup T=none
 nd:(dA.filterMap λx=>(W.tabIn K x).map (·.2)).Nodup
def lL.keeps{K:W.Frag}{h h':Heap}(t:lL K h)(k:∀b o,h.get? b=some o->h'.get? b=some o):lL K h':=⟨λx hx c T e=>let ⟨h1,h2,h3⟩:=t.at_ x hx c T e;⟨h1,k _ _ h2,h3⟩,t.nd⟩
theorem jW{α β:Type} [BEq α] [LawfulBEq α] {b:α} {q:β}:∀{l:List (α×β)},(l.map (·.1)).Nodup->(b,q)∈l->l.lookup b=some q
 | [],_,h=>nomatch h
 | (a,v)::l,hn,h=>by
  rw[aO,mY]at hn;rw[eN];rcases aD.mp h with e | h'
  ·grind
  ·have:(b==a)=false:=by
    grind
   rw[this];exact jW hn.2 h'
structure EV (P:Pg) (w:World) (K:W.Frag):Prop where
 hd:∀d∈P.defs,ET K P.jv d.1 d.2
 hm:∀d∈P.gC,NI K d
 hm0:∀C∈P.wW,NJ K C
 hc:∀d∈P.cons,∃u v,W.nsIn K mainGlobals d.1=some (some u)/\RelV v u/\∀F,bB K F d.2 v
 hb:∀x∈P.dB,W.nsIn K mainGlobals x=some none
 ht:∀d∈P.tabs,C9 K w.params d.1 d.2
 hcl:∀d∈P.cls,NH K d.1 d.2 P.flds
 hct:∀d∈P.eL,wX K w.params d.1 d.2
 hlm:∀x∈P.se,NK K x
 hbm:P.se≠[]->EU K
noncomputable def pZ:Value->List Addr
 | .ref a=>[a]
 | _=>[]
def sP:Option Obj->List Addr
 | some ⟨_,_,.dict es _,_⟩=>es.toList.flatMap λe=>pZ e.val
 | some ⟨_,_,.func fd,_⟩=>pZ fd.code++pZ fd.defaults
 | some ⟨_,_,.cls cd,_⟩=>cd.ns::cd.mro.flatMap pZ
 | _=>[]
noncomputable def Dc:Obj->Bool
 | ⟨.none,none,.fields vs,sl⟩=>vs.isEmpty&&sl.isEmpty
 | _=>false
def fragOf(h:Heap):List Addr->W.Frag
 | []=>[]
 | a::r=>match h.get? a with
  | some o=>if Dc o=true then fragOf h r else(a,o)::fragOf h r
  | none=>fragOf h r
theorem gj(h:Heap):∀(as:List Addr) (b:Addr) (o:Obj),(fragOf h as).lookup b=some o->h.get? b=some o/\Dc o=false
 | [],_,_,e=>nomatch e
 | a::r,b,o,e=>by
  unfold fragOf at e;split at e
  ·rename_i o' ho;split at e
   ·exact gj h r b o e
   ·rename_i ht;rw[eN]at e;cases z:b==a with
    | true =>
     rw[z]at e;cases e;rw[aY z];exact⟨ho,by simpa using ht⟩
    | false =>
     rw[z]at e;exact gj h r b o e
  ·exact gj h r b o e
theorem Dd(h:Heap)(as:List Addr):(fragOf h as).In h:=λb o e=>(gj h as b o e).1
theorem Bs(h:Heap){b:Addr}{o:Obj}(h1:h.get? b=some o)(h2:Dc o=false):∀as:List Addr,b∈as->(fragOf h as).lookup b=some o
 | a::r,hb=>by
  unfold fragOf;by_cases e:b=a
  ·subst e;rw[h1];show(if Dc o=true then _ else _:W.Frag).lookup b=_
   rw[h2,if_neg cR,eN,iN]
  ·have ih:=Bs h h1 h2 r ((aD.mp hb).resolve_left e);split
   ·split
    ·exact ih
    ·rw[eN,bO.mpr e];exact ih
   ·exact ih
theorem nA{h:Heap}{as bs:List Addr}{b:Addr}{o:Obj}(e:(fragOf h as).lookup b=some o)(hb:b∈bs):(fragOf h bs).lookup b=some o:=Bs h (gj h as b o e).1 (gj h as b o e).2 bs hb
noncomputable def nsO:Option Obj->List Addr
 | some ⟨_,_,.cls cd,_⟩=>[cd.ns]
 | _=>[]
def NL(h:Heap)(a:Addr):List Addr:=a::(sP (h.get? a)++(nsO (h.get? a)).flatMap λb=>(sP (h.get? b)).flatMap λc=>c::sP (h.get? c))
def d7(h:Heap):W.Frag:=fragOf h (mainGlobals::(sP (h.get? mainGlobals)).flatMap (NL h))
noncomputable def JE(K:W.Frag)(x:Str):Option FuncData:=match W.nsIn K mainGlobals x with
 | some (some (.ref f))=>(match K.lookup f with
  | some ⟨_,_,.func fd,_⟩=>(match W.codeIn K fd.code x with
   | true=>some {fd with defaults:=.none,kwdefaults:=.none,doc:=.none,pyModule:=.none,annotations:=none,code:=.none,closureTuple:=.none}
   | false=>none)
  | _=>none)
 | _=>none
def EW(h:Heap)(x:Str):Option FuncData:=match W.nsIn (fragOf h [mainGlobals]) mainGlobals x with
 | some (some (.ref f))=>(match(fragOf h [f]).lookup f with
  | some ⟨_,_,.func fd,_⟩=>(match W.codeIn (fragOf h (pZ fd.code)) fd.code x with
   | true=>some {fd with defaults:=.none,kwdefaults:=.none,doc:=.none,pyModule:=.none,annotations:=none,code:=.none,closureTuple:=.none}
   | false=>none)
  | _=>none)
 | _=>none
def EX{h:Heap}{x:Str}{v:FuncData}(e:EW h x=some v):JE (d7 h) x=some v:=by
 unfold EW at e;split at e
 ·rename_i f hf;split at e
  ·rename_i oc od fd pX hl;split at e
   ·rename_i hc;have hg:W.nsIn (d7 h) mainGlobals x=some (some (.ref f))/\f∈sP (h.get? mainGlobals):=by
     unfold W.nsIn at hf ⊢;split at hf
     ·rename_i gc gd es gn gs hk;have k2:(d7 h).lookup mainGlobals=_:=nA hk dy;rw[k2,(gj _ _ _ _ hk).1];refine⟨hf,?_⟩;split at hf
      ·rename_i en hen;have hv:en.val=.ref f:=bE (bE hf);exact List.mem_flatMap.mpr ⟨en,List.mem_of_find?_eq_some hen,by rw[hv];exact dy⟩
      ·split at hf<;>cases hf
     ·cases hf
    have mf:∀b∈NL h f,b∈mainGlobals::(sP (h.get? mainGlobals)).flatMap (NL h):=λb hb=>cW _ (List.mem_flatMap.mpr ⟨f,hg.2,hb⟩)
    have k3:(d7 h).lookup f=some ⟨oc,od,.func fd,pX⟩:=nA hl (mf f dy);have k4:W.codeIn (d7 h) fd.code x=true:=by
     unfold W.codeIn at hc ⊢;split at hc
     ·rename_i c yO;split at hc
      ·rename_i cc cdd vs csl hk;have:(d7 h).lookup c=_:=nA hk (mf c (cW _ (mQ _ (by rw[(gj _ _ _ _ hl).1];show c∈pZ fd.code++pZ fd.defaults;rw[yO];exact mQ _ dy))))
       rw[this];exact hc
      ·cases hc
     ·cases hc
    unfold JE;rw[hg.1];dsimp only
    rw[k3];dsimp only
    rw[k4];exact e
   ·cases e
  ·cases e
 ·cases e
def EY(x:Str)(st:Stmt):FuncData:=W.fnOf x x (ej st) (cj st) (ao st) .none .none .none .none none .none .none
def NM(K:W.Frag)(jv:List (Str×List PV))(x:Str):Bool:=match W.nsIn K mainGlobals x with
 | some (some (.ref f))=>(match K.lookup f with
  | some ⟨_,_,.func fd,_⟩=>(match jv.lookup x,fd.defaults with
   | none,.none=>true
   | some ds,.ref T=>(match K.lookup T with
    | some ⟨.type t,none,.seq us _,_⟩=>(t=="tuple")&&lg ds us.toList
    | _=>false)
   | _,_=>false)
  | _=>false)
 | _=>false
def SM(K:W.Frag)(jv:List (Str×List PV))(x:Str)(dV:Value):Prop:=(dV=.none/\jv.lookup x=none)\/∃ds T us n sl,jv.lookup x=some ds/\dV=.ref T/\K.lookup T=some ⟨.type "tuple",none,.seq us n,sl⟩/\lg ds us.toList=true
def JF{K:W.Frag}{jv:List (Str×List PV)}{x:Str}{st:Stmt}(h:JE K x=some (EY x st))(hd:NM K jv x=true):∃f fd dV,W.nsIn K mainGlobals x=some (some (.ref f))/\r9 K x x st f fd dV/\SM K jv x dV:=by
 unfold JE at h;split at h
 ·rename_i f hf;split at h
  ·rename_i oc od fd pX hl;split at h
   ·rename_i hc;have h:=bE h;have hD:SM K jv x fd.defaults:=by
     unfold NM at hd;rw[hf]at hd;dsimp only at hd
     rw[hl]at hd;dsimp only at hd
     split at hd
     ·rename_i e1 e2;exact .inl ⟨e2,e1⟩
     ·rename_i ds T e1 e2;split at hd
      ·rename_i t us n sl e3;rw[aG]at hd;obtain rfl:=aY hd.1;exact .inr ⟨ds,T,us,n,sl,e1,e2,e3,hd.2⟩
      ·cases hd
     ·cases hd
    obtain⟨a1,a2,a3,a4,a5,a6,a7,a8,a9,a10,a11,a12,a13,a14,a15⟩:=fd;unfold EY at h;simp only[FuncData.mk.injEq]at h;obtain⟨e1,e2,e3,e4,e5,e6,e7,-,-,-,-,-,-,-,Xx⟩:=h;subst e1 e2 e3 e4 e5 e6 e7 Xx;exact⟨f,_,a8,hf,⟨⟨oc,od,a9,a10,a11,a12,a13,a14,pX,rfl,hl,hc⟩,by unfold W.keepIn;dsimp only;rw[hl]⟩,hD⟩
   ·cases h
  ·cases h
 ·cases h
def Bt(K:W.Frag)(g:Addr)(d:Str×PV):Bool:=match W.nsIn K g d.1 with
 | some (some (.int j _))=>(match d.2 with | .int i=>i==j | _=>false)
 | some (some (.str y _))=>(match d.2 with | .str x=>x==y | _=>false)
 | some (some (.ref a))=>(match K.lookup a with
  | some ⟨.type t,none,.seq us _,_⟩=>(match d.2 with | .nd .ak ps=>(t=="tuple")&&(lg ps us.toList&&decide (us.toList.length<=100)) | _=>false)
  | _=>false)
 | _=>false
def wY{K:W.Frag}{g:Addr}{x:Str}{p:PV}(h:Bt K g (x,p)=true):∃u v,W.nsIn K g x=some (some u)/\RelV v u/\∀F,bB K F p v:=by
 unfold Bt at h;dsimp only at h
 split at h
 ·rename_i j t hn;split at h
  ·obtain rfl:=aY h;exact JD hn
  ·cases h
 ·rename_i y t hn;split at h
  ·obtain rfl:=aY h;exact JC hn
  ·cases h
 ·rename_i a hn;split at h
  ·rename_i t dd us n sl hl;split at h
   ·rw[aG,aG]at h;obtain⟨h1,h2,h3⟩:=h;obtain rfl:=aY h1;obtain⟨us⟩:=us;exact JB hn hl h2 (ip h3)
   ·cases h
  ·cases h
 ·cases h
noncomputable def EZ(K:W.Frag)(x:Str):Bool:=match W.nsIn K mainGlobals x with
 | some none=>true
 | _=>false
def E2{K:W.Frag}{x:Str}(h:EZ K x=true):W.nsIn K mainGlobals x=some none:=by
 unfold EZ at h;split at h
 ·assumption
 ·cases h
abbrev OV:=Option (Option Value)
noncomputable def Bu(e:DictEntry):Option Str×Int:=(match e.key with
 | .str x _=>some x
 | _=>none,e.hash)
noncomputable def E3(K:W.Frag)(a:Addr)(d:Str×Str):Bool:=match W.nsIn K a d.1,W.nsIn K mainGlobals d.2 with
 | some (some (.ref f)),some (some (.ref g))=>f==g
 | _,_=>false
def E4(K:W.Frag)(T:Str)(rows:List (Str×Str)):Option (Value×Option Addr×Array (Option Value)×List (Option Str×Int)×Bool):=match W.nsIn K mainGlobals T with
 | some (some (.ref a))=>(match K.lookup a with
  | some ⟨c,dd,.dict es _,sl⟩=>some (c,dd,sl,es.toList.map Bu,rows.all (E3 K a))
  | _=>none)
 | _=>none
noncomputable def zJ(P:Params)(rows:List (Str×Str)):Option (Value×Option Addr×Array (Option Value)×List (Option Str×Int)×Bool):=some (.type "dict",none,#[],rows.map (λd=>(some d.1,PyData.keyHash P d.1)),true)
theorem p6{β:Type}{P:Params}:∀{es:List DictEntry} {rows:List (Str×β)},es.map Bu=rows.map (λd=>(some d.1,PyData.keyHash P d.1))->W.KeysLit P es
 | [],_,_=>trivial
 | _::_,[],h=>by cases h
 | e::es,d::rows,h=>by
  rw[aO,aO,zE]at h;obtain⟨h1,h2⟩:=h;refine⟨?_,p6 h2⟩;unfold Bu at h1;rw[jq]at h1;obtain⟨h3,h4⟩:=h1;split at h3
  ·grind
  ·cases h3
def E5{K:W.Frag}{a:Addr}{d:Str×Str}(h:E3 K a d=true):∃f,W.nsIn K a d.1=some (some (.ref f))/\W.nsIn K mainGlobals d.2=some (some (.ref f)):=by
 unfold E3 at h;split at h
 ·grind
 ·cases h
def E6{K:W.Frag}{P:Params}{T:Str}{rows:List (Str×Str)}(h:E4 K T rows=zJ P rows):C9 K P T rows:=by
 unfold E4 zJ at h;split at h
 ·rename_i a hn;split at h
  ·rename_i c dd es n sl hl;have h:=bE h;simp only[jq]at h;obtain⟨rfl,rfl,rfl,h4,h5⟩:=h;exact Xw hn hl (p6 h4) λd hd=>E5 (fA.mp h5 d hd)
  ·cases h
 ·cases h
abbrev JG:=Option (Value×Option Addr×Array (Option Value)×List (Option Str×Int)×Bool)
noncomputable def u5(K:W.Frag)(f:Addr)(qual:Str):Option FuncData:=match K.lookup f with
 | some ⟨_,_,.func fd,_⟩=>(match W.codeIn K fd.code qual with
  | true=>some {fd with kwdefaults:=.none,doc:=.none,pyModule:=.none,annotations:=none,code:=.none,closureTuple:=.none}
  | false=>none)
 | _=>none
def Bv(x qual:Str)(st:Stmt):FuncData:=W.fnOf x qual (ej st) (cj st) (ao st) .none .none .none .none none .none .none
def sQ{K:W.Frag}{x qual:Str}{st:Stmt}{f:Addr}(h:u5 K f qual=some (Bv x qual st)):∃fd,Mu K x qual st f fd:=by
 unfold u5 at h;split at h
 ·rename_i oc od fd pX hl;split at h
  ·rename_i hc;have h:=bE h;obtain⟨a1,a2,a3,a4,a5,a6,a7,a8,a9,a10,a11,a12,a13,a14,a15⟩:=fd;unfold Bv at h;simp only[FuncData.mk.injEq]at h;obtain⟨e1,e2,e3,e4,e5,e6,e7,e8,-,-,-,-,-,-,Xx⟩:=h;subst e1 e2 e3 e4 e5 e6 e7 e8 Xx;exact⟨_,NF hl hc (by unfold W.keepIn;dsimp only;rw[hl])⟩
  ·cases h
 ·cases h
abbrev NN:=Option (Bool×Option FuncData)
def E7(K:W.Frag)(d:Str×(Str×Str×Stmt)):NN:=match W.nsIn K mainGlobals d.2.1 with
 | some (some (.ref a))=>(match W.findIn K (.ref a) d.2.2.1 with
  | some (some (.ref f))=>some (W.isFn K (.ref f)&&W.keepIn K (.ref f),u5 K f d.1)
  | _=>none)
 | _=>none
def zK(d:Str×(Str×Str×Stmt)):NN:=some (true,some (Bv d.2.2.1 d.1 d.2.2.2))
def E8(P:Pg):Prop:=∀(kV doc pm:Value) (an:Option Addr) (cU ct:Value) (u:Nat->Value),
 P.gC.map (λd=>bindArgs (W.fnOf d.2.2.1 d.1 (ej d.2.2.2) (cj d.2.2.2) (ao d.2.2.2) .none kV doc pm an cU ct) ⟨(List.range (params d.2.2.2).length).map u,[]⟩)=P.gC.map λd=>pure ((params d.2.2.2).zip ((List.range (params d.2.2.2).length).map u))
noncomputable def E9(K:W.Frag)(C:Str):Option (Bool×OV×OV):=match W.nsIn K mainGlobals C with
 | some (some (.ref a))=>some (W.makesIn K a&&(W.keepIn K (.ref a)&&(W.plainGet K a Str.empty&&(W.hasDictIn K a&&W.plainOver K a))),W.findIn K (.ref a) "__setattr__",W.findIn K (.ref a) "__init__")
 | _=>none
noncomputable def zL:Option (Bool×OV×OV):=some (true,some (some (.builtin "object.__setattr__")),some (some (.builtin "object.__init__")))
def Fb{K:W.Frag}{C:Str}(h:E9 K C=zL):NJ K C:=by
 unfold E9 zL at h;split at h
 ·rename_i a hn;have h:=bE h;simp only[jq,aG]at h;obtain⟨⟨h1,h2,h3,h4,h5⟩,h6,h7⟩:=h;exact⟨a,hn,⟨h3,h4,h5,h6⟩,⟨h1,h7,h2⟩⟩
 ·cases h
abbrev NO:=Option (Bool×OV×List OV×Option FuncData)
def Fc(K:W.Frag)(flds:List Str)(C:Str):NO:=match W.nsIn K mainGlobals C with
 | some (some (.ref a))=>(match W.findIn K (.ref a) "__init__" with
  | some (some (.ref f))=>some (W.makesIn K a&&(W.isFn K (.ref f)&&(W.keepIn K (.ref a)&&(W.plainGet K a Str.empty&&(W.hasDictIn K a&&W.plainOver K a)))),W.findIn K (.ref a) "__setattr__",flds.map (λg=>W.findIn K (.ref a) g),u5 K f (C++".__init__"))
  | _=>none)
 | _=>none
def zM(flds:List Str)(C:Str)(st:Stmt):NO:=some (true,some (some (.builtin "object.__setattr__")),flds.map (λ_=>some none),some (Bv "__init__" (C++".__init__") st))
noncomputable def u6:List Str->Bool
 | []=>true
 | x::r=>!r.contains x&&u6 r
theorem sR:∀{l:List Str},u6 l=true->l.Nodup
 | [],_=>uR
 | x::r,h=>by
  simp only[u6,aG,zm,List.contains_eq_mem,decide_eq_false_iff_not]at h;exact mY.mpr ⟨h.1,sR h.2⟩
noncomputable def Xy:Option NameKind->Bool
 | some .local=>true
 | some .cell=>true
 | _=>false
noncomputable def SN:NameKind->Bool
 | .free=>false
 | _=>true
noncomputable def SO:ScopeKind->Bool
 | .function=>true
 | _=>false
def Jl(st:Stmt):Bool:=SO (ao st).kind&&(!(ao st).isCoroutine&&(!(ao st).isGenerator&&(u6 (bS st)&&((params st).all (λx=>Xy ((ao st).names.lookup x))&&(ao st).names.all λy=>SN y.2))))
def zN{st:Stmt}(h:Jl st=true):cL (bS st) (params st) (ao st):=by
 unfold Jl at h;rw[aG,aG,aG,aG,aG]at h;obtain⟨h1,h2,h3,h4,h5,h6⟩:=h;refine⟨?_,by grind,by grind,sR h4,?_,λx hx=>?_,λy hy=>?_⟩
 ·cases z:(ao st).kind<;>rw[z]at h1<;>first | rfl | cases h1
 ·exact List.take_left
 ·have k:=fA.mp h5 x hx;cases z:(ao st).names.lookup x with
  | none=>rw[z]at k;cases k
  | some b =>
   rw[z]at k;cases b<;>first | exact .inl rfl | exact .inr rfl | cases k
 ·have k:=fA.mp h6 y hy;intro z;rw[z]at k;cases k
def Fe(P:Pg):Prop:=∀(kV doc pm:Value) (an:Option Addr) (cU ct:Value) (u:Nat->Value),
 P.defs.map (λd=>bindArgs (W.fnOf d.1 d.1 (ej d.2) (cj d.2) (ao d.2) .none kV doc pm an cU ct) ⟨(List.range (params d.2).length).map u,[]⟩)=P.defs.map λd=>pure ((params d.2).zip ((List.range (params d.2).length).map u))
def gG{us:List Value}{n:Nat}(h:us.length=n):(List.range n).map (λi=>us.getD i .none)=us:=by
 subst h;apply List.ext_getElem
 ·simp
 ·intro i h1 h2;simp[h2]
def NP(x:Str)(st:Stmt)(n:Nat):Prop:=∀(T:Addr) (kV doc pm:Value) (an:Option Addr) (cU ct:Value) (u v:Nat->Value),
 (∃k,bindArgs (W.fnOf x x (ej st) (cj st) (ao st) (.ref T) kV doc pm an cU ct) ⟨(List.range (params st).length).map u,[]⟩=seqItems? (.ref T) >>= k/\k (some ((List.range n).map v).toArray)=pure ((params st).zip ((List.range (params st).length).map u))) /\
 (∃k,bindArgs (W.fnOf x x (ej st) (cj st) (ao st) (.ref T) kV doc pm an cU ct) ⟨(List.range ((params st).length-n)).map u,[]⟩=seqItems? (.ref T) >>= k/\k (some ((List.range n).map v).toArray)=pure ((params st).zip ((List.range ((params st).length-n)).map u++(List.range n).map v)))
def Mw(P:Pg):Prop:=∀d∈P.defs,∀ds,P.jv.lookup d.1=some ds->NP d.1 d.2 ds.length
def JH{K:W.Frag}{x:Str}{st:Stmt}{f T:Addr}{fd:FuncData}{us:List Value}{n:Nat}{sl:Array (Option Value)}(F:r9 K x x st f fd (.ref T))(hT:K.lookup T=some ⟨.type "tuple",none,.seq us.toArray n,sl⟩)(D:NP x st us.length):cK K fd (params st) []/\cK K fd (params st) us:=by
 obtain⟨oc,od,kV,doc,pm,an,cU,ct,pX,rfl,lk,yO⟩:=F.ex;refine⟨λs ws X hl=>?_,λs ws X hl=>?_⟩
 ·rw[dz]at hl ⊢;obtain⟨⟨k,e1,e2⟩,_⟩:=D T kV doc pm an cU ct (λi=>ws.getD i .none) (λi=>us.getD i .none)
  rw[gG hl]at e1 e2;rw[gG rfl]at e2;exact BindsTo.of_defaults rfl (X _ _ hT) rfl e1 e2
 ·obtain⟨_,⟨k,e1,e2⟩⟩:=D T kV doc pm an cU ct (λi=>ws.getD i .none) (λi=>us.getD i .none)
  rw[bR]at hl;rw[gG (show ws.length=(params st).length-us.length by lia)]at e1 e2
  rw[gG rfl]at e2;exact BindsTo.of_defaults rfl (X _ _ hT) rfl e1 e2
def Ff{K:W.Frag}{x:Str}{st:Stmt}{f:Addr}{fd:FuncData}{P:Pg}(hb:Fe P)(hd:(x,st)∈P.defs)(F:r9 K x x st f fd .none)(us:List Value)(hl:us.length=(params st).length):bindArgs fd ⟨us,[]⟩=pure ((params st).zip us):=by
 obtain⟨oc,od,kV,doc,pm,an,cU,ct,pX,rfl,lk,yO⟩:=F.ex;have k:=il.mp (hb kV doc pm an cU ct λi=>us.getD i .none) (x,st) hd
 dsimp only at k
 rw[gG hl]at k;exact k
def NQ(P:Pg):Prop:=∀(kV doc pm:Value) (an:Option Addr) (cU ct:Value) (u:Nat->Value),
 P.cls.map (λd=>bindArgs (W.fnOf "__init__" (d.1++".__init__") (ej d.2) (cj d.2) (ao d.2) .none kV doc pm an cU ct) ⟨(List.range (params d.2).length).map u,[]⟩)=P.cls.map λd=>pure ((params d.2).zip ((List.range (params d.2).length).map u))
def Fg{K:W.Frag}{P:Pg}{C:Str}{st:Stmt}(SQ:Jl st=true)(hb:NQ P)(hd:(C,st)∈P.cls)(h:Fc K P.flds C=zM P.flds C st):NH K C st P.flds:=by
 unfold Fc zM at h;split at h
 ·rename_i a hn;split at h
  ·rename_i f hf;have h:=bE h;simp only[jq,aG]at h;obtain⟨⟨h1,h2,h3,h4,h5,h6⟩,h7,h8,h9⟩:=h;obtain⟨fd,F⟩:=sQ h9;refine⟨a,f,fd,hn,⟨h1,hf,h2,h3⟩,⟨h4,h5,h6,h7⟩,λg hg=>il.mp h8 g hg,F,λus hl=>?_,zN SQ⟩
   obtain⟨oc,od,kV,doc,pm,an,cU,ct,pX,rfl,lk,yO⟩:=F.ex;have k:=il.mp (hb kV doc pm an cU ct λi=>us.getD i .none) (C,st) hd
   dsimp only at k
   rw[gG hl]at k;exact k
  ·cases h
 ·cases h
def Fh{K:W.Frag}{P:Pg}{d:Str×(Str×Str×Stmt)}(SQ:Jl d.2.2.2=true)(hb:E8 P)(hd:d∈P.gC)(h:E7 K d=zK d):NI K d:=by
 unfold E7 zK at h;split at h
 ·rename_i a hn;split at h
  ·rename_i f hf;have h:=bE h;simp only[jq,aG]at h;obtain⟨⟨h1,h2⟩,h3⟩:=h;obtain⟨fd,F⟩:=sQ h3;refine⟨a,f,fd,.none,hn,⟨hf,h1,h2⟩,⟨F.ex,F.kp⟩,.all λus hl=>?_,zN SQ⟩
   obtain⟨oc,od,kV,doc,pm,an,cU,ct,pX,rfl,lk,yO⟩:=F.ex;have k:=il.mp (hb kV doc pm an cU ct λi=>us.getD i .none) d hd
   rw[gG hl]at k;exact k
  ·cases h
 ·cases h
def zO(K:W.Frag)(h:Heap)(x:Str):Bool:=match W.tabIn K x with
 | none=>true
 | some (c,T)=>W.codeHdIn K c T&&(match h.get? T with
  | some o=>Dc o
  | _=>false)
noncomputable def NR(K:W.Frag):Bool:=match W.nsIn K mainGlobals "__builtins__" with
 | some (some (.ref bm))=>!(bm==builtinsNs)&&(!(bm==mainGlobals)&&(match K.lookup bm with
  | some ⟨.type m,some d,.plain,_⟩=>(m=="module")&&(d==builtinsNs)
  | _=>false))
 | _=>false
def Fj(P:Pg)(K:W.Frag)(h:Heap):Bool:=dA.all (zO K h)&&(decide (dA.filterMap λx=>(W.tabIn K x).map (·.2)).Nodup&&((P.se.isEmpty || NR K)&&P.se.all λx=>dA.contains x&&(W.tabIn K x).isSome))
def sS{h:Heap}{x:Str}{c T:Addr}(e:zO (d7 h) h x=true)(t:W.tabIn (d7 h) x=some (c,T)):W.codeHdIn (d7 h) c T=true/\h.get? T=some {cls:=.none,data:=.fields #[]}/\(d7 h).lookup T=none:=by
 unfold zO at e;rw[t]at e;simp only[aG]at e;obtain⟨h1,h3⟩:=e;split at h3
 ·rename_i o ho;refine⟨h1,?_,?_⟩
  ·unfold Dc at h3;split at h3
   ·grind
   ·cases h3
  ·cases k:(d7 h).lookup T with
   | none=>rfl
   | some o' =>
    obtain⟨k1,k2⟩:=gj _ _ _ _ k;rw[ho]at k1;cases k1;rw[h3]at k2;cases k2
 ·cases h3
def JI{K:W.Frag}(e:NR K=true):EU K:=by
 unfold NR at e;split at e
 ·rename_i bm hb;simp only[aG]at e;obtain⟨h1,h2,h3⟩:=e;split at h3
  ·rename_i m d sl z;rw[aG]at h3;obtain rfl:=aY h3.1;obtain rfl:=aY h3.2;exact⟨bm,_,hb,by grind,by grind,z,rfl,rfl,rfl⟩
  ·cases h3
 ·cases e
def Fl{P:Pg}{h:Heap}(e:Fj P (d7 h) h=true):lL (d7 h) h/\(∀x∈P.se,NK (d7 h) x)/\(P.se≠[]->EU (d7 h)):=by
 unfold Fj at e;simp only[aG]at e;obtain⟨h1,h2,h3,h4⟩:=e;have all:=fA.mp h1;refine⟨⟨λx hx c T t=>sS (all x hx) t,ip h2⟩,λx hx=>?_,λz=>?_⟩
 ·have:=fA.mp h4 x hx;rw[aG]at this;have hm:x∈dA:=by grind
  cases t:W.tabIn (d7 h) x with
  | none=>rw[t]at this;cases this.2
  | some cT=>exact⟨hm,cT.1,cT.2,t,(sS (all x hm) t).1⟩
 ·rcases Bool.or_eq_true_iff.mp h3 with y | y
  ·grind
  ·exact JI y
def zP(K:W.Frag)(T:Str)(rows:List (Str×PV)):JG:=match W.nsIn K mainGlobals T with
 | some (some (.ref a))=>(match K.lookup a with
  | some ⟨c,dd,.dict es _,sl⟩=>some (c,dd,sl,es.toList.map Bu,!(a==sysModules)&&rows.all (Bt K a))
  | _=>none)
 | _=>none
noncomputable def u7(P:Params)(rows:List (Str×PV)):JG:=some (.type "dict",none,#[],rows.map (λd=>(some d.1,PyData.keyHash P d.1)),true)
def De{K:W.Frag}{P:Params}{T:Str}{rows:List (Str×PV)}(h:zP K T rows=u7 P rows):wX K P T rows:=by
 unfold zP u7 at h;split at h
 ·rename_i a hn;split at h
  ·rename_i c dd es n sl hl;have h:=bE h;simp only[jq]at h;obtain⟨rfl,rfl,rfl,h4,h5⟩:=h;rw[aG,zm]at h5;exact⟨a,es,n,h5.1,hn,hl,p6 h4,λd hd=>wY (fA.mp h5.2 d hd)⟩
  ·cases h
 ·cases h
abbrev NS:=List (Option FuncData)×Bool×List JG×List NO×List JG×List NN×List (Option (Bool×OV×OV))
def zQ(P:Pg)(K:W.Frag)(hp:Heap):NS:=(P.defs.map (λd=>EW hp d.1),P.cons.all (Bt K mainGlobals)&&(P.dB.all (EZ K)&&(Fj P K hp&&P.defs.all λd=>NM K P.jv d.1)),P.tabs.map (λd=>E4 K d.1 d.2),P.cls.map (λd=>Fc K P.flds d.1),P.eL.map (λd=>zP K d.1 d.2),P.gC.map (E7 K),P.wW.map (E9 K))
def zR(P:Pg)(w:World):NS:=(P.defs.map (λd=>some (EY d.1 d.2)),true,P.tabs.map (λd=>zJ w.params d.2),P.cls.map (λd=>zM P.flds d.1 d.2),P.eL.map (λd=>u7 w.params d.2),P.gC.map zK,P.wW.map λ_=>zL)
structure PgB (P:Pg):Prop where
 sc:P.defs.all (λd=>Jl d.2)=true
 bd:Fe P
 sc2:P.cls.all (λd=>Jl d.2)=true
 bd2:NQ P
 sc3:P.gC.all (λd=>Jl d.2.2.2)=true
 bd3:E8 P
 df:Mw P
theorem p7:∀{ps:List PV} {us:List Value},lg ps us=true->ps.length=us.length
 | [],[],_=>rfl
 | [],_::_,h=>by cases h
 | _::_,[],h=>by cases h
 | p::ps,u::us,h=>by
  have h:=(pF.mp h).2;rw[cz,cz,p7 h]
def Df{P:Pg}{w:World}(B:PgB P){hp:Heap}(h:zQ P (d7 hp) hp=zR P w):EV P w (d7 hp)/\lL (d7 hp) hp:=by
 unfold zQ zR at h;simp only[jq]at h;obtain⟨h1,h2,h5,h6,h7,h8,h9⟩:=h;rw[aG,aG,aG]at h2;obtain⟨l1,l2,l3⟩:=Fl h2.2.2.1;refine⟨⟨λd hd=>?_,λd hd=>Fh (fA.mp B.sc3 d hd) B.bd3 hd (il.mp h8 d hd),λC hC=>Fb (il.mp h9 C hC),λd hd=>wY (fA.mp h2.1 d hd),λx hx=>E2 (fA.mp h2.2.1 x hx),λd hd=>E6 (il.mp h5 d hd),λd hd=>Fg (fA.mp B.sc2 d hd) B.bd2 hd (il.mp h6 d hd),λd hd=>De (il.mp h7 d hd),l2,l3⟩,l1⟩
 obtain⟨f,fd,dV,a,F,D⟩:=JF (jv:=P.jv) (EX (il.mp h1 d hd)) (fA.mp h2.2.2.2 d hd);refine⟨⟨f,fd,dV,a,F,?_⟩,zN (fA.mp B.sc d hd)⟩;rcases D with⟨rfl,hn⟩ | ⟨ds,T,us,n,sl,e1,rfl,e3,e4⟩
 ·exact⟨.all λus hl=>Ff B.bd hd F us hl,λds e=>(by rw[hn]at e;cases e),λ_ us hl=>Ff B.bd hd F us hl⟩
 ·obtain⟨us⟩:=us;obtain⟨vs,r,b⟩:=Br (K:=d7 hp) e4;have b2:=JH F e3 (by rw[<-p7 e4];exact B.df d hd ds e1)
  refine⟨b2.1,λds' e=>?_,λe=>by rw[e1]at e;cases e⟩
  rw[e1]at e;cases e;exact⟨vs,us,r,b,b2.2⟩
def JJ(P:Pg)(B:PgB P):W.Hook :=
 ⟨NS,λs=>zQ P (d7 s.heap) s.heap,λw=>zR P w,λw h=>∃K:W.Frag,K.In h/\EV P w K/\lL K h,λw s e=>⟨_,Dd _ _,Df B e⟩,λ_ _ _ ⟨K,a,b,c⟩ k=>⟨K,a.keeps k,b,c.keeps k⟩⟩
noncomputable def Dg(p:Program)(row:String)(b:Bool)(N:Nat)(w:World):Option Shared:=(W.fencedOpening treeTable p w N).bind λs₀=>W.topFrom treeTable p (w.withFollow row b) N s₀
def Dh{p q:Program}{loose:List Str}{Xt:Shared->Bool}{α:Type}{Yf:Shared->α}{Ya:World->α}{N:Nat}{g0:Bool}(row:String)
  (h1:∀w,(Dg p row false N w).map (W.openSeen q loose (importedModules p.main.body) Xt g0)=some (W.openGood q loose)) (h2:∀w,(Dg p row true N w).map (W.openSeen q loose (importedModules p.main.body) Xt g0)=some (W.openGood q loose))
  (h3:∀w,(Dg p row false N w).map Yf=some (Ya (w.withFollow row false))) (h4:∀w,(Dg p row true N w).map Yf=some (Ya (w.withFollow row true))):W.LeftO p q loose Xt Yf Ya N g0:=by
 refine W.LeftO.of_split row λw=>?_
 obtain⟨sA,a1,a2⟩:=kJ.mp (h1 w);obtain⟨sB,b1,b2⟩:=kJ.mp (h2 w);obtain⟨sC,c1,c2⟩:=kJ.mp (h3 w);obtain⟨sD,d1,d2⟩:=kJ.mp (h4 w);rw[a1]at c1;rw[b1]at d1;cases c1;cases d1;obtain⟨s0,f0,tA⟩:=Option.bind_eq_some_iff.mp a1;obtain⟨s1,f1,tB⟩:=Option.bind_eq_some_iff.mp b1;rw[f0]at f1;cases f1;rw[f0,zG,tA,tB,zG,zG,a2,b2,c2,d2]
end L2.U
noncomputable section
namespace L2.U
open PySem PySem.W
def topQ(p:Program)(w:World)(m:Nat)(RZ:Option Value):Nat->SharedT->Thread->Option SharedT
 | 0,_,_=>none
 | n+1,s,t=>match through t with
  | true=>some s
  | false=>match Fast.tw6613529449190102663 m RZ t with
   | false=>none
   | true=>match Fast.tw10156331382660048174 (Fast.tw11892475500146522536 Fast.tw14364793385576792824) p w s t with
    | some (s',t')=>topQ p w m RZ n s' t'
    | none=>none
theorem topQ_of{p:Program}{w:World}{m:Nat}{RZ:Option Value}:∀{n:Nat} {s r:SharedT} {t:Thread},topQ p w m RZ n s t=some r->topRun treeTable p w m RZ n s.abs t=some r.abs
 | 0,_,_,_,h=>by cases h
 | n+1,s,r,t,h=>by
  unfold topQ at h;unfold topRun;rw[<-Fast.te6613529449190102663,<-Fast.te10156331382660048174,<-Fast.te11892475500146522536,<-Fast.te14364793385576792824]at h;cases a:through t with
  | true=>rw[a]at h;cases h;rfl
  | false =>
   rw[a]at h;cases b:stepOk m RZ t with
   | false=>rw[b]at h;cases h
   | true =>
    rw[b]at h;cases c:stepT (denote treeTable) p w s t with
    | none=>rw[c]at h;cases h
    | some y=>rw[c]at h;rw[stepT_spec c];exact topQ_of h
noncomputable def SR(l:List Obj):BT:=(l.foldl (fun(x:BT×Nat) o=>(x.1.ins x.2 o,x.2+1)) (.nil,0)).1
theorem JK(P:Params):absHeap (SR (boot_heap P).objs.toList) (boot_heap P).objs.size (boot_heap P).life=boot_heap P:=by kernel_rfl
theorem JL(P:Params):(boot_heap P).isNs mainGlobals=true:=by kernel_rfl
def Fm(p:Program)(row:String)(b:Bool)(N:Nat)(w:World)(os:OsState):Option SharedT :=
 topQ p (w.withFollow row b) (boot_heap w.params).objs.size ((boot_heap w.params).nsMap mainGlobals "__annotations__") N ⟨SR (boot_heap w.params).objs.toList,(boot_heap w.params).objs.size,(boot_heap w.params).life,.mk [],boot_drawn,boot_toks,os⟩ (topStub p)
def R6(p:Program)(w:World)(s:SharedT):Bool:=staticsOk (importedModules p.main.body) (boot_heap w.params) s.abs.heap&&namesBound p s.abs.heap&&gensDone s.abs&&laidKept (boot_heap w.params) s.abs.heap
theorem oX{p:Program}{row:String}{b:Bool}{N:Nat}{w:World}{α:Type}{g:Shared->α}{a:α}(e:opening p=plainProg p.main.scope.names)(hN:Nat.ble 600 N=true)(f:∀s,fenceModules? p s=some s)
 (h:∀os,(Fm p row b N w os).map (λs=>(R6 p w s,g s.abs))=some (true,a)):(Dg p row b N w).map g=some a:=by
 obtain⟨⟨hp,gs,d,k,os⟩,h1,h2⟩:=kJ.mp (boot_open e hN f w);obtain⟨rfl,rfl,rfl,rfl⟩:hp=boot_heap w.params/\gs=.mk []/\d=boot_drawn/\k=boot_toks:=by simpa using h2
 obtain⟨s,h3,h4⟩:=kJ.mp (h os);have h5:=topQ_of h3;unfold SharedT.abs at h5;rw[JK]at h5;unfold Dg;rw[h1];show Option.map g (topFrom treeTable p (w.withFollow row b) N _)=_;unfold topFrom;dsimp only
 rw[JL,h5];have h6:=(Prod.mk.inj h4).1;unfold R6 SharedT.abs at h6;show Option.map g (match staticsOk (importedModules p.main.body) (boot_heap w.params) (absHeap s.tree s.n s.life)&&namesBound p (absHeap s.tree s.n s.life)&&gensDone ⟨absHeap s.tree s.n s.life,s.gens,s.drawn,s.toks,s.os⟩&&laidKept (boot_heap w.params) (absHeap s.tree s.n s.life)with | true=>_ | false=>_)=_
 rw[h6];exact gA some (Prod.mk.inj h4).2
theorem NT{p q:Program}{loose:List Str}{Xt:Shared->Bool}{α:Type}{Yf:Shared->α}{Ya:World->α}{N:Nat}{g0:Bool}(row:String)(e:opening p=plainProg p.main.scope.names)(hN:Nat.ble 600 N=true)(f:∀s,fenceModules? p s=some s)
 (h0:∀w os,(Fm p row false N w os).map (λs=>(R6 p w s,openSeen q loose (importedModules p.main.body) Xt g0 s.abs,Yf s.abs))=some (true,openGood q loose,Ya (w.withFollow row false)))
 (h1:∀w os,(Fm p row true N w os).map (λs=>(R6 p w s,openSeen q loose (importedModules p.main.body) Xt g0 s.abs,Yf s.abs))=some (true,openGood q loose,Ya (w.withFollow row true))):LeftO p q loose Xt Yf Ya N g0:=by
 have fs:∀{β γ δ:Type} {o:Option δ} {a:δ->β} {b:δ->γ} {x:β} {y:γ},o.map (λs=>(a s,b s))=some (x,y)->o.map a=some x/\o.map b=some y:=λ{_ _ _ o _ _ _ _} h=>by
  cases o with
  | none=>cases h
  | some s=>cases h;exact⟨rfl,rfl⟩
 exact Dh row (λw=>(fs (oX e hN f λos=>h0 w os)).1) (λw=>(fs (oX e hN f λos=>h1 w os)).1) (λw=>(fs (oX e hN f λos=>h0 w os)).2) λw=>(fs (oX e hN f λos=>h1 w os)).2
end L2.U
namespace bG
open PySem L2 L2.U
noncomputable def top(i:Nat):Stmt:=PySem.Challenge.pw_lendrule_k55_calls_of_owners.main.body.getD i (.Pass ⟨0,0,0,0⟩)
def Bw(i j:Nat):Stmt:=match top i with | .ClassDef _ _ _ b _ _ _ _ _ _ _=>b.getD j (.Pass ⟨0,0,0,0⟩) | s=>s
abbrev Mx:Stmt:=Bw 60 0
abbrev Fo:Stmt:=Bw 61 0
abbrev JM:Stmt:=Bw 62 0
abbrev Bx:Stmt:=Bw 72 0
abbrev My:Stmt:=Bw 73 0
abbrev i4:Stmt:=Bw 62 1
abbrev i5:Stmt:=Bw 62 2
abbrev kr:Stmt:=Bw 62 3
abbrev nY:Stmt:=Bw 62 4
abbrev ku:Stmt:=Bw 62 5
abbrev u9:Stmt:=Bw 62 6
abbrev dU:Stmt:=Bw 62 7
abbrev kx:Stmt:=Bw 62 8
abbrev eP:Stmt:=Bw 62 9
noncomputable def gH:List (Str×Str):=[("put","put_acts"),("set","set_acts"),("fill","put_acts"),("copy","copy_acts"),("move","move_acts"),("drop","drop_acts"),("lend","lend_acts"),("sole","lend_acts"),("call","call_acts"),("if","if_acts"),("go","go_acts"),("say","say_acts"),("give","give_acts")]
def aI:Pg where
 defs:=([("leaves",7),("check_part",8),("part",9),("first",10),("is_copied",11),("kind_of",14),("is_holder",15),("shape_of",16),("acts",29),("asks_for_full",30),("is_lending",31),("touch",32),("touch_whole",33),("at_acts",34),("operand_acts",35),("target_acts",36),("put_acts",37),("set_acts",38),("copy_acts",39),("move_acts",40),("drop_acts",41),("lend_acts",42),("call_acts",43),("arg_act",44),("owner_act",45),("if_acts",46),("go_acts",47),("say_acts",48),("give_acts",49),("read_by",52),("written_by",53),("lent_by",54),("soled_by",55),("place_of",56),("check_held",63),("boxes_of",64),("pile_behind",65),("pieces",68),("operands",69),("acts_by_row",74),("row_of",75),("acts_of",76),("run_from_first",77),("begin",78),("run_on",79),("do_row",80),("row_behind",81),("do_acts",82),("do_act",83),("written",84),("strip_of",85),("number_put",86),("numbers_found",87),("do_call",88),("do_give",89),("given_back",90),("owned_by",91),("take_back",92),("run",94),("_law_cell_at",96),("_law_whole",97),("_law_names",98),("_law_spot",99),("_law_operand",100),("_law_call",101),("_law_row",102),("_law_wide",103),("_law_heads",104),("_law_rows",105),("_law_program",106),("_law_begin",107),("_law_number",108),("_law_reckon",109),("_law_done",110),("_law_onward",111),("_law_due",112),("_law_told",113),("law",114)]:List (String×Nat)).map λd=>(d.1,top d.2)
 cons:=[("HOLDER_WORDS",.ak [(.str "lent"),(.str "sole")]),("ROW",.int 0),("ACT",.int 1),("NAME",.int 2),("THROUGH",.int 3),("FIRST",.int 4),("MANY",.int 5),("TAKER",.int 6),("REST",.ak [(.str "rest"),(.str ""),(.bl false),(.int 0),(.int 0),(.str "")]),("HAND",.ak [(.str "hand"),(.str ""),(.bl false),(.int 0),(.int 0),(.str "")]),("ASKING",.ak [(.str "read"),(.str "turn"),(.str "empty"),(.str "lend"),(.str "sole"),(.str "give")]),("LENDING",.ak [(.str "lend"),(.str "sole")]),("MOST_BEGUN",.int 12)]
 dB:=["bool","dict","enumerate","int","isinstance","len","list","range","str","sum","tuple","zip"]
 tabs:=[("MAKERS",gH)]
 cls:=[("Box",Mx),("Grip",Fo),("Boxes",JM),("Frame",Bx),("Run",My)]
 gC:=[(("Boxes.new_tag":Str),"Boxes","new_tag",i4),(("Boxes.new_box":Str),"Boxes","new_box",i5),(("Boxes.owned":Str),"Boxes","owned",kr),(("Boxes.let":Str),"Boxes","let",nY),(("Boxes.touch":Str),"Boxes","touch",ku),(("Boxes.lend":Str),"Boxes","lend",u9),(("Boxes.touch_boxes":Str),"Boxes","touch_boxes",dU),(("Boxes.store":Str),"Boxes","store",kx),(("Boxes.let_go":Str),"Boxes","let_go",eP)]
 jv:=[("run",[.int 400])]
 wW:=[]
 flds:=["number","pile","value","boxes","tag","entries","boxes_made","tags_made","at","has","row","program","world","numbers","listed","frames","said","count"]
 eL:=[("TOUCHES",[("read",.str "read"),("give",.str "read"),("fill",.str "write"),("turn",.str "write"),("empty",.str "write"),("lend",.str "lend"),("sole",.str "sole")]),("SORTS",[("put",.ak [(.str "spot"),(.str "operand")]),("set",.ak [(.str "spot"),(.str "sign"),(.str "operand"),(.str "operand")]),("fill",.ak [(.str "spot"),(.str "operand")]),("copy",.ak [(.str "spot"),(.str "spot")]),("move",.ak [(.str "spot"),(.str "spot")]),("drop",.ak [(.str "spot")]),("lend",.ak [(.str "name"),(.str "spot")]),("sole",.ak [(.str "name"),(.str "spot")]),("call",.ak [(.str "name"),(.str "function"),(.str "args")]),("if",.ak [(.str "operand"),(.str "operand"),(.str "row")]),("go",.ak [(.str "row")]),("say",.ak [(.str "operand")]),("give",.ak [(.str "name")])])]
 se:=[]
 SJ:=[(("leaves":Str),[(("told":Str),1)]),(("acts":Str),[(("told":Str),1)]),(("call_acts":Str),[(("told":Str),1)]),(("check_held":Str),[(("has":Str),1)]),(("boxes_of":Str),[(("has":Str),1)]),(("acts_by_row":Str),[(("told":Str),2)]),(("run_from_first":Str),[(("run":Str),1),(("[return]":Str),1)]),(("begin":Str),[(("has":Str),1),(("frames":Str),2)]),(("run_on":Str),[(("run":Str),1),(("frames":Str),1)]),(("do_row":Str),[(("frame":Str),1),(("run":Str),1),(("frames":Str),1),(("said":Str),1)]),(("do_acts":Str),[(("[return]":Str),7),(("found":Str),1)]),(("do_act":Str),[(("has":Str),1)]),(("numbers_found":Str),[(("numbers":Str),1)]),(("do_give":Str),[(("frames":Str),1)]),(("given_back":Str),[(("has":Str),1)]),(("owned_by":Str),[(("has":Str),1)]),(("take_back":Str),[(("frame":Str),1),(("has":Str),1)]),(("run":Str),[(("going":Str),1),(("frames":Str),1),(("said":Str),1)]),(("_law_names":Str),[(("_law_names_here":Str),1)]),(("_law_rows":Str),[(("_law_rows_here":Str),1)]),(("_law_program":Str),[(("_law_program_here":Str),1)]),(("_law_begin":Str),[(("_law_kept":Str),1)]),(("_law_done":Str),[(("_law_kept":Str),1)]),(("_law_onward":Str),[(("_law_kept":Str),1),(("_law_said":Str),1),(("_law_frame":Str),1)]),(("_law_due":Str),[(("_law_numbers":Str),1),(("_law_frames":Str),3),(("_law_frame":Str),1),(("_law_said":Str),1)]),(("Boxes.new_tag":Str),[(("self":Str),1)]),(("Boxes.new_box":Str),[(("box":Str),1),(("self":Str),1),(("entries":Str),1)]),(("Boxes.owned":Str),[(("[return]":Str),1)]),(("Boxes.lend":Str),[(("[return]":Str),1)]),(("Boxes.touch_boxes":Str),[(("found":Str),1),(("[return]":Str),7),(("box":Str),1),(("has":Str),1),(("entries":Str),1)]),(("Boxes.store":Str),[(("box":Str),1)]),(("Boxes.let_go":Str),[(("box":Str),1),(("entries":Str),1)]),(("Boxes":Str),[(("entries":Str),1)]),(("Frame":Str),[(("has":Str),1)]),(("Run":Str),[(("frames":Str),2),(("said":Str),1)])]
section
end
end bG
set_option maxHeartbeats 4000000
set_option maxHeartbeats 4000000
set_option maxHeartbeats 4000000
set_option maxHeartbeats 2000000
set_option maxHeartbeats 2000000
set_option maxHeartbeats 2000000
set_option maxHeartbeats 2000000
set_option maxHeartbeats 2000000
set_option maxHeartbeats 2000000
set_option maxHeartbeats 2000000
set_option maxHeartbeats 4000000
set_option maxHeartbeats 4000000
set_option maxHeartbeats 4000000
set_option maxHeartbeats 4000000
set_option maxHeartbeats 4000000
set_option maxHeartbeats 4000000
set_option maxHeartbeats 4000000
set_option maxHeartbeats 4000000
set_option maxHeartbeats 4000000
set_option maxHeartbeats 4000000
set_option maxHeartbeats 4000000
set_option maxHeartbeats 4000000
set_option maxHeartbeats 4000000
set_option maxHeartbeats 4000000
set_option maxHeartbeats 4000000
set_option maxHeartbeats 4000000
set_option maxHeartbeats 4000000
set_option maxHeartbeats 4000000
set_option maxHeartbeats 4000000
set_option maxHeartbeats 4000000
set_option maxHeartbeats 4000000
set_option maxHeartbeats 4000000
set_option maxHeartbeats 4000000
set_option maxHeartbeats 4000000
set_option maxHeartbeats 4000000
set_option maxHeartbeats 4000000
set_option maxHeartbeats 4000000
set_option maxHeartbeats 4000000
set_option maxHeartbeats 4000000
set_option maxHeartbeats 4000000
set_option maxHeartbeats 4000000
set_option maxHeartbeats 4000000
set_option maxHeartbeats 4000000
set_option maxHeartbeats 4000000
set_option maxHeartbeats 4000000
set_option maxHeartbeats 4000000
set_option maxHeartbeats 4000000
set_option maxHeartbeats 4000000
set_option maxHeartbeats 4000000
set_option maxHeartbeats 4000000
set_option maxHeartbeats 4000000
set_option maxHeartbeats 4000000
set_option maxHeartbeats 4000000
set_option maxHeartbeats 4000000
noncomputable section
namespace bG
open PySem L2 L2.U
theorem SQ:aI.defs.all (λd=>Jl d.2)=true:=by kernel_rfl
theorem hbd:Fe aI:=by
 intro kV doc pm an cU ct u;kernel_rfl
theorem Xz:aI.cls.all (λd=>Jl d.2)=true:=by kernel_rfl
theorem XA:NQ aI:=by
 intro kV doc pm an cU ct u;kernel_rfl
theorem XB:aI.gC.all (λd=>Jl d.2.2.2)=true:=by kernel_rfl
theorem XC:E8 aI:=by
 intro kV doc pm an cU ct u;kernel_rfl
theorem hnd:(aI.defs.map (·.1)++aI.gC.map (·.1)).Nodup:=by decide +kernel
theorem p8:aI.defs.lookup ("run":Str)=some (top 94):=by kernel_rfl
theorem XD:NP "run" (top 94) 1:=by
 intro T kV doc pm an cU ct u v;exact⟨⟨_,rfl,rfl⟩,⟨_,rfl,rfl⟩⟩
theorem SS:Mw aI:=by
 intro d hd ds e;have h:=jW (zo.mp hnd).1 hd;have e:(match d.1==("run":Str)with | true=>some [PV.int 400] | false=>List.lookup d.1 [])=some ds:=e
 cases hc:d.1==("run":Str)
 ·rw[hc]at e;cases e
 ·rw[hc]at e;cases e;rw[nv.mp hc,p8]at h;have h:=bE h;rw[nv.mp hc,<-h];exact XD
noncomputable abbrev pp:Program:=W.OpenLaw.prog PySem.Challenge.rw_lendrule_k55_calls_of_owners
def qv:Program:=W.view pp [114]
def lo:List Str:=pp.boundNames.filter (· != "law")
def Xt(s:Shared):Bool:=W.xlAt qv [] s&&W.recOk (W.RowW.records (W.OpenRow.toRowW (W.OpenLaw.row PySem.Challenge.rw_lendrule_k55_calls_of_owners))) s
abbrev hk:W.Hook:=JJ aI ⟨SQ,hbd,Xz,XA,XB,XC,SS⟩
theorem kq1(w:World)(os:OsState):(Fm pp "special-get-raises" false 7000 w os).map (λs=>(R6 pp w s,W.openSeen qv lo (importedModules pp.main.body) Xt true s.abs,W.Hook.obs hk s.abs))=some (true,W.openGood qv lo,W.Hook.val hk (w.withFollow "special-get-raises" false)):=by kernel_rfl
theorem kq2(w:World)(os:OsState):(Fm pp "special-get-raises" true 7000 w os).map (λs=>(R6 pp w s,W.openSeen qv lo (importedModules pp.main.body) Xt true s.abs,W.Hook.obs hk s.abs))=some (true,W.openGood qv lo,W.Hook.val hk (w.withFollow "special-get-raises" true)):=by kernel_rfl
theorem ws1:(W.OpenLaw.row PySem.Challenge.rw_lendrule_k55_calls_of_owners).wellSaid=true:=by kernel_rfl
theorem ws:W.OpenLaw.wellSaid PySem.Challenge.rw_lendrule_k55_calls_of_owners=true:=by
 unfold W.OpenLaw.wellSaid;rw[ws1];kernel_rfl
end bG
open PySem PySem.W PyProof.Rows PySem.Calls
set_option maxRecDepth 100000 in
set_option maxHeartbeats 0 in
theorem bG.gW(hc:∀d:DefRec,d.name="law"->d.params.defaults=[]->W.WalkO bG.qv bG.lo (XL bG.qv []) (Hook.says bG.hk) (W.OpenRow.toRowW (W.OpenLaw.row PySem.Challenge.rw_lendrule_k55_calls_of_owners)) d [] (λf vs=>PySem.call f vs)):PySem.Challenge.rw_lendrule_k55_calls_of_owners.Holds:=by
 w_on;refine W.holds_law bG.ws λaU=>?_
 refine W.holds_open (q:=bG.qv) (loose:=bG.lo) (Xt:=bG.Xt) (XP:=XL bG.qv []) (Yf:=Hook.obs bG.hk) (Ya:=Hook.val bG.hk) (YP:=Hook.says bG.hk) (N:=7000) (L2.U.NT "special-get-raises" (by kernel_rfl) (by decide) (λ_=>rfl) bG.kq1 bG.kq2) (Hook.of _) (Hook.keeps _) (λs e=>xl_of s (pF.mp e).1) XL.keeps (by rfl) (by rfl) (by rfl) (λs e=>recFacts_of (pF.mp e).2) (by rfl) (by first | assumption | decide +kernel) (by decide +kernel) ⟨rfl,rfl,rfl,rfl,rfl,by decide +kernel⟩ ?hw (hc _ rfl rfl)
 case hw=>w_witness2
end
namespace L2
open PySem PySem.Spec PyProof.Rows
noncomputable def sT:dZ->Value->Bool
 | .inl k,v=>Value.isInt k v
 | .inr x,v=>Value.isStrOf x v
noncomputable def XE(w:World):dZ->Int
 | .inl k=>hashInt k
 | .inr x=>hashStr w x
theorem cM:∀{k:dZ} {v:Value},sT k v=true->(∃i t,k=Sum.inl i/\v=Value.int i t)\/(∃x t,k=Sum.inr x/\v=Value.str x t)
 | .inl i,v,h=>by
  obtain⟨t,e⟩:=Value.isInt_shape h;exact .inl ⟨i,t,rfl,e⟩
 | .inr x,v,h=>by
  obtain⟨t,e⟩:=Value.isStrOf_shape h;exact .inr ⟨x,t,rfl,e⟩
def Di(i:Int)(t:Tok):sT (.inl i) (.int i t)=true:=by simp[sT,Value.isInt]
def Dj(x:Str)(t:Tok):sT (.inr x) (.str x t)=true:=by simp[sT,Value.isStrOf]
def NU(a b:Int):decide ((Sum.inl a:dZ)=Sum.inl b)=(a==b):=by
 grind
def NV(a b:Str):decide ((Sum.inr a:dZ)=Sum.inr b)=decide (a=b):=by
 grind
def NW(a:Int)(b:Str):decide ((Sum.inl a:dZ)=Sum.inr b)=false:=by grind
def NX(a:Str)(b:Int):decide ((Sum.inr a:dZ)=Sum.inl b)=false:=by grind
def dI(prog:Program)(w:World):PySem.KeyKind prog w dZ where
 is:=sT
 hash:=XE w
 inj:=λv a b ha hb=>by
  rcases cM ha with⟨i,t,rfl,rfl⟩ | ⟨x,t,rfl,rfl⟩
  ·rcases cM hb with⟨j,u,rfl,e⟩ | ⟨y,u,rfl,e⟩
   ·injection e with e1 _;rw[e1]
   ·exact nomatch e
  ·rcases cM hb with⟨j,u,rfl,e⟩ | ⟨y,u,rfl,e⟩
   ·exact nomatch e
   ·injection e with e1 _;rw[e1]
 byValue:=λk v h=>by
  rcases cM h with⟨i,t,rfl,rfl⟩ | ⟨x,t,rfl,rfl⟩<;>rfl
 pyHash:=λhv h=>by
  rcases cM hv with⟨i,t,rfl,rfl⟩ | ⟨x,t,rfl,rfl⟩
  ·exact wpAny_pyHash_int h
  ·exact wpAny_pyHash_str h
 eqBool:=λhu hv h=>by
  rcases cM hu with⟨i,t,rfl,rfl⟩ | ⟨x,t,rfl,rfl⟩
  ·rcases cM hv with⟨j,u,rfl,rfl⟩ | ⟨y,u,rfl,rfl⟩
   ·rw[NU]at h;exact wpAny_eqBool_int h
   ·rw[NW]at h;exact SeqAt.EqAt.int_str i t y u _ _ _ _ h
  ·rcases cM hv with⟨j,u,rfl,rfl⟩ | ⟨y,u,rfl,rfl⟩
   ·rw[NX]at h;exact SeqAt.EqAt.str_int x t j u _ _ _ _ h
   ·rw[NV]at h;exact wpAny_eqBool_str h
 «strs» := λk x t v h=>by
  rcases cM h with⟨i,u,rfl,e⟩ | ⟨y,u,rfl,e⟩
  ·exact nomatch e
  ·injection e with e1 _
   subst e1;cases v<;>rfl
def wZ(prog:Program)(w:World)(i:Int)(t:Tok):(dI prog w).is (.inl i) (.int i t)=true:=Di i t
def w5(prog:Program)(w:World)(x:Str)(t:Tok):(dI prog w).is (.inr x) (.str x t)=true:=Dj x t
def Vals.length(r:Vals xs us):xs.length=us.length:=nh r
theorem Vals.get:∀{xs:List V} {us:List Value} {i:Nat} {x:V},Vals xs us->xs[i]?=some x->∃u,us[i]?=some u/\RelV x u
 | _,_,_,_,.nil,e=>by simp at e
 | _,_,0,_,.cons r _,e=>by grind
 | _,_,i+1,x,.cons _ t,e=>by
  obtain⟨u,h1,h2⟩:=Vals.get t (by simpa using e)
  exact⟨u,by grind,h2⟩
theorem Vals.set(r:RelV x u):∀{xs:List V} {us:List Value} (i:Nat),Vals xs us->Vals (xs.set i x) (us.set i u)
 | _,_,_,.nil=>.nil
 | _,_,0,.cons _ t=>.cons r t
 | _,_,i+1,.cons q t=>.cons q (Vals.set r i t)
theorem Vals.append:∀{xs ys:List V} {us ws:List Value},Vals xs us->Vals ys ws->Vals (xs++ys) (us++ws)
 | _,_,_,_,.nil,s=>s
 | _,_,_,_,.cons r t,s=>.cons r (Vals.append t s)
theorem Vals.take:∀{xs:List V} {us:List Value} (n:Nat),Vals xs us->Vals (xs.take n) (us.take n)
 | _,_,0,_=>.nil
 | _,_,_+1,.nil=>.nil
 | _,_,n+1,.cons r t=>.cons r (Vals.take n t)
theorem Vals.drop:∀{xs:List V} {us:List Value} (n:Nat),Vals xs us->Vals (xs.drop n) (us.drop n)
 | _,_,0,r=>r
 | _,_,_+1,.nil=>.nil
 | _,_,n+1,.cons _ t=>Vals.drop n t
def Vals.none_of:∀{xs:List V} {us:List Value} {i:Nat},Vals xs us->xs[i]?=none->us[i]?=none:=λ{xs us i} r e=>by
 have h1:=r.length;have h2:=ik.mp e;exact ik.mpr (by lia)
def oq:Option V->Option Value->Prop
 | some v,some u=>RelV v u
 | none,none=>True
 | _,_=>False
def KV{κ:Type}:List (κ×V)->List (κ×Value)->Prop:=Paired fun(p:κ×V) (q:κ×Value)=>p.1=q.1/\RelV p.2 q.2
noncomputable def cY(H:Hp)(a:Addr)(o:HO):Hp:=λb=>if b=a then some o else H b
def ay:cY H a o a=some o:=by unfold cY;rw[if_pos rfl]
def aM(h:b≠a):cY H a o b=H b:=by unfold cY;rw[if_neg h]
def dh{H:Hp}{a b:Addr}{o:HO}(h:H a=some o)(h':H b=none):a≠b:=by
 grind
def ot(h:Heap)(a:Addr)(au:Array Value):Prop:=∃o,h.get? a=some o/\o.cls=.type "tuple"/\(∃n,o.data=.seq au n)/\o.dict=none
def ot.new(h:Heap)(au:Array Value):ot (h.push {cls:=.type "tuple",data:=.seq au}) h.objs.size au:=⟨_,bP _ rfl,rfl,⟨_,rfl⟩,rfl⟩
def ot.is(t:ot h a au):IsTup h a au:=let ⟨o,e,c,n,_⟩:=t;⟨o,e,c,n⟩
section
variable (P:Program) (w:World)
def fJ(H:Hp)(h:Heap)(a:Addr):HO->Prop
 | .lst xs=>xs.length<=sizeLine/\∃(au:List Value) (n:Nat),Vals xs au/\h.get? a=some {cls:=.type "list",data:=.seq au.toArray n}
 | .ak xs=>xs.length<=sizeLine/\∃au:List Value,Vals xs au/\ot h a au.toArray
 | .dK kvs=>kvs.length<=sizeLine/\(a==sysModules)=false/\∃vs,KV kvs vs/\h.DictOf (dI P w) a vs
 | .dT xs=>xs.length<=sizeLine/\(a==sysModules)=false/\∃o es ep,h.get? a=some o/\o.ExactDict/\o.data=.dict es ep/\es.toList=xs.map (entryOfKey (tupleKind (dI P w)))/\(xs.map (·.1)).Nodup
 | .set S n=>h.SetOf (intKind P w) a S n
 | .ins C dx fs=>H dx=some (.own a)/\fs.length<=1000/\dx≠a/\h.get? a=some (W.instObj C dx) /\
   ∃mA,h.Ns1 dx mA/\(∀f,oq (fs.lookup f) (mA f))/\PySem.Within mA (fs.map (·.1))
 | .own _=>∃o,h.get? a=some o
 | .xd fs=>∃mA,h.Ns1 a mA/\∀f,oq (fs.lookup f) (mA f)
 | .WB lo hi=>∃t u v,h.get? a=some {cls:=.type "range",data:=.fields #[.int lo t,.int hi u,.int 1 v]}
 | .wV o u=>h.get? a=some o/\fJ H h a u
 | .zI q=>∃ps:Array Value,h.get? a=some {cls:=.none,data:=.fields ps}/\TriplesOk ps.toList/\∀(pos:Pos) (cv:Value),codeAmong pos ps.toList=some cv ->
   ∃(c:Addr) (oc:Obj) (u:HO) (vs:Array Value) (t:Tok),cv=.ref c/\H c=some (.wV oc u)/\oc.data=.fields vs/\vs[1]?=some (.str q t)
 | .WA f x=>h.get? a=some (W.methodObj (.ref f) (.ref x))
 | .ext φ=>φ h/\(∃o,h.get? a=some o)/\∀h1 h2:Heap,φ h1->(∀o,h1.get? a=some o->h2.get? a=some o)->φ h2
def lH(H:Hp)(h:Heap):Prop:=∀a o,H a=some o->fJ P w H h a o
end
section
variable {P:Program} {w:World} {H H':Hp} {h h':Heap} {a:Addr} {o:HO}
def fJ.lt(x:fJ P w H h a o):a<h.objs.size:=by
 cases o with
 | lst xs=>obtain⟨_,_,_,_,e⟩:=x;exact aH e
 | ak xs=>obtain⟨_,_,_,p⟩:=x;exact p.is.lt
 | dK kvs=>obtain⟨_,_,_,_,o,_,_,e,_⟩:=x;exact aH e
 | dT kvs=>obtain⟨_,_,o,_,_,e,_⟩:=x;exact aH e
 | set S n=>obtain⟨o,_,_,_,e,_⟩:=x;exact aH e
 | ins C dx fs=>obtain⟨_,_,_,e,_⟩:=x;exact aH e
 | own y=>obtain⟨_,e⟩:=x;exact aH e
 | xd fs=>obtain⟨_,⟨_,_,_,e,_⟩,_⟩:=x;exact aH e
 | WB lo hi=>obtain⟨_,_,_,e⟩:=x;exact aH e
 | wV ob u=>obtain⟨e,_⟩:=x;exact aH e
 | zI q=>obtain⟨_,e,_⟩:=x;exact aH e
 | WA f y=>exact aH (x)
 | ext φ=>obtain⟨_,⟨_,e⟩,_⟩:=x;exact aH e
def fJ.w6(x:fJ P w H h a o)(k:∀b u,(b=a\/H b=some (.own a))->h.get? b=some u->h'.get? b=some u)
  (ho:∀b,H b=some (.own a)->H' b=some (.own a)) (ht:∀b xs,H b=some (.ak xs)->H' b=some (.ak xs)) (hz:∀b ob u,H b=some (.wV ob u)->H' b=some (.wV ob u)):fJ P w H' h' a o:=by
 induction o with
 | lst xs=>obtain⟨z,au,n,r,e⟩:=x;exact⟨z,au,n,r,k _ _ (.inl rfl) e⟩
 | ak xs=>obtain⟨z,au,r,ob,e,c⟩:=x;exact⟨z,au,r,ob,k _ _ (.inl rfl) e,c⟩
 | dK kvs=>obtain⟨z,y,vs,r,ob,es,ep,e,c⟩:=x;exact⟨z,y,vs,r,ob,es,ep,k _ _ (.inl rfl) e,c⟩
 | dT kvs=>obtain⟨z,y,ob,es,ep,e,c⟩:=x;exact⟨z,y,ob,es,ep,k _ _ (.inl rfl) e,c⟩
 | set S n=>obtain⟨ob,es,ep,t,e,c⟩:=x;exact⟨ob,es,ep,t,k _ _ (.inl rfl) e,c⟩
 | ins C dx fs =>
  obtain⟨d,z,ne,e,mA,⟨od,es,ep,e2,c⟩,r⟩:=x;exact⟨ho _ d,z,ne,k _ _ (.inl rfl) e,mA,⟨od,es,ep,k _ _ (.inr d) e2,c⟩,r⟩
 | own y=>obtain⟨ob,e⟩:=x;exact⟨ob,k _ _ (.inl rfl) e⟩
 | xd fs=>obtain⟨mA,⟨od,es,ep,e,c⟩,r⟩:=x;exact⟨mA,⟨od,es,ep,k _ _ (.inl rfl) e,c⟩,r⟩
 | WB lo hi=>obtain⟨t,u,v,e⟩:=x;exact⟨t,u,v,k _ _ (.inl rfl) e⟩
 | wV ob u ih=>obtain⟨e,q⟩:=x;exact⟨k _ _ (.inl rfl) e,ih q⟩
 | zI q =>
  obtain⟨ps,e,t,c⟩:=x;exact⟨ps,k _ _ (.inl rfl) e,t,λpos cv z=>let ⟨c,oc,u,vs,tk,h1,h2,h3⟩:=c pos cv z;⟨c,oc,u,vs,tk,h1,hz _ _ _ h2,h3⟩⟩
 | WA f y =>
  have e:=x;exact k a _ (.inl rfl) e
 | ext φ=>obtain⟨p,⟨o,e⟩,st⟩:=x;exact⟨st _ _ p λo q=>k _ _ (.inl rfl) q,⟨o,k _ _ (.inl rfl) e⟩,st⟩
def lH.lt(x:lH P w H h)(e:H a=some o):a<h.objs.size:=(x a o e).lt
def lH.fresh(x:lH P w H h)(e:h.objs.size<=a):H a=none:=by
 cases q:H a with
 | none=>rfl
 | some u=>exact absurd (bV (x.lt q) e) (fB _)
def lH.kept(x:lH P w H h)(k:∀b u,h.get? b=some u->h'.get? b=some u):lH P w H h':=λa o e =>
 (x a o e).w6 (λb u _ q=>k b u q) (λ_ q=>q) (λ_ _ q=>q) λ_ _ _ q=>q
def lH.laid(x:lH P w H h)(k:∀b u,h.get? b=some u->h'.get? b=some u)(hp:h.objs.size<=a)(new:fJ P w (cY H a o) h' a o):lH P w (cY H a o) h':=λb u e=>by
 have hn:=x.fresh hp;by_cases hb:b=a
 ·subst hb;rw[ay]at e;cases e;exact new
 ·rw[aM hb]at e;exact(x b u e).w6 (λc v _ q=>k c v q) (λc q=>by rw[aM (dh q hn)];exact q) (λc xs q=>by rw[aM (dh q hn)];exact q) λc ob v q=>by rw[aM (dh q hn)];exact q
end
def Rd.ok(r:Rd H a u)(x:lH P w H h):fJ P w H h a u:=by
 rcases r with r | ⟨o,r⟩
 ·exact x a u r
 ·obtain⟨_,q⟩:=x a _ r;exact q
def WC:Option HO->Prop
 | some (.lst _)=>True
 | some (.dK _)=>True
 | some (.dT _)=>True
 | some (.set _ _)=>True
 | some (.ins _ _ _)=>True
 | some (.ext _)=>True
 | _=>False
section
variable {P:Program} {w:World} {H:Hp} {h h':Heap} {x e:Addr} {o':HO}
def lH.write(ok:lH P w H h)(mu:WC (H x))(he:e=x\/H e=some (.own x))(k:∀b u,b≠e->h.get? b=some u->h'.get? b=some u)(R7:∃u,h'.get? e=some u)
  (new:fJ P w (cY H x o') h' x o'):lH P w (cY H x o') h':=λb u q=>by
 have SU:∀c y,H c=some (.own y)->c≠x:=λc y r z=>by subst z;rw[r]at mu;exact mu
 have XF:∀c xs,H c=some (.ak xs)->c≠x:=λc xs r z=>by subst z;rw[r]at mu;exact mu
 have XG:∀c ob v,H c=some (.wV ob v)->c≠x:=λc ob v r z=>by subst z;rw[r]at mu;exact mu
 by_cases hb:b=x
 ·subst hb;rw[ay]at q;cases q;exact new
 ·rw[aM hb]at q;by_cases NY:b=e
  ·have q':H b=some (.own x):=by
    rcases he with z | z
    ·exact absurd (NY.trans z) hb
    ·rw[NY];exact z
   rw[q]at q';cases q';obtain⟨v,hv⟩:=R7;exact⟨v,by rw[NY];exact hv⟩
  ·refine(ok b u q).w6 (λc v hc r=>k c v ?_ r) (λc r=>by rw[aM (SU c b r)];exact r) (λc xs r=>by rw[aM (XF c xs r)];exact r) λc ob v r=>by rw[aM (XG c ob v r)];exact r
   rcases hc with rfl | hc
   ·exact NY
   ·rintro rfl
    rcases he with z | z
    ·exact SU c b hc z
    ·rw[hc]at z;cases z;exact hb rfl
end
structure Un (fs ex:List Addr) (H H':Hp) (h h':Heap):Prop where
 keep:∀b o,h.get? b=some o->H b=none->b∉fs->b∉ex->h'.get? b=some o
 slot:∀b o,h.get? b=some o->H b=none->b∈fs->b∉ex->∃sl,h'.get? b=some {o with slots:=sl}
 free:∀b o,h.get? b=some o->H b=none->b∉ex->H' b=none
 there:∀b o,h.get? b=some o->b∉ex->∃o',h'.get? b=some o'
 tups:∀b xs,H b=some (.ak xs)->H' b=some (.ak xs)
 frzs:∀b o u,H b=some (.wV o u)->H' b=some (.wV o u)
 tbls:∀b q,H b=some (.zI q)->H' b=some (.zI q)
section
variable {fs Mz ex ex':List Addr} {H H1 H2:Hp} {h h1 h2 h':Heap} {a x e:Addr} {o:HO}
def Un.any(u:Un fs ex H H1 h h1)(q:h.get? b=some ob)(n:H b=none)(hx:b∉ex):∃sl,h1.get? b=some {ob with slots:=sl}:=by
 by_cases hb:b∈fs
 ·exact u.slot b ob q n hb hx
 ·exact⟨ob.slots,u.keep b ob q n hb hx⟩
def Un.trans(a:Un fs ex H H1 h h1)(b:Un fs ex H1 H2 h1 h2):Un fs ex H H2 h h2 where
 keep:=λc ob q n hc hx=>b.keep c ob (a.keep c ob q n hc hx) (a.free c ob q n hx) hc hx
 slot:=λc ob q n hc hx=>by
  obtain⟨sl,e1⟩:=a.slot c ob q n hc hx;obtain⟨SV,e2⟩:=b.slot c _ e1 (a.free c ob q n hx) hc hx;exact⟨SV,e2⟩
 free:=λc ob q n hx=>by
  obtain⟨o',e1⟩:=a.there c ob q hx;exact b.free c o' e1 (a.free c ob q n hx) hx
 there:=λc ob q hx=>by
  obtain⟨o',e1⟩:=a.there c ob q hx;exact b.there c o' e1 hx
 tups:=λc xs q=>b.tups c xs (a.tups c xs q)
 frzs:=λc ob xs q=>b.frzs c ob xs (a.frzs c ob xs q)
 tbls:=λc q e=>b.tbls c q (a.tbls c q e)
def Un.kept(k:∀b u,h.get? b=some u->h'.get? b=some u):Un fs ex H H h h' :=
 ⟨λb ob q _ _ _=>k b ob q,λb ob q _ _ _=>⟨ob.slots,k b ob q⟩,λ_ _ _ n _=>n,λb ob q _=>⟨ob,k b ob q⟩,λ_ _ q=>q,λ_ _ _ q=>q,λ_ _ q=>q⟩
def Un.refl:Un fs ex H H h h:=Un.kept λ_ _ q=>q
def Un.laid(k:∀b u,h.get? b=some u->h'.get? b=some u)(hp:h.objs.size<=a)(hn:H a=none):Un fs ex H (cY H a o) h h' where
 keep:=λb u q _ _ _=>k b u q
 slot:=λb u q _ _ _=>⟨u.slots,k b u q⟩
 free:=λb u q n _=>by rw[aM (bF (bV (aH q) hp))];exact n
 there:=λb u q _=>⟨u,k b u q⟩
 tups:=λb xs q=>by rw[aM (dh q hn)];exact q
 frzs:=λb u xs q=>by rw[aM (dh q hn)];exact q
 tbls:=λb ps q=>by rw[aM (dh q hn)];exact q
def Un.write(mu:WC (H x))(he:e=x\/H e=some (.own x))(k:∀b u,b≠e->h.get? b=some u->h'.get? b=some u)(R7:∃u,h'.get? e=some u):Un fs ex H (cY H x o) h h':=by
 have hx:∀b,H b=none->b≠x:=λb n z=>by subst z;rw[n]at mu;exact mu
 have hb:∀b,H b=none->b≠e:=λb n z=>by
  subst z;rcases he with r | r
  ·exact hx b n r
  ·rw[n]at r;cases r
 have hm:∀b u,H b=some u->¬WC (some u)->b≠x:=λb u q nm z=>by subst z;rw[q]at mu;exact nm mu
 refine⟨λb u q n _ _=>k b u (hb b n) q,λb u q n _ _=>⟨u.slots,k b u (hb b n) q⟩,λb u q n _=>by rw[aM (hx b n)];exact n,λb u q _=>?_,
  λb xs q=>by rw[aM (hm b _ q λz=>z)];exact q,λb u xs q=>by rw[aM (hm b _ q λz=>z)];exact q,λb ps q=>by rw[aM (hm b _ q λz=>z)];exact q⟩
 by_cases NY:b=e
 ·subst NY;exact R7
 ·exact⟨u,k b u NY q⟩
end
noncomputable def WD(h:Heap)(H:Hp):List Addr:=(List.range h.objs.size).filter λa=>(H a).isSome
def w9(h:Heap)(H:Hp):Heap:=W.hideAll h (WD h H)
def Dk(h:Heap)(H:Hp):(w9 h H).objs.size=h.objs.size:=W.hideAll_size _ _
def hidT_get(e:h.get? b=some o)(n:H b=none):(w9 h H).get? b=some o :=
 W.hideAll_get _ e λhm=>by
  have q:=(zC.mp hm).2;rw[n]at q;simp at q
def of_hidT(e:(w9 h H).get? b=some o):h.get? b=some o/\H b=none:=by
 have e':=W.of_hideAll (WD h H) e;refine⟨e',?_⟩;cases q:H b with
 | none=>rfl
 | some x =>
  have hm:b∈WD h H:=zC.mpr ⟨uV.mpr (aH e'),by simp[q]⟩
  have z:(w9 h H).get? b=none:=W.hideAll_none (WD h H) hm;rw[z]at e;cases e
structure Mod (K:W.Frag) (mg:Str->Option Value) (base:Heap):Prop where
 kin:K.In base
 glob:base.Ns mainGlobals mg
 blt:∃mb,base.Ns builtinsNs mb/\∀x:Str,x≠"__name__"->mb x=bootBuiltins x
 nolimit:base.NoLimit
structure Cx where
 prog:Program
 w:World
 K:W.Frag
 mg:Str->Option Value
 base:Heap
 A:Around
 N:List Str
 s₀:Shared
 aa:Hp
 env:Env
 ax:List Env
 stack:List Env
 ex:List Addr
 fn:Str->Bool
 calm:Bool
 pn:List (Addr×Obj)
 xe:Value->Shared->Prop
noncomputable def fD(l:List Env):List Addr:=l.filterMap (·.frame)
abbrev Cx.fs(X:Cx):List Addr:=fD X.ax
def SW(sc:Scope)(x:Str):Prop:=sc.names.lookup x=some .local\/sc.names.lookup x=some .cell\/sc.names.lookup x=some .free
def MA(sc:Scope)(x:Str):Prop:=sc.names.lookup x=some .local\/sc.names.lookup x=some .cell
def Look(env:Env)(h:Heap)(m:Str->Option Value)(x:Str)(u:Value):Prop :=
 (env.kindOf x=some .local/\m x=some u)\/((env.kindOf x=some .cell\/env.kindOf x=some .free)/\∃c,env.cells.lookup x=some c/\h.IsCell c (some u))
noncomputable def JN(x:Str):Str:=x++".<locals>."++"<lambda>"
def p9(K:W.Frag)(H:Hp):Prop:=∀x∈dA,∀c T,W.tabIn K x=some (c,T)->H T=some (.zI (JN x))
structure Cx.Ok (X:Cx):Prop where
 mod:Mod X.K X.mg X.base
 kind:X.env.scope.kind=.function
 glob:X.env.globals=mainGlobals
 blt:X.env.builtins=builtinsNs
 above:X.s₀.heap.objs.size<=X.env.locals
 inj:∀x y c,X.env.cells.lookup x=some c->X.env.cells.lookup y=some c->x=y
 has:∀x,(X.env.kindOf x=some .cell\/X.env.kindOf x=some .free)->∃c,X.env.cells.lookup x=some c
 cab:∀x c,X.fn x=true->X.env.cells.lookup x=some c->X.s₀.heap.objs.size<=c
 hd:X.calm=true->X.A.handled=none
 frames:X.A.frames=some X.stack
 stk:X.stack=X.ax\/(X.stack=X.env::X.ax/\X.env.frame=some X.env.locals)
 exf:∀b∈X.ex,b≠X.env.locals/\∀x c,X.env.cells.lookup x=some c->c≠b
 bs:∀b o,X.base.get? b=some o->X.s₀.heap.get? b=some o/\X.aa b=none
 bsz:X.base.objs.size<=X.s₀.heap.objs.size
 noex:∀b o,X.base.get? b=some o->b∉X.ex
 exfs:∀b∈X.ex,b∉X.fs
 funs:X.s₀.heap.FunFrames X.base X.ax
 frf:∀b∈X.fs,X.aa b=none
 tabs:p9 X.K X.aa
structure Inv (X:Cx) (af:List (Addr×Obj)) (σ:List (Option V)) (H:Hp) (s:Shared):Prop where
 ok:X.Ok
 os:s.os=X.s₀.os
 bare:AllBare s.gens
 base:Un X.fs X.ex X.aa H X.s₀.heap s.heap
 loc:∃m,s.heap.Ns X.env.locals m/\∀(i:Nat) (x:Str) (v:V),X.N[i]?=some x->σ[i]?=some (some v)->SW X.env.scope x->∃u,RelV v u/\Look X.env s.heap m x u
 cell:∀x c,X.env.cells.lookup x=some c->∃v,s.heap.IsCell c v
 free:H X.env.locals=none
 freeC:∀x c,X.env.cells.lookup x=some c->H c=none
 pin:∀p∈X.pn++af,s.heap.get? p.1=some p.2/\H p.1=none/\p.1≠X.env.locals/\p.1∉X.fs/\∀v,p.2.data≠.cell v
 hok:lH X.prog X.w H s.heap
 len:σ.length=X.N.length
section
variable {X:Cx} {af:List (Addr×Obj)} {σ:List (Option V)} {H H':Hp} {s:Shared} {h':Heap}
def Cx.Ok.XH(ok:X.Ok)(e:X.base.get? b=some o):b∉X.fs:=λhb=>by
 have:=(ok.funs.mem hb).1;rw[e]at this;cases this
def Inv.bs(I:Inv X af σ H s):∀b o,X.base.get? b=some o->s.heap.get? b=some o/\H b=none:=λb o e =>
 ⟨I.base.keep b o (I.ok.bs b o e).1 (I.ok.bs b o e).2 (I.ok.XH e) (I.ok.noex b o e),I.base.free b o (I.ok.bs b o e).1 (I.ok.bs b o e).2 (I.ok.noex b o e)⟩
def Inv.bk(I:Inv X af σ H s):∀b o,X.base.get? b=some o->s.heap.get? b=some o:=λb o e=>(I.bs b o e).1
def Inv.mod(I:Inv X af σ H s):Mod X.K X.mg X.base:=I.ok.mod
def Inv.ou(I:Inv X af σ H s):X.K.In s.heap:=I.ok.mod.kin.keeps I.bk
def Inv.lt(I:Inv X af σ H s):X.env.locals<s.heap.objs.size:=let ⟨_,hn,_⟩:=I.loc;hn.lt
def Inv.sz(I:Inv X af σ H s):X.s₀.heap.objs.size<=s.heap.objs.size:=aX I.ok.above (u0 I.lt)
def Inv.XI(I:Inv X af σ H s){a:Addr}(h:s.heap.objs.size<=a):a∉X.fs:=λhb=>by
 obtain⟨_,o,ho,_⟩:=I.ok.funs.mem hb;exact absurd (bV (aH ho) (aX I.sz h)) (fB _)
def Inv.NZ(I:Inv X af σ H s):∀x c,X.env.cells.lookup x=some c->c≠X.env.locals:=λx c e z=>by
 obtain⟨v,o,ho,hd⟩:=I.cell x c e;obtain⟨m,⟨o',es,ep,qa,SX,_⟩,_⟩:=I.loc;rw[z,qa]at ho;cases ho;rw[SX]at hd;cases hd
def Inv.funs(I:Inv X af σ H s):s.heap.FunFrames X.base X.ax:=by
 have all:∀l,(∀b∈fD l,b∈X.fs)->X.s₀.heap.FunFrames X.base l->s.heap.FunFrames X.base l:=by
  intro l;induction l with
  | nil=>intro _ _;trivial
  | cons env r ih =>
   intro hs hl;obtain⟨hk,⟨L,o,hf,hn,ho,hd⟩,hr⟩:=hl;have hL:=hs L (by unfold fD;rw[zi,hf];exact dy)
   obtain⟨sl,e⟩:=I.base.slot L o ho (I.ok.frf L hL) hL λz=>I.ok.exfs L z hL
   exact⟨hk,⟨L,_,hf,hn,e,hd⟩,ih (λb hb=>hs b (by unfold fD;rw[zi,hf];exact cW _ hb)) hr⟩
 exact all X.ax (λ_ hb=>hb) I.ok.funs
def Inv.stack(I:Inv X af σ H s):s.heap.FunFrames X.base X.stack:=by
 rcases I.ok.stk with e | ⟨e,hf⟩
 ·rw[e];exact I.funs
 ·rw[e];obtain⟨m,hn,_⟩:=I.loc;refine .cons (by rw[I.ok.kind];decide) hf hn ?_ I.funs
  exact Heap.get?_none_of_le (aX I.ok.bsz I.ok.above)
def Inv.vc(I:Inv X af σ H s):∀b∈fD X.stack,b∈X.env.locals::X.fs:=λb hb=>by
 rcases I.ok.stk with e | ⟨e,hf⟩
 ·rw[e]at hb;exact cW _ hb
 ·rw[e]at hb;unfold fD at hb;rw[zi,hf]at hb;exact hb
def Inv.vd(I:Inv X af σ H s):∀b∈fD X.stack,H b=none:=λb hb=>by
 rcases aD.mp (I.vc b hb)with e | hb
 ·rw[e];exact I.free
 ·obtain⟨_,o,ho,_⟩:=I.ok.funs.mem hb;exact I.base.free b o ho (I.ok.frf b hb) λz=>I.ok.exfs b z hb
def Inv.tabs(I:Inv X af σ H s):p9 X.K H:=λx hx c T e=>I.base.tbls T _ (I.ok.tabs x hx c T e)
def Inv.step{g':Array GenState}{t':Nat}{d':Drawn}{ch:List Addr}(I:Inv X af σ H s)
  (MB:∀b∈ch,(b∈X.ex\/X.s₀.heap.objs.size<=b)/\b≠X.env.locals/\(∀x c,X.env.cells.lookup x=some c->c≠b)/\∀p∈X.pn++af,p.1≠b)
  (keep:∀b o,b≠X.env.locals->b∉X.fs->b∉ch->s.heap.get? b=some o->H b=none->h'.get? b=some o)
  (slot:∀b o,b≠X.env.locals->b∈X.fs->b∉ch->s.heap.get? b=some o->H b=none->∃sl,h'.get? b=some {o with slots:=sl}) (free:∀b o,b∉ch->s.heap.get? b=some o->H b=none->H' b=none)
  (there:∀b o,b∉ch->s.heap.get? b=some o->∃o',h'.get? b=some o')
  (tups:∀b xs,H b=some (.ak xs)->H' b=some (.ak xs)) (frzs:∀b o u,H b=some (.wV o u)->H' b=some (.wV o u)) (tbls:∀b q,H b=some (.zI q)->H' b=some (.zI q))
  (ns:∀m,s.heap.Ns X.env.locals m->h'.Ns X.env.locals m) (hok:lH X.prog X.w H' h') (hg:AllBare g') :
  Inv X af σ H' {s with heap:=h',gens:=g',drawn:=d',toks:=t'}:=by
 have neL:∀b o,X.s₀.heap.get? b=some o->b≠X.env.locals:=λb o e=>bF (bV (aH e) I.ok.above)
 have WE:∀b o,X.s₀.heap.get? b=some o->b∉X.ex->b∉ch:=λb o e hx hb=>by
  rcases(MB b hb).1 with z | z
  ·exact hx z
  ·exact absurd (bV (aH e) z) (fB _)
 have cellK:∀x c,X.env.cells.lookup x=some c->∀v,s.heap.IsCell c v->h'.IsCell c v:=by
  rintro x c e v ⟨o,ho,hd⟩
  have SY:c∉ch:=by grind
  by_cases hc:c∈X.fs
  ·obtain⟨sl,q⟩:=slot c o (I.NZ x c e) hc SY ho (I.freeC x c e);exact⟨_,q,hd⟩
  ·exact⟨o,keep c o (I.NZ x c e) hc SY ho (I.freeC x c e),hd⟩
 refine⟨I.ok,I.os,hg,⟨λb o e n hb hx=>?_,λb o e n hb hx=>?_,λb o e n hx=>?_,λb o e hx=>?_,λb xs e=>tups b xs (I.base.tups b xs e),λb o xs e=>frzs b o xs (I.base.frzs b o xs e),λb ps e=>?_⟩,?_,λx c e=>?_,?_,λx c e=>?_,λp hp=>?_,hok,I.len⟩
 ·exact keep b o (neL b o e) hb (WE b o e hx) (I.base.keep b o e n hb hx) (I.base.free b o e n hx)
 ·obtain⟨sl,e1⟩:=I.base.slot b o e n hb hx;obtain⟨SV,e2⟩:=slot b _ (neL b o e) hb (WE b o e hx) e1 (I.base.free b o e n hx);exact⟨SV,e2⟩
 ·obtain⟨o',e1⟩:=I.base.there b o e hx;exact free b o' (WE b o e hx) e1 (I.base.free b o e n hx)
 ·obtain⟨o',e1⟩:=I.base.there b o e hx;exact there b o' (WE b o e hx) e1
 ·exact tbls b ps (I.base.tbls b ps e)
 ·obtain⟨m,hn,hl⟩:=I.loc;refine⟨m,ns m hn,λi x v e1 e2 e3=>?_⟩
  obtain⟨u,r,l⟩:=hl i x v e1 e2 e3;refine⟨u,r,?_⟩;rcases l with l | ⟨k,c,e,z⟩
  ·exact .inl l
  ·exact .inr ⟨k,c,e,cellK x c e _ z⟩
 ·obtain⟨v,z⟩:=I.cell x c e;exact⟨v,cellK x c e v z⟩
 ·obtain⟨m,⟨o,_,_,ho,_⟩,_⟩:=I.loc;exact free _ o (λz=>(MB _ z).2.1 rfl) ho I.free
 ·obtain⟨v,o,ho,hd⟩:=I.cell x c e;exact free c o (λz=>(MB c z).2.2.1 x c e rfl) ho (I.freeC x c e)
 ·obtain⟨e,n,ne,nf,d⟩:=I.pin p hp;have SY:p.1∉ch:=by grind
  exact⟨keep p.1 p.2 ne nf SY e n,free p.1 p.2 SY e n,ne,nf,d⟩
def Inv.un{t':Nat}(I:Inv X af σ H s)(u:Un X.fs [] H H' s.heap h')(hok:lH X.prog X.w H' h'):Inv X af σ H' {s with heap:=h',toks:=t'}:=by
 obtain⟨m,⟨o,es,ep,ho,r⟩,_⟩:=id I.loc;obtain⟨sl,hL⟩:=u.any ho I.free (by simp)
 exact I.step (ch:=[]) (λ_ z=>nomatch z) (λb o _ hb _ e n=>u.keep b o e n hb (by simp)) (λb o _ hb _ e n=>u.slot b o e n hb (by simp)) (λb o _ e n=>u.free b o e n (by simp)) (λb o _ e=>u.there b o e (by simp)) u.tups u.frzs u.tbls (λm' hm=>by
  obtain⟨o',N0,XJ,qa,r'⟩:=hm;rw[ho]at qa;cases qa;exact⟨_,N0,XJ,hL,r'⟩) hok I.bare
def Inv.call{g':Array GenState}{t':Nat}{d':Drawn}{ch:List Addr}(I:Inv X af σ H s)(u:Un (fD X.stack) ch H H' s.heap h')(hok:lH X.prog X.w H' h')(hg:AllBare g')
  (MB:∀b∈ch,(b∈X.ex\/X.s₀.heap.objs.size<=b)/\b≠X.env.locals/\(∀x c,X.env.cells.lookup x=some c->c≠b)/\∀p∈X.pn++af,p.1≠b) :
  Inv X af σ H' {s with heap:=h',gens:=g',drawn:=d',toks:=t'}:=by
 obtain⟨m,⟨o,es,ep,ho,r⟩,_⟩:=id I.loc;obtain⟨sl,hL⟩:=u.any ho I.free λz=>(MB _ z).2.1 rfl
 exact I.step MB (λb o hL hb hc e n=>u.keep b o e n (λz=>(aD.mp (I.vc b z)).elim hL hb) hc) (λb o _ _ hc e n=>u.any e n hc) (λb o hc e n=>u.free b o e n hc) (λb o hc e=>u.there b o e hc) u.tups u.frzs u.tbls (λm' hm=>by
  obtain⟨o',N0,XJ,qa,r'⟩:=hm;rw[ho]at qa;cases qa;exact⟨_,N0,XJ,hL,r'⟩) hok hg
def Inv.turned{t':Nat}(I:Inv X af σ H s)(k:∀b o,b≠it->s.heap.get? b=some o->h'.get? b=some o)(hn:H it=none)(hL:it≠X.env.locals)
  (h1:it∈X.ex\/X.s₀.heap.objs.size<=it) (h2:∀x c,X.env.cells.lookup x=some c->c≠it) (h3:∀p∈X.pn++af,p.1≠it):Inv X af σ H {s with heap:=h',toks:=t'}:=by
 have S0:∀b u,H b=some u->b≠it:=λb u e z=>by rw[z,hn]at e;cases e
 refine I.step (ch:=[it]) (λb hb=>?_) (λb o _ _ hc e _=>k b o (λz=>hc (by simp[z])) e) (λb o _ _ hc e _=>⟨o.slots,k b o (λz=>hc (by simp[z])) e⟩) (λ_ _ _ _ n=>n)
  (λb o hc e=>⟨o,k b o (λz=>hc (by simp[z])) e⟩) (λ_ _ e=>e) (λ_ _ _ e=>e) (λ_ _ e=>e) (λm hm=>?_) (λb u e=>?_) I.bare
 ·have e:b=it:=by simpa using hb
  subst e;exact⟨h1,hL,h2,h3⟩
 ·obtain⟨o,es,ep,ho,r⟩:=hm;exact⟨o,es,ep,k _ o (cx hL) ho,r⟩
 ·refine(I.hok b u e).w6 (λc v hc q=>k c v ?_ q) (λ_ q=>q) (λ_ _ q=>q) λ_ _ _ q=>q
  rcases hc with z | z
  ·rw[z];exact S0 b u e
  ·exact S0 c _ z
def Inv.tok(I:Inv X af σ H s)(t:Nat):Inv X af σ H {s with toks:=t}:=I.un Un.refl I.hok
def Inv.kept(I:Inv X af σ H s)(k:∀b u,s.heap.get? b=some u->h'.get? b=some u):Inv X af σ H {s with heap:=h',toks:=t'}:=I.un (Un.kept k) (I.hok.kept k)
def Inv.laid{a:Addr}{o:HO}{t':Nat}(I:Inv X af σ H s)(k:∀b u,s.heap.get? b=some u->h'.get? b=some u)(hp:s.heap.objs.size<=a)(new:fJ X.prog X.w (cY H a o) h' a o) :
  Inv X af σ (cY H a o) {s with heap:=h',toks:=t'}:=I.un (Un.laid k hp (I.hok.fresh hp)) (I.hok.laid k hp new)
def Inv.write(I:Inv X af σ H s)(mu:WC (H x))(he:e=x\/H e=some (.own x))(k:∀b u,b≠e->s.heap.get? b=some u->h'.get? b=some u)(R7:∃u,h'.get? e=some u)
  (new:fJ X.prog X.w (cY H x o) h' x o):Inv X af σ (cY H x o) {s with heap:=h',toks:=t'}:=I.un (Un.write mu he k R7) (I.hok.write mu he k R7 new)
def Inv.lM(I:Inv X af σ H s)(h:∀p∈S3,s.heap.get? p.1=some p.2/\H p.1=none/\p.1≠X.env.locals/\p.1∉X.fs/\∀v,p.2.data≠.cell v):Inv X S3 σ H s :=
 ⟨I.ok,I.os,I.bare,I.base,I.loc,I.cell,I.free,I.freeC,λp hp=>(b8.mp hp).elim (λz=>I.pin p (mQ _ z)) (h p),I.hok,I.len⟩
def xa{N:List Str}(hN:N.Nodup){i j:Nat}(a:N[i]?=some x)(b:N[j]?=some x):i=j:=by
 obtain⟨h1,e1⟩:=de.mp a;obtain⟨h2,e2⟩:=de.mp b;exact(List.getElem_inj hN).mp (e1.trans e2.symm)
def store_ok2{M:Model}{A:Around}{E:Value->Shared->Prop}{i:Nat}{v:V}{u:Value}{Q:Unit->Shared->Prop}(I:Inv X af σ H s)(hN:X.N.Nodup)(hi:X.N[i]?=some x)(hx:MA X.env.scope x)(r:RelV v u)
  (h:∀s',Inv X af (σ.set i (some v)) H s'->(∃a,Heap.SameBut a s.heap s'.heap/\(a=X.env.locals\/X.env.cells.lookup x=some a))->Q () s') (hf:X.fn x=true\/X.env.scope.names.lookup x=some .local):wpAny M A (storeName X.env x u) Q E s:=by
 obtain⟨m,hn,hl⟩:=id I.loc;have XM:(X.env.scope.kind==.class || (X.env.scope.kind==.module&&X.env.locals != X.env.globals))=false:=by rw[I.ok.kind];rfl
 have S4:i<σ.length:=by rw[I.len];exact(de.mp hi).1
 have NZ:=I.NZ;have By:∀{a:Addr} {h':Heap},(∃o,s.heap.get? a=some o/\H a=none)->Heap.SameBut a s.heap h'->lH X.prog X.w H h':=λ{a h'} ha hs b ob e=>by
  obtain⟨_,_,xb⟩:=ha;refine(I.hok b ob e).w6 (λc w' hc q=>(hs.2 c ?_).trans q) (λ_ q=>q) (λ_ _ q=>q) λ_ _ _ q=>q
  rintro rfl
  rcases hc with rfl | hc
  ·grind
  ·grind
 rcases hx with hk | hk
 ·refine wpAny_storeName_local hk hn (λh' hn' hs=>?_) XM
  obtain⟨oL,_,_,hoL,_⟩:=id hn;refine h _ ⟨I.ok,I.os,I.bare,⟨λb o e n hb hx=>?_,λb o e n hb hx=>?_,I.base.free,λb o e hx=>?_,I.base.tups,I.base.frzs,I.base.tbls⟩,⟨_,hn',λj y v' e1 e2 e3=>?_⟩,λy c e=>?_,I.free,I.freeC,λp hp=>?_,By ⟨oL,hoL,I.free⟩ hs,by simpa using I.len⟩ ⟨_,hs,.inl rfl⟩
  ·exact(hs.2 b (bF (bV (aH e) I.ok.above))).trans (I.base.keep b o e n hb hx)
  ·obtain⟨sl,e1⟩:=I.base.slot b o e n hb hx;exact⟨sl,(hs.2 b (bF (bV (aH e) I.ok.above))).trans e1⟩
  ·obtain⟨o',e1⟩:=I.base.there b o e hx;exact⟨o',(hs.2 b (bF (bV (aH e) I.ok.above))).trans e1⟩
  ·by_cases hj:j=i
   ·subst hj;rw[hi]at e1;cases e1;rw[uE S4]at e2;cases e2;exact⟨u,r,.inl ⟨hk,by simp⟩⟩
   ·rw[aL (cx hj)]at e2;obtain⟨u',r',q⟩:=hl j y v' e1 e2 e3;refine⟨u',r',?_⟩;rcases q with⟨k,e⟩ | ⟨k,c,e,z⟩
    ·refine .inl ⟨k,?_⟩;have:y≠x:=λe=>hj (xa hN e1 (e▸hi))
     simp[this,e]
    ·exact .inr ⟨k,c,e,z.sameBut hs (NZ y c e)⟩
  ·obtain⟨w',z⟩:=I.cell y c e;exact⟨w',z.sameBut hs (NZ y c e)⟩
  ·obtain⟨e,n,ne,nf,d⟩:=I.pin p hp;exact⟨(hs.2 p.1 ne).trans e,n,ne,nf,d⟩
 ·have S5:X.fn x=true:=by
   grind
  obtain⟨c,hc⟩:=I.ok.has x (.inl hk);obtain⟨w',z⟩:=I.cell x c hc;refine wpAny_storeName_cell I.ok.kind hk hc z (λh' zS hs=>?_)
  obtain⟨oc,hoc,acQ⟩:=id z;refine h {s with heap:=h'} ⟨I.ok,I.os,I.bare,⟨λb o e n hb hx=>?_,λb o e n hb hx=>?_,I.base.free,λb o e hx=>?_,I.base.tups,I.base.frzs,I.base.tbls⟩,⟨m,hn.sameBut hs (cx (NZ x c hc)),λj y v' e1 e2 e3=>?_⟩,λy c' e=>?_,I.free,I.freeC,λp hp=>?_,By ⟨oc,hoc,I.freeC x c hc⟩ hs,by simpa using I.len⟩ ⟨c,hs,.inr hc⟩
  ·exact(hs.2 b (bF (bV (aH e) (I.ok.cab x c S5 hc)))).trans (I.base.keep b o e n hb hx)
  ·obtain⟨sl,e1⟩:=I.base.slot b o e n hb hx;exact⟨sl,(hs.2 b (bF (bV (aH e) (I.ok.cab x c S5 hc)))).trans e1⟩
  ·obtain⟨o',e1⟩:=I.base.there b o e hx;exact⟨o',(hs.2 b (bF (bV (aH e) (I.ok.cab x c S5 hc)))).trans e1⟩
  ·by_cases hj:j=i
   ·subst hj;rw[hi]at e1;cases e1;rw[uE S4]at e2;cases e2;exact⟨u,r,.inr ⟨.inl hk,c,hc,zS⟩⟩
   ·rw[aL (cx hj)]at e2;obtain⟨u',r',q⟩:=hl j y v' e1 e2 e3;refine⟨u',r',?_⟩;rcases q with q | ⟨k,c',e,z'⟩
    ·exact .inl q
    ·refine .inr ⟨k,c',e,z'.sameBut hs ?_⟩
     rintro rfl
     exact hj (xa hN e1 (I.ok.inj _ _ _ e hc▸hi))
  ·by_cases WG:c'=c
   ·grind
   ·obtain⟨w2,z2⟩:=I.cell y c' e;exact⟨w2,z2.sameBut hs WG⟩
  ·obtain⟨e,n,ne,nf,d⟩:=I.pin p hp;refine⟨(hs.2 p.1 ?_).trans e,n,ne,nf,d⟩;intro q;rw[q,hoc]at e;have q':=bE e;exact d w' (by grind)
def qb(I:Inv X af σ H s)(hN:X.N.Nodup)(hi:X.N[i]?=some x)(hx:MA X.env.scope x)(r:RelV v u)
  (h:∀s',Inv X af (σ.set i (some v)) H s'->Q () s') (hf:X.fn x=true\/X.env.scope.names.lookup x=some .local):wpAny M A (storeName X.env x u) Q E s :=
 store_ok2 I hN hi hx r (λs' I' _=>h s' I') hf
def Inv.MC(I:Inv X af σ H s)(ho:s'.os=s.os)(u:Un (fD X.stack) ch H H' s.heap s'.heap)(hok:lH X.prog X.w H' s'.heap)(hg:AllBare s'.gens)
  (MB:∀b∈ch,(b∈X.ex\/X.s₀.heap.objs.size<=b)/\b≠X.env.locals/\(∀x c,X.env.cells.lookup x=some c->c≠b)/\∀p∈X.pn++af,p.1≠b):Inv X af σ H' s':=by
 obtain⟨h',g',d',t',o'⟩:=s';have e:=ho;subst e;exact I.call u hok hg MB
end
abbrev XK:=Value->Option Addr->Hp->Prop
abbrev St:=List (Option V)
abbrev VK:=V->Hp->Prop
abbrev TE:=St->Hp->VK->Prop
abbrev TT:=St->Hp->(Bool->Hp->Prop)->Prop
abbrev TA:=St->Hp->(List V->Hp->Prop)->Prop
structure xc where
 nx:St->Hp->Prop
 rt:VK
 bk:St->Hp->Prop:=λ_ _=>False
 ct:St->Hp->Prop:=λ_ _=>False
abbrev TS:=xc->St->Hp->Prop
def EP(X:Cx)(af:List (Addr×Obj))(σ:St)(Q:VK)(u:Value)(s':Shared):Prop:=∃v H',Inv X af σ H' s'/\RelV v u/\Q v H'
def TP(X:Cx)(af:List (Addr×Obj))(σ:St)(Q:Bool->Hp->Prop)(b:Bool)(s':Shared):Prop:=∃H',Inv X af σ H' s'/\Q b H'
def AP(X:Cx)(af:List (Addr×Obj))(σ:St)(Q:List V->Hp->Prop)(us:List Value)(s':Shared):Prop:=∃vs H',Inv X af σ H' s'/\Vals vs us/\Q vs H'
def SP(X:Cx)(af:List (Addr×Obj))(D:xc)(f:Flow)(s':Shared):Prop :=
 match f with
 | .next=>∃bC H',Inv X af bC H' s'/\D.nx bC H'
 | .brk=>∃bC H',Inv X af bC H' s'/\D.bk bC H'
 | .cont=>∃bC H',Inv X af bC H' s'/\D.ct bC H'
 | .ret u=>∃v bC H',Inv X af bC H' s'/\RelV v u/\D.rt v H'
def PE(X:Cx)(e:Expr)(t:TE):Prop :=
 ∀(af:List (Addr×Obj)) (s:Shared) (σ:St) (H:Hp) (Q:VK),Inv X af σ H s->t σ H Q->wpAny (model X.prog X.w) X.A (eval e X.env) (EP X af σ Q) X.xe s
def PT(X:Cx)(e:Expr)(t:TT):Prop :=
 ∀(af:List (Addr×Obj)) (s:Shared) (σ:St) (H:Hp) (Q:Bool->Hp->Prop),Inv X af σ H s->t σ H Q->wpAny (model X.prog X.w) X.A (isTrue e X.env (eval e X.env)) (TP X af σ Q) X.xe s
def PW(X:Cx)(e:Expr)(t:TT):Prop :=
 ∀(i6:Sem Value) (af:List (Addr×Obj)) (s:Shared) (σ:St) (H:Hp) (Q:Bool->Hp->Prop),Inv X af σ H s->t σ H Q->wpAny (model X.prog X.w) X.A (isTrue e X.env i6) (TP X af σ Q) X.xe s
def PW.pt(h:PW X e t):PT X e t:=h _
def PA(X:Cx)(es:List Expr)(t:TA):Prop :=
 ∀(pos:Pos) (af:List (Addr×Obj)) (s:Shared) (σ:St) (H:Hp) (Q:List V->Hp->Prop),Inv X af σ H s->t σ H Q->wpAny (model X.prog X.w) X.A (spliced (backTo pos (starEach es X.env))) (AP X af σ Q) X.xe s
def PS(X:Cx)(st:Stmt)(t:TS):Prop :=
 ∀(af:List (Addr×Obj)) (s:Shared) (σ:St) (H:Hp) (D:xc),Inv X af σ H s->t D σ H->wpAny (model X.prog X.w) X.A (exec st X.env) (SP X af D) X.xe s
def PSs(X:Cx)(st:List Stmt)(t:TS):Prop :=
 ∀(af:List (Addr×Obj)) (s:Shared) (σ:St) (H:Hp) (D:xc),Inv X af σ H s->t D σ H->wpAny (model X.prog X.w) X.A (execs st X.env) (SP X af D) X.xe s
def thn{α:Type}{t:Sem α}{Q Q':α->Shared->Prop}{M:Model}{A:Around}{E:Value->Shared->Prop}(h:wpAny M A t Q E s)(hQ:∀a s,Q a s->Q' a s):wpAny M A t Q' E s:=ny h hQ λ_ _ x=>x
section
variable {X:Cx}
def N1(i:Nat):TE:=λσ H Q=>∃v,σ[i]?=some (some v)/\Q v H
def tC(v:V):TE:=λ_ H Q=>Q v H
def pe_var{i:Nat}{x:Str}{pos:Pos}(hN:X.N[i]?=some x)(hv:SW X.env.scope x)(hd:(x==("__debug__":Str))=false:=by decide)(yO:(x==("__classdict__":Str))=false:=by decide):PE X (.Name x pos) (N1 i):=by
 intro af s σ H Q I h;obtain⟨v,e,h⟩:=h;obtain⟨m,hn,hl⟩:=I.loc;obtain⟨u,r,l⟩:=hl i x v hN e hv;have gW:EP X af σ Q u s:=⟨v,H,I,r,h⟩;rcases l with⟨hk,hm⟩ | ⟨hk,c,hc,sU⟩
 ·exact wpAny_Name (wpAny_loadName_local I.ok.kind hk hn hm gW) hd
 ·rcases hk with hk | hk
  ·exact wpAny_Name (wpAny_loadName_cell I.ok.kind hk hc sU gW) hd
  ·exact wpAny_Name (wpAny_loadName_free I.ok.kind hk hc sU gW yO) hd
def N2{i j pos}:PE X (.Constant (.int i) j pos) (tC (.int i)):=λ_ _ _ H _ I h=>wpAny_Constant_int ⟨.int i,H,I.tok _,⟨_,rfl⟩,h⟩
def S6{b j pos}:PE X (.Constant (.bool b) j pos) (tC (.bl b)):=λ_ _ _ H _ I h=>Constant_bool ⟨.bl b,H,I,rfl,h⟩
def N4{j pos}:PE X (.Constant .none j pos) (tC .aP):=λ_ _ _ H _ I h=>Constant_none ⟨.aP,H,I,rfl,h⟩
def N5{x j pos}:PE X (.Constant (.str x) j pos) (tC (.str x)):=λ_ _ _ H _ I h=>Calls.Constant_str ⟨.str x,H,I.tok _,⟨_,rfl⟩,h⟩
def Gl(X:Cx)(x:Str):Prop:=X.env.kindOf x=some .globalImplicit
def ld_glob{E:Value->Shared->Prop}{af:List (Addr×Obj)}{s:Shared}{σ:St}{H:Hp}{x:Str}{u:Value}{pos:Pos}{Q:Value->Shared->Prop}(I:Inv X af σ H s)(hg:Gl X x)(hm:X.mg x=some u)(h:Q u s)
  (hd:(x==("__debug__":Str))=false:=by decide):wpAny (model X.prog X.w) X.A (eval (.Name x pos) X.env) Q E s :=
 EO I.ok.kind hg (Calls.loadGlobal_global (by rw[I.ok.glob];exact I.mod.glob.keeps I.bk) hm h) hd
def ld_blt{E:Value->Shared->Prop}{af:List (Addr×Obj)}{s:Shared}{σ:St}{H:Hp}{x:Str}{u:Value}{pos:Pos}{Q:Value->Shared->Prop}(I:Inv X af σ H s)(hg:Gl X x)(hm:X.mg x=none)(hv:bootBuiltins x=some u)(h:Q u s)
  (hn:x≠"__name__":=by decide) (hd:(x==("__debug__":Str))=false:=by decide):wpAny (model X.prog X.w) X.A (eval (.Name x pos) X.env) Q E s:=by
 obtain⟨mb,h1,h2⟩:=I.mod.blt;exact EO I.ok.kind hg (Calls.loadGlobal_builtin (by rw[I.ok.glob];exact I.mod.glob.keeps I.bk) hm (by rw[I.ok.blt];exact h1.keeps I.bk) ((h2 x hn).trans hv) h) hd
def ve(hg:Gl X x)(hm:X.mg x=some u)(r:RelV v u)(hd:(x==("__debug__":Str))=false:=by decide):PE X (.Name x pos) (tC v) :=
 λ_ _ _ H _ I h=>ld_glob I hg hm ⟨v,H,I,r,h⟩ hd
def JO{x:Str}{v:V}{u:Value}{pos:Pos}(hg:Gl X x)(hm:X.mg x=none)(hv:bootBuiltins x=some u)(r:RelV v u)(hn:x≠"__name__":=by decide)(hd:(x==("__debug__":Str))=false:=by decide):PE X (.Name x pos) (tC v) :=
 λ_ _ _ H _ I h=>ld_blt I hg hm hv ⟨v,H,I,r,h⟩ hn hd
variable {a b:Expr} {ta tb:TE} {pos:Pos}
variable {tA WH:TT} {rest:List Expr}
def XN(t u:TT):TT:=λσ H Q=>t σ H λc H1=>if c=true then u σ H1 Q else Q false H1
def tOr(t u:TT):TT:=λσ H Q=>t σ H λc H1=>if c=true then Q true H1 else u σ H1 Q
def XO(t:TT):TT:=λσ H Q=>t σ H λc H1=>Q (!c) H1
def JP(ha:PT X a tA):PW X (.BoolOp .And [a] pos) tA:=by
 intro wh af s σ H Q I h;refine isTrue_and (thn (ha af s σ H Q I h) λc s1 e=>?_)
 cases c with
 | true=>exact isTrue_and_nil e
 | false=>exact e
def N6(ha:PT X a tA):PW X (.BoolOp .Or [a] pos) tA:=by
 intro wh af s σ H Q I h;refine isTrue_or (thn (ha af s σ H Q I h) λc s1 e=>?_)
 cases c with
 | false=>exact isTrue_or_nil e
 | true=>exact e
def N7(ha:PT X a tA)(hb:PW X (.BoolOp .And (b::rest) pos) WH):PW X (.BoolOp .And (a::b::rest) pos) (XN tA WH):=by
 intro wh af s σ H Q I h;refine isTrue_and (thn (ha af s σ H _ I h) λc s1 ⟨H1,I1,q1⟩=>?_)
 cases c with
 | true=>exact hb wh af s1 σ H1 Q I1 q1
 | false=>exact⟨H1,I1,q1⟩
def S7(ha:PT X a tA)(hb:PW X (.BoolOp .Or (b::rest) pos) WH):PW X (.BoolOp .Or (a::b::rest) pos) (tOr tA WH):=by
 intro wh af s σ H Q I h;refine isTrue_or (thn (ha af s σ H _ I h) λc s1 ⟨H1,I1,q1⟩=>?_)
 cases c with
 | true=>exact⟨H1,I1,q1⟩
 | false=>exact hb wh af s1 σ H1 Q I1 q1
def N8(ha:PT X a tA):PT X (.UnaryOp .Not a pos) (XO tA):=by
 intro af s σ H Q I h;exact isTrue_not (ha af s σ H (λc H1=>Q (!c) H1) I h)
def S8(ta:TE):TE:=λσ H Q=>ta σ H λx H1=>∃c,x=.bl c/\Q (.bl (!c)) H1
def Fp{op}(h:PE X a t):PE X (.BoolOp op [a] pos) t:=λaf s σ H Q I hw=>BoolOp_one (h af s σ H Q I hw)
def N9(ha:PE X a ta):PE X (.UnaryOp .Not a pos) (S8 ta):=by
 intro af s σ H Q I h;refine UnaryOp_ (thn (ha af s σ H _ I h) λv s1 ⟨x,H1,I1,r1,q1⟩=>?_)
 obtain⟨c,rfl,q1⟩:=q1;cases r1;exact not_of (kN ⟨.bl (!c),H1,I1,rfl,q1⟩)
def tIf(t:TT)(ta tb:TE):TE:=λσ H Q=>t σ H λc H1=>if c=true then ta σ H1 Q else tb σ H1 Q
def Fq(hc:PT X c tA)(ha:PE X a ta)(hb:PE X b tb):PE X (.IfExp c a b pos) (tIf tA ta tb):=by
 intro af s σ H Q I h;refine wpAny_IfExp (thn (hc af s σ H _ I h) λd s1 ⟨H1,I1,q1⟩=>?_)
 cases d with
 | true=>exact ha af s1 σ H1 Q I1 q1
 | false=>exact hb af s1 σ H1 Q I1 q1
end
def vf(K:W.Frag)(H:Hp)(a:Addr)(xs:List V):Prop :=
 Rd H a (.lst xs) \/
  ∃(o:Obj) (au:Array Value) (n:Nat),K.lookup a=some o/\o.cls=.type "list"/\o.dict=none/\o.data=.seq au n/\au.size<=sizeLine/\Vals xs au.toList
def iZ.sq{K:W.Frag}{H:Hp}{a:Addr}{xs:List V}(h:iZ K H a xs):vf K H a xs:=by
 rcases h with h | ⟨au,n,e,z,r⟩
 ·exact .inl h
 ·exact .inr ⟨_,au.toArray,n,e,rfl,rfl,rfl,by grind,by grind⟩
noncomputable def XQ:Value->Option V
 | .none=>some .aP
 | .bool b=>some (.bl b)
 | .int i _=>some (.int i)
 | .str x _=>some (.str x)
 | .bytes b _=>some (.RX b)
 | .float b _=>some (.Wx b)
 | .ref a=>some (.ref a)
 | .type n=>some (.ty n)
 | _=>none
def RelV.abs(r:RelV x u):XQ u=some x:=by
 cases x with
 | aP=>cases r;rfl
 | bl _=>cases r;rfl
 | int _=>obtain⟨t,rfl⟩:=r;rfl
 | str _=>obtain⟨t,rfl⟩:=r;rfl
 | RX _=>obtain⟨t,rfl⟩:=r;rfl
 | Wx _=>obtain⟨t,rfl⟩:=r;rfl
 | ref _=>cases r;rfl
 | ty _=>cases r;rfl
def RelV.inj(r:RelV x u)(q:RelV y u):x=y:=bE (r.abs.symm.trans q.abs)
theorem Vals.inj:∀{xs ys:List V} {us:List Value},Vals xs us->Vals ys us->xs=ys
 | _,_,_,.nil,.nil=>rfl
 | _,_,_,.cons r t,.cons r' t'=>by rw[r.inj r',Vals.inj t t']
section
variable {X:Cx} {af:List (Addr×Obj)} {σ:St} {H:Hp} {s:Shared} {a:Addr} {xs ys:List V}
def gZ.of{K:W.Frag}(h:H a=some (.ak xs)):gZ K H a xs:=.inl (.inl h)
def Inv.list(I:Inv X af σ H s)(h:vf X.K H a xs):∃au:List Value,Vals xs au/\PlainL s.heap a au.toArray/\xs.length<=sizeLine:=by
 rcases h with h | ⟨o,au,n,hk,hc,hd,hs,hz,r⟩
 ·obtain⟨z,au,n,r,e⟩:=h.ok I.hok;exact⟨au,r,⟨_,n,e,rfl,rfl,rfl⟩,z⟩
 ·refine⟨au.toList,r,⟨o,n,I.ou a o hk,hc,hd,by simp_all⟩,?_⟩
  have e:=r.length;simp only[pG]at e
  lia
def Inv.Oa(I:Inv X af σ H s)(h:gZ X.K H a xs):∃au:List Value,Vals xs au/\ot s.heap a au.toArray/\xs.length<=sizeLine:=by
 rcases h with h | ⟨o,au,n,hk,hc,⟨hs,hd⟩,hz,r⟩
 ·obtain⟨z,au,r,p⟩:=h.ok I.hok;exact⟨au,r,p,z⟩
 ·refine⟨au.toList,r,⟨o,I.ou a o hk,hc,⟨n,by simp_all⟩,hd⟩,?_⟩
  have e:=r.length;simp only[pG]at e
  lia
def Inv.tuple(I:Inv X af σ H s)(h:gZ X.K H a xs):∃au:List Value,Vals xs au/\IsTup s.heap a au.toArray/\xs.length<=sizeLine:=by
 obtain⟨au,r,p,z⟩:=I.Oa h;exact⟨au,r,p.is,z⟩
def Inv.lN(I:Inv X af σ H s)(h:vf X.K H a xs)(h':vf X.K H a ys):xs=ys:=by
 obtain⟨au,r,⟨o,n,e,_,_,d⟩,_⟩:=I.list h;obtain⟨its',r',⟨o',n',e',_,_,d'⟩,_⟩:=I.list h';rw[e]at e';cases e';rw[d]at d';injection d' with d1 _
 have:au=its':=by grind
 subst this;exact r.inj r'
def Inv.jX(I:Inv X af σ H s)(h:gZ X.K H a xs)(h':gZ X.K H a ys):xs=ys:=by
 obtain⟨au,r,⟨o,e,_,n,d⟩,_⟩:=I.tuple h;obtain⟨its',r',⟨o',e',_,n',d'⟩,_⟩:=I.tuple h';rw[e]at e';cases e';rw[d]at d';injection d' with d1 _
 have:au=its':=by grind
 subst this;exact r.inj r'
end
noncomputable abbrev Cx.sh(X:Cx)(E:Value->Shared->Prop):Cx:={X with xe:=E}
abbrev Cx.R8(X:Cx):Cx:=X.sh λ_ _=>False
def Cx.Ok.sh{X:Cx}(ok:X.Ok)(E:Value->Shared->Prop):(X.sh E).Ok :=
 ⟨ok.mod,ok.kind,ok.glob,ok.blt,ok.above,ok.inj,ok.has,ok.cab,ok.hd,ok.frames,ok.stk,ok.exf,ok.bs,ok.bsz,ok.noex,ok.exfs,ok.funs,ok.frf,ok.tabs⟩
def Cx.Ok.jw{X:Cx}{E:Value->Shared->Prop}(ok:(X.sh E).Ok):X.Ok :=
 ⟨ok.mod,ok.kind,ok.glob,ok.blt,ok.above,ok.inj,ok.has,ok.cab,ok.hd,ok.frames,ok.stk,ok.exf,ok.bs,ok.bsz,ok.noex,ok.exfs,ok.funs,ok.frf,ok.tabs⟩
section
variable {X:Cx} {af:List (Addr×Obj)} {σ:St} {H:Hp} {s:Shared} {E:Value->Shared->Prop}
def Inv.sh(I:Inv X af σ H s)(E:Value->Shared->Prop):Inv (X.sh E) af σ H s:=⟨I.ok.sh E,I.os,I.bare,I.base,I.loc,I.cell,I.free,I.freeC,I.pin,I.hok,I.len⟩
def Inv.jw(I:Inv (X.sh E) af σ H s):Inv X af σ H s:=⟨I.ok.jw,I.os,I.bare,I.base,I.loc,I.cell,I.free,I.freeC,I.pin,I.hok,I.len⟩
def SP.jw(h:SP (X.sh E) af D f s'):SP X af D f s':=by
 cases f with
 | next=>obtain⟨bC,H',I,q⟩:=h;exact⟨bC,H',I.jw,q⟩
 | brk=>obtain⟨bC,H',I,q⟩:=h;exact⟨bC,H',I.jw,q⟩
 | cont=>obtain⟨bC,H',I,q⟩:=h;exact⟨bC,H',I.jw,q⟩
 | ret u=>obtain⟨v,bC,H',I,r,q⟩:=h;exact⟨v,bC,H',I.jw,r,q⟩
end
section
variable {X:Cx} {st:Stmt} {rest:List Stmt} {t u:TS} {e:Expr} {te:TE} {pos:Pos}
def MD:TS:=λD σ H=>D.nx σ H
def XR(t u:TS):TS:=λD σ H=>t {D with nx:=u D} σ H
def JQ:PSs X [] MD:=λ_ _ σ H _ I h=>pN ⟨σ,H,I,h⟩
def Fs(h1:PS X st t)(h2:PSs X rest u):PSs X (st::rest) (XR t u):=by
 intro af s σ H D I h;refine wpAny_execs_cons (thn (h1 af s σ H {D with nx:=u D} I h) λf s1 q=>?_)
 cases f with
 | next =>
  obtain⟨bC,H',I',q⟩:=q;exact h2 af s1 bC H' D I' q
 | ret v=>exact q
 | brk=>exact q
 | cont=>exact q
def JR(h1:PS X st t):PSs X [st] t:=by
 intro af s σ H D I h;refine wpAny_execs_cons (thn (h1 af s σ H D I h) λf s1 q=>?_)
 cases f with
 | next=>exact pN q
 | ret v=>exact q
 | brk=>exact q
 | cont=>exact q
def Ob:TS:=λD σ H=>D.bk σ H
def S9:TS:=λD σ H=>D.ct σ H
def JS:PS X (.Pass pos) MD:=λ_ _ σ H _ I h=>wpAny_Pass ⟨σ,H,I,h⟩
def Ft:PS X (.Break pos) Ob:=λ_ _ σ H _ I h=>wpAny_Break ⟨σ,H,I,h⟩
def xh:PS X (.Continue pos) S9:=λ_ _ σ H _ I h=>wpAny_Continue ⟨σ,H,I,h⟩
def Inv.quiet{af:List (Addr×Obj)}{σ:St}{H:Hp}{s:Shared}(I:Inv X af σ H s):interactive X.env=false:=by simp[interactive,I.ok.kind]
def Ta(te:TE):TS:=λD σ H=>te σ H λ_ H1=>D.nx σ H1
def JT(he:PE X e te)(hs:swapsWith e none pos.line X.env=pure false:=by rfl):PS X (.Expr e pos) (Ta te):=by
 intro af s σ H D I h;exact wpAny_Expr_any (thn (he af s σ H _ I h) (by rintro v s1 ⟨x,H1,I1,r1,q1⟩;exact⟨σ,H1,I1,q1⟩)) I.quiet hs
def XS(te:TE):TS:=λD σ H=>te σ H D.rt
def Oc(he:PE X e te):PS X (.Return (some e) pos) (XS te):=by
 intro af s σ H D I h;exact wpAny_Return_some (thn (he af s σ H _ I h) (by rintro v s1 ⟨x,H1,I1,r1,q1⟩;exact⟨x,σ,H1,I1,r1,q1⟩))
def Tb:TS:=λD _ H=>D.rt .aP H
def JU:PS X (.Return none pos) Tb:=λ_ _ σ H _ I h=>wpAny_Return_none ⟨.aP,σ,H,I,rfl,h⟩
def XT(c:TT)(t u:TS):TS:=λD σ H=>c σ H λb H1=>if b=true then t D σ H1 else u D σ H1
def Tc(hc:PT X c tc)(ha:PSs X a t)(hb:PSs X b u):PS X (.If c a b pos) (XT tc t u):=by
 intro af s σ H D I h;refine wpAny_If (thn (hc af s σ H _ I h) λd s1 ⟨H1,I1,q1⟩=>?_)
 cases d with
 | true=>exact ha af s1 σ H1 D I1 q1
 | false=>exact hb af s1 σ H1 D I1 q1
end
abbrev TG:=V->St->Hp->(St->Hp->Prop)->Prop
abbrev ME:=List V->St->Hp->(St->Hp->Prop)->Prop
def PG(X:Cx)(target:Expr)(t:TG):Prop :=
 ∀(af:List (Addr×Obj)) (s:Shared) (σ:St) (H:Hp) (v:V) (u:Value) (Q:St->Hp->Prop),Inv X af σ H s->RelV v u->t v σ H Q ->
  wpAny (model X.prog X.w) X.A (assign target X.env u) (λ_ s'=>∃bC H',Inv X af bC H' s'/\Q bC H') X.xe s
def PGs(X:Cx)(ts:List Expr)(t:ME):Prop :=
 ∀(af:List (Addr×Obj)) (s:Shared) (σ:St) (H:Hp) (vs:List V) (us:List Value) (Q:St->Hp->Prop),Inv X af σ H s->Vals vs us->t vs σ H Q ->
  wpAny (model X.prog X.w) X.A (assignInOrder ((assignEach ts X.env).map (·.2)) us) (λ_ s'=>∃bC H',Inv X af bC H' s'/\Q bC H') X.xe s
abbrev Fu:=V->V->V->Hp->(Hp->Prop)->Prop
def Fv(X:Cx)(t:Fu):Prop :=
 ∀(af:List (Addr×Obj)) (s:Shared) (σ:St) (H:Hp) (o i v:V) (ov iv u:Value) (Q:Hp->Prop),Inv X af σ H s->RelV o ov->RelV i iv->RelV v u->t o i v H Q ->
  wpAny (model X.prog X.w) X.A (setItem ov iv u) (λ_ s'=>∃H',Inv X af σ H' s'/\Q H') X.xe s
abbrev TIp:=V->V->Hp->VK->Prop
def PIp(X:Cx)(op:Operator)(t:TIp):Prop :=
 ∀(af:List (Addr×Obj)) (s:Shared) (σ:St) (H:Hp) (x y:V) (v u:Value) (Q:VK),Inv X af σ H s->RelV x v->RelV y u->t x y H Q ->
  wpAny (model X.prog X.w) X.A (inplaceOp op v u) (EP X af σ Q) X.xe s
section
variable {X:Cx} {pos:Pos}
def gName(i:Nat):TG:=λv σ H Q=>Q (σ.set i (some v)) H
def JV(hN:X.N.Nodup)(hi:X.N[i]?=some x)(hx:MA X.env.scope x)(hf:X.fn x=true\/X.env.scope.names.lookup x=some .local):PG X (.Name x pos) (gName i):=by
 intro af s σ H v u Q I r h;exact wpAny_assign_Name (qb I hN hi hx r (λs' I'=>⟨_,H,I',h⟩) hf)
def XU:ME:=λvs σ H Q=>vs=[]/\Q σ H
def Td(t:TG)(u:ME):ME:=λvs σ H Q=>∃v r,vs=v::r/\t v σ H λbC H'=>u r bC H' Q
def JW:PGs X [] XU:=by
 intro af s σ H vs us Q I r h;obtain⟨e,h⟩:=h;subst e;cases r;exact assignInOrder_nil ⟨σ,H,I,h⟩
def Fw(h1:PG X e t)(h2:PGs X es u)
  (hs:(assignEach (e::es) X.env).map (·.2)=assign e X.env::(assignEach es X.env).map (·.2):=by rfl):PGs X (e::es) (Td t u):=by
 intro af s σ H vs us Q I r h;obtain⟨v,vr,e1,h⟩:=h;subst e1;cases r with
 | cons r rr =>
  rw[hs];refine assignInOrder_cons (thn (h1 af s σ H _ _ _ I r h) λ_ s1 ⟨iP,H1,I1,q1⟩=>?_)
  exact h2 af s1 iP H1 _ _ Q I1 rr q1
def XW(K:W.Frag)(n:Nat)(t:ME):TG:=λv σ H Q=>∃a xs,v=.ref a/\gZ K H a xs/\xs.length=n/\t xs σ H Q
def Od{es:List Expr}{k:Nat}{t:ME}{n:Nat}(hc:X.calm=true)(h:PGs X es t)
  (hn:(assignEach es X.env).length=n:=by rfl) (rW:(assignEach es X.env).findIdx? (·.1)=none:=by rfl):PG X (.Tuple es k pos) (XW X.K n t):=by
 intro af s σ H v u Q I r hw;obtain⟨a,xs,e1,hq,hl,hw⟩:=hw;subst e1;cases r;obtain⟨au,rv,ht,hz⟩:=I.tuple hq;refine assign_Tuple_tuple (I.ok.hd hc) ht (by simp[hn,<-hl,rv.length]) rW λh' hx=>?_
 have I1:=I.kept (t':=s.toks) λb o e=>hx b o (bF (aH e)) e
 exact h af _ σ H xs _ Q I1 (by grind) hw
def XX(to ti:TE)(t:Fu):TG:=λv σ H Q=>to σ H λo H1=>ti σ H1 λi H2=>t o i v H2 λH3=>Q σ H3
def Oe(ho:PE X o to)(hi:PE X i ti)(hs:Fv X t)
  (ha:∀v,assign (.Subscript o i pos) X.env v=(do
   let ov <-holding [v] (eval o X.env)
   let iv <-holding [v,ov] (eval i X.env)
   standAt pos
   holding [v,ov,iv] (setItem ov iv v)
   release [v,ov,iv] []):=by intro _;rfl):PG X (.Subscript o i pos) (XX to ti t):=by
 intro af s σ H v u Q I r h;rw[ha];refine ag (eE (thn (ho af s σ H _ I h) λov s1 ⟨x,H1,I1,r1,q1⟩=>?_))
 refine ag (eE (thn (hi af s1 σ H1 _ I1 q1) λiv s2 ⟨y,H2,I2,r2,q2⟩=>?_))
 refine ag (uX (ag (eE (thn (hs af s2 σ H2 x y v ov iv u _ I2 r1 r2 r q2) λ_ s3 ⟨H3,I3,q3⟩=>?_))))
 exact wpAny_release ⟨σ,H3,I3,q3⟩
def JX(te:TE)(g:TG):TS:=λD σ H=>te σ H λx H1=>g x σ H1 D.nx
def Fx(he:PE X e te)(hg:PG X tg g)(hs:swapsWithSole [tg] e pos.line X.env=pure false:=by rfl)(hw:swappedStores [tg] e X.env=pure none:=by rfl)
  (h1:(assignEach [tg] X.env).map (·.2)=[assign tg X.env]:=by rfl):PS X (.Assign [tg] e pos) (JX te g):=by
 intro af s σ H D I h;refine wpAny_Assign_stores (thn (he af s σ H _ I h) λv s1 ⟨x,H1,I1,r1,q1⟩=>?_) hs hw
 rw[h1];exact thn (hg af s1 σ H1 x v _ I1 r1 q1) λ_ s2 q=>q
def Of(hN:X.N.Nodup)(hi:X.N[i]?=some x)(hx:MA X.env.scope x)(he:PE X e te)(hs:swapsWith e (some (.Name x ow)) pos.line X.env=pure false:=by rfl)(hf:X.fn x=true\/X.env.scope.names.lookup x=some .local) :
  PS X (.Assign [.Name x ow] e pos) (JX te (gName i)):=by
 intro af s σ H D I h;refine wpAny_Assign_Name (thn (he af s σ H _ I h) λv s1 ⟨y,H1,I1,r1,q1⟩=>?_) hs
 exact qb I1 hN hi hx r1 (λs2 I2=>⟨_,H1,I2,q1⟩) hf
def XY(i:Nat)(te:TE)(ti:TIp):TS:=λD σ H=>∃x,σ[i]?=some (some x)/\te σ H λy H1=>ti x y H1 λz H2=>D.nx (σ.set i (some z)) H2
def Og(hN:X.N.Nodup)(hi:X.N[i]?=some x)(hx:MA X.env.scope x)(he:PE X e te)(ho:PIp X op ti)(hf:X.fn x=true\/X.env.scope.names.lookup x=some .local) :
  PS X (.AugAssign (.Name x ow) op e pos) (XY i te ti):=by
 intro af s σ H D I h;obtain⟨v,e1,h⟩:=h;obtain⟨m,hn,hl⟩:=I.loc;have Sb:SW X.env.scope x:=by rcases hx with k | k;exact .inl k;exact .inr (.inl k)
 obtain⟨u,r,l⟩:=hl i x v hi e1 Sb;refine wpAny_AugAssign_Name ?_;have go:wpAny (model X.prog X.w) X.A (eval e X.env) (λw Oh=>wpAny (model X.prog X.w) X.A (inplaceOp op u w) (λr XZ=>wpAny (model X.prog X.w) X.A (storeName X.env x r) (λ_=>SP X af D .next) X.xe XZ) X.xe Oh) X.xe s:=by
  refine thn (he af s σ H _ I h) λw s1 ⟨y,H1,I1,r1,q1⟩=>?_
  refine thn (ho af s1 σ H1 v y u w _ I1 r r1 q1) λz s2 ⟨zv,H2,I2,r2,q2⟩=>?_
  exact qb I2 hN hi hx r2 (λs3 I3=>⟨_,H2,I3,q2⟩) hf
 rcases l with⟨hk,hm⟩ | ⟨hk,c,hc,sU⟩
 ·exact wpAny_loadName_local I.ok.kind hk hn hm go
 ·rcases hk with hk | hk
  ·exact wpAny_loadName_cell I.ok.kind hk hc sU go
  ·rcases hx with k | k
   ·have:X.env.scope.names.lookup x=some .free:=hk;rw[k]at this;cases this
   ·have:X.env.scope.names.lookup x=some .free:=hk;rw[k]at this;cases this
end
section
variable {X:Cx} {pos:Pos}
def Oi(c:TT)(tb:TS):TS:=λD σ H=>∃W:Nat->St->Hp->Prop,(∃m,W m σ H)/\∀m σ H,W m σ H ->
 c σ H λb H1=>if b=true then ∃N:St->Hp->Prop,(∀bC H',N bC H'->∃m',m'<m/\W m' bC H')/\tb {D with nx:=N,ct:=N,bk:=D.nx} σ H1 else D.nx σ H1
def Fy(hp:PassesOwn (model X.prog X.w) X.A X.env X.xe)(hc:PT X c tc)(hb:PSs X body tb):PS X (.While c body [] pos) (Oi tc tb):=by
 intro af s σ H D I h;obtain⟨W,⟨m0,w0⟩,qc⟩:=h;refine wpAny_While (codeAny_whileLoop (λn s'=>∃bC H',Inv X af bC H' s'/\W n bC H') ?_ m0 ⟨σ,H,I,w0⟩)
 rintro n s1 ⟨iP,H1,I1,w1⟩
 refine kQ hp (thn (hc af s1 iP H1 _ I1 (qc n iP H1 w1)) λb s2 ⟨H2,I2,q2⟩=>?_)
 cases b with
 | true =>
  obtain⟨N,hN,q2⟩:=q2;rw[if_pos rfl];refine kQ hp (thn (hb af s2 iP H2 _ I2 q2) λf s3 q3=>?_)
  cases f with
  | next =>
   obtain⟨ox,H3,I3,n3⟩:=q3;obtain⟨m',hm,w3⟩:=hN ox H3 n3;exact⟨m',hm,ox,H3,I3,w3⟩
  | cont =>
   obtain⟨ox,H3,I3,n3⟩:=q3;obtain⟨m',hm,w3⟩:=hN ox H3 n3;exact⟨m',hm,ox,H3,I3,w3⟩
  | brk=>exact q3
  | ret v=>exact q3
 | false =>
  rw[if_neg cR];exact pN ⟨iP,H2,I2,q2⟩
end
structure It where
 go:Nat->Hp->Prop
 yld:Nat->Hp->V->Hp->Prop
 stop:Nat->Hp->Prop
def qd(X:Cx)(af:List (Addr×Obj))(H:Hp)(b:Addr):Prop :=
 H b=none/\b≠X.env.locals/\b∉X.fs/\(b∈X.ex\/X.s₀.heap.objs.size<=b)/\(∀x c,X.env.cells.lookup x=some c->c≠b)/\∀p∈X.pn++af,p.1≠b
def Inv.vh{X:Cx}{af:List (Addr×Obj)}{σ:St}{H H':Hp}{s:Shared}{b:Addr}(I:Inv X af σ H s)(hb:s.heap.objs.size<=b)(hn:H' b=none):qd X af H' b:=by
 refine⟨hn,pU (bV I.lt hb),I.XI hb,.inr (aX I.sz hb),λx c e z=>?_,λp hp z=>?_⟩
 ·obtain⟨v,q⟩:=I.cell x c e;exact absurd (bV q.lt (by grind)) (fB _)
 ·exact absurd (bV (aH (I.pin p hp).1) (by grind)) (fB _)
structure Turn (P:Program) (w:World) (K:W.Frag) (tg:Expr) (J:It) (fp:List Addr) (it:Addr) (tn:Nat->Heap->Prop):Prop where
 mem:it∈fp
 obj:∀i h,tn i h->∀b∈fp,∃o,h.get? b=some o/\∀v,o.data≠.cell v
 keep:∀i h h',tn i h->(∀b∈fp,∀o,h.get? b=some o->h'.get? b=some o)->tn i h'
 item:∀(X:Cx),X.prog=P->X.w=w->X.K=K->X.calm=true->∀(i:Nat) (af:List (Addr×Obj)) (s:Shared) (σ:St) (H:Hp) (E:Value->Shared->Prop),Inv X af σ H s->(∀b∈fp,qd X af H b)->tn i s.heap->J.go i H ->
  wpAny (model P w) X.A (pyNext (.ref it)) (λr s1=>∃u,r=some u /\
   wpAny (model P w) X.A (letOwnedTupleGo tg (.ref it) u) (λ_ s2=>∃x H',Inv X af σ H' s2/\RelV x u/\J.yld i H x H'/\tn (i+1) s2.heap/\∀b∈fp,H' b=none) E s1) E s
 done:∀(X:Cx),X.prog=P->X.w=w->X.K=K->X.calm=true->∀(i:Nat) (af:List (Addr×Obj)) (s:Shared) (σ:St) (H:Hp) (E:Value->Shared->Prop),Inv X af σ H s->(∀b∈fp,qd X af H b)->tn i s.heap->J.stop i H ->
  wpAny (model P w) X.A (pyNext (.ref it)) (λr s1=>r=none/\Inv X af σ H s1) E s
 self:∀(A:Around) (i:Nat) (s:Shared) (Q:Value->Shared->Prop) (E:Value->Shared->Prop),tn i s.heap->Q (.ref it) s->wpAny (model P w) A (pyIter (.ref it)) Q E s
abbrev TI:=St->Hp->(It->Hp->Prop)->Prop
def PIE(X:Cx)(af:List (Addr×Obj))(σ:St)(tg:Expr)(R:It->Hp->Prop)(X0:Value)(s2:Shared):Prop :=
 ∃(it:Addr) (fp:List Addr) (tn:Nat->Heap->Prop) (J:It) (H':Hp),X0=.ref it/\Inv X af σ H' s2/\Turn X.prog X.w X.K tg J fp it tn/\tn 0 s2.heap/\(∀b∈fp,qd X af H' b)/\R J H'
def PI(X:Cx)(tg iter:Expr)(wi:TI):Prop :=
 ∀(af:List (Addr×Obj)) (s:Shared) (σ:St) (H:Hp) (R:It->Hp->Prop),Inv X af σ H s->wi σ H R ->
  wpAny (model X.prog X.w) X.A (eval iter X.env) (λv s1=>wpAny (model X.prog X.w) X.A (pyIter v) (PIE X af σ tg R) X.xe s1) X.xe s
def Bz(ho:s.heap.get? it=some o)(hc:o.cls=.type n)(hd:o.data=.fields vs)
  (hn:["enumerate","zip","dict_itemiterator","dict_reverseitemiterator","odict_iterator","itertools.zip_longest","itertools.pairwise"].contains n=false) (hQ:Q () s):wpAny M A (letOwnedTupleGo tg (.ref it) u) Q E s:=by
 unfold letOwnedTupleGo;cases tg<;>first
  | exact ar hQ
  | (cases u<;>first
    | exact ar hQ
    | (refine ag (wpAny_load ho ?_)
       rw[hc,hd];show wpAny M A (if(["enumerate","zip","dict_itemiterator","dict_reverseitemiterator","odict_iterator","itertools.zip_longest","itertools.pairwise"].contains n&&vs[0]?==some (rawInt _))=true then _ else _) Q E s
       rw[if_neg (by grind)]
       exact ar hQ))
noncomputable def WI(K:W.Frag)(a:Addr):It :=
 ⟨λi H=>∃xs x,vf K H a xs/\xs[i]?=some x,λi H x H'=>H'=H/\∀xs,vf K H a xs->xs[i]?=some x,λi H=>∃xs,vf K H a xs/\xs.length<=i⟩
noncomputable def X1(K:W.Frag)(a:Addr):It :=
 ⟨λi H=>∃xs x,gZ K H a xs/\xs[i]?=some x,λi H x H'=>H'=H/\∀xs,gZ K H a xs->xs[i]?=some x,λi H=>∃xs,gZ K H a xs/\xs.length<=i⟩
noncomputable def WJ(lo:Int)(n:Nat):It:=⟨λi _=>i<n,λi H x H'=>H'=H/\x=.int (lo+i),λi _=>n<=i⟩
def Dl{P:Program}{w:World}{K:W.Frag}{tg:Expr}(a it:Addr):Turn P w K tg (WI K a) [it] it (λi h=>h.IsListIter it a i) where
 mem:=by simp
 obj:=λi h st b hb=>by
  have e:b=it:=by grind
  subst e;obtain⟨o,e,c,d⟩:=st;exact⟨o,e,λv z=>by grind⟩
 keep:=λi h h' st k=>st.at λo e=>k it (by simp) o e
 item:=by
  intro X hP hw hK hc i af s σ H E I hf st hg;subst hP hw hK;obtain⟨xs,x,hq,hx⟩:=hg;obtain⟨au,rv,p,hz⟩:=I.list hq;obtain⟨u,hu,ru⟩:=rv.get hx;obtain⟨f0,f1,f2,f3,f4,f5⟩:=hf it (by simp)
  refine wpAny_pyNext_list_item st p.isList (by simpa using hu) λh' st' sb=>?_
  have I1:=I.turned (t':=s.toks) (λb o hb e=>(sb.2 b hb).trans e) f0 f1 f3 f4 f5
  obtain⟨o,e,c,d⟩:=id st';exact⟨u,rfl,Bz e c d (by decide) ⟨x,H,I1,ru,⟨rfl,λys hy=>by rw[I.lN hy hq];exact hx⟩,st',λb hb=>(hf b hb).1⟩⟩
 done:=by
  intro X hP hw hK hc i af s σ H E I hf st hg;subst hP hw hK;obtain⟨xs,hq,hx⟩:=hg;obtain⟨au,rv,p,hz⟩:=I.list hq;obtain⟨f0,f1,f2,f3,f4,f5⟩:=hf it (by simp)
  have hl:=rv.length;exact wpAny_pyNext_list_end (I.ok.hd hc) st p.isList (by simp;lia) λh' eb=>⟨rfl,I.turned (λb o hb e=>eb b o hb e) f0 f1 f3 f4 f5⟩
 self:=λ_ _ _ _ _ st h=>wpAny_pyIter_listiter st h
def zU{P:Program}{w:World}{K:W.Frag}{tg:Expr}(a it:Addr):Turn P w K tg (X1 K a) [it] it (λi h=>h.IsTupleIter it a i) where
 mem:=by simp
 obj:=λi h st b hb=>by
  have e:b=it:=by grind
  subst e;obtain⟨o,e,c,d⟩:=st;exact⟨o,e,λv z=>by grind⟩
 keep:=λi h h' st k=>st.at λo e=>k it (by simp) o e
 item:=by
  intro X hP hw hK hc i af s σ H E I hf st hg;subst hP hw hK;obtain⟨xs,x,hq,hx⟩:=hg;obtain⟨au,rv,p,hz⟩:=I.tuple hq;obtain⟨u,hu,ru⟩:=rv.get hx;obtain⟨f0,f1,f2,f3,f4,f5⟩:=hf it (by simp)
  refine wpAny_pyNext_tuple_item st (p) (by simpa using hu) λh' st' sb=>?_
  have I1:=I.turned (t':=s.toks) (λb o hb e=>(sb.2 b hb).trans e) f0 f1 f3 f4 f5
  obtain⟨o,e,c,d⟩:=id st';exact⟨u,rfl,Bz e c d (by decide) ⟨x,H,I1,ru,⟨rfl,λys hy=>by rw[I.jX hy hq];exact hx⟩,st',λb hb=>(hf b hb).1⟩⟩
 done:=by
  intro X hP hw hK hc i af s σ H E I hf st hg;subst hP hw hK;obtain⟨xs,hq,hx⟩:=hg;obtain⟨au,rv,p,hz⟩:=I.tuple hq;obtain⟨f0,f1,f2,f3,f4,f5⟩:=hf it (by simp)
  have hl:=rv.length;exact wpAny_pyNext_tuple_end (I.ok.hd hc) st (p) (by simp;lia) λh' eb=>⟨rfl,I.turned (λb o hb e=>eb b o hb e) f0 f1 f3 f4 f5⟩
 self:=λ_ _ _ _ _ st h=>wpAny_pyIter_tupleiter st h
def zV{P:Program}{w:World}{K:W.Frag}{tg:Expr}(it:Addr)(lo:Int)(n:Nat):Turn P w K tg (WJ lo n) [it] it (λi h=>IsRangeIter h it (lo+(i:Nat)*1) ((n:Int)-(i:Nat)) 1) where
 mem:=by simp
 obj:=λi h st b hb=>by
  grind
 keep:=λi h h' st k=>k it (by simp) _ st
 item:=by
  intro X hP hw hK hc i af s σ H E I hf st hg;subst hP hw hK;obtain⟨f0,f1,f2,f3,f4,f5⟩:=hf it (by simp)
  have W:=Walks.range (prog:=X.prog) (w:=X.w) (I.ok.hd hc) it lo 1 n;refine W.item i s _ _ hg st λv h' tk hv st' kk=>?_
  obtain⟨t,rfl⟩:=hv;have I1:Inv X af σ H {s with heap:=h',toks:=tk}:=I.turned (λb o hb e=>kk b o (by grind) e) f0 f1 f3 f4 f5
  refine⟨_,rfl,Bz st' rfl rfl (by decide) ⟨.int (lo+i),H,I1,⟨t,?_⟩,⟨rfl,rfl⟩,st',λb hb=>(hf b hb).1⟩⟩
  rw[Int.mul_one]
 done:=by
  intro X hP hw hK hc i af s σ H E I hf st hg;subst hP hw hK;obtain⟨f0,f1,f2,f3,f4,f5⟩:=hf it (by simp)
  exact wpAny_pyNext_range_end (I.ok.hd hc) st (by have:n<=i:=hg;lia) λh' eb=>⟨rfl,I.turned (λb o hb e=>eb b o hb e) f0 f1 f3 f4 f5⟩
 self:=λ_ _ _ _ _ st h=>wpAny_pyIter_rangeiter st h
section
variable {X:Cx} {tg:Expr}
def Te(K:W.Frag)(tl:TE):TI:=λσ H R=>tl σ H λx H1=>∃a,x=.ref a/\(∃xs,vf K H1 a xs)/\R (WI K a) H1
def X2(K:W.Frag)(tl:TE):TI:=λσ H R=>tl σ H λx H1=>∃a,x=.ref a/\(∃xs,gZ K H1 a xs)/\R (X1 K a) H1
def BA{l:Expr}{tl:TE}(hl:PE X l tl):PI X tg l (Te X.K tl):=by
 intro af s σ H R I h;refine thn (hl af s σ H _ I h) λv s1 ⟨x,H1,I1,r1,q1⟩=>?_
 obtain⟨a,e,⟨xs,hq⟩,q⟩:=q1;subst e;cases r1;obtain⟨au,rv,p,hz⟩:=I1.list hq;refine zl p.isList ?_;refine⟨s1.heap.objs.size,[s1.heap.objs.size],_,_,H1,rfl,I1.kept λb o e=>aK _ e,Dl a _,⟨_,bP _ rfl,rfl,rfl⟩,λb hb=>?_,q⟩
 have e:b=s1.heap.objs.size:=by grind
 subst e;exact I1.vh (aF _) (I1.hok.fresh (aF _))
def FA{l:Expr}{tl:TE}(hl:PE X l tl):PI X tg l (X2 X.K tl):=by
 intro af s σ H R I h;refine thn (hl af s σ H _ I h) λv s1 ⟨x,H1,I1,r1,q1⟩=>?_
 obtain⟨a,e,⟨xs,hq⟩,q⟩:=q1;subst e;cases r1;obtain⟨au,rv,p,hz⟩:=I1.tuple hq;refine wpAny_pyIter_tuple (p) ?_;refine⟨s1.heap.objs.size,[s1.heap.objs.size],_,_,H1,rfl,I1.kept λb o e=>aK _ e,zU a _,⟨_,bP _ rfl,rfl,rfl⟩,λb hb=>?_,q⟩
 have e:b=s1.heap.objs.size:=by grind
 subst e;exact I1.vh (aF _) (I1.hok.fresh (aF _))
def FC{af:List (Addr×Obj)}{σ:St}{H:Hp}{s:Shared}{R:It->Hp->Prop}{E:Value->Shared->Prop}{lo hi:Int}{t u v:Tok}{tk:Nat}(I:Inv X af σ H s)(h1:-(2^62)<=lo)(h2:lo<2^62)(h3:-(2^62)<=hi)(h4:hi<2^62)
  (q:R (WJ lo (hi-lo).toNat) H):wpAny (model X.prog X.w) X.A (pyIter (.ref s.heap.objs.size)) (PIE X af σ tg R) E {s with heap:=s.heap.push {cls:=.type "range",data:=.fields #[.int lo t,.int hi u,.int 1 v]},toks:=tk}:=by
 refine wpAny_pyIter_range (IsRange.new ..) (small_one h1 h2 h3 h4) ?_;have I1:Inv X af σ H {s with heap:=s.heap.push {cls:=.type "range",data:=.fields #[.int lo t,.int hi u,.int 1 v]},toks:=tk}:=I.kept λb o e=>aK _ e
 refine⟨(s.heap.push {cls:=.type "range",data:=.fields #[.int lo t,.int hi u,.int 1 v]}).objs.size,[(s.heap.push {cls:=.type "range",data:=.fields #[.int lo t,.int hi u,.int 1 v]}).objs.size],_,_,H,rfl,
  I1.kept λb o e=>aK _ e,zV _ lo (hi-lo).toNat,?_,λb hb=>?_,q⟩
 ·have e1:lo+(0:Nat)*1=lo:=by simp
  have e2:(((hi-lo).toNat:Nat):Int)-(0:Nat)=Builtin.Range.rangeSize lo hi 1:=by rw[rangeSize_one];split<;>lia
  rw[e1,e2];exact bP _ rfl
 ·have e:b=(s.heap.push {cls:=.type "range",data:=.fields #[.int lo t,.int hi u,.int 1 v]}).objs.size:=by grind
  subst e;exact I1.vh (aF _) (I1.hok.fresh (aF _))
def Tf(ta:TA):TI:=λσ H R=>ta σ H λvs H1=>∃j:Int,vs=[.int j] /\ -(2^62)<=j/\j<2^62/\R (WJ 0 j.toNat) H1
def Dn{a:Expr}{ta:TA}{p pos:Pos}(hg:Gl X "range")(hm:X.mg "range"=none)(ha:PA X [a] ta)(hs:starEach [a] X.env=[(false,eval a X.env)]:=by rfl):PI X tg (.Call (.Name "range" p) [a] [] pos) (Tf ta):=by
 intro af s σ H R I h;refine Call_ (ld_blt I hg hm boot_range (kG (thn (ha pos af s σ H _ I h) λus s1 ⟨vs,H1,I1,r1,q1⟩=>?_) hs rfl))
 obtain⟨j,e,q1,q2,q⟩:=q1;subst e;cases r1 with
 | cons r rr =>
  cases rr;obtain⟨t,rfl⟩:=r;exact call_range_1 (FC I1 (by lia) (by lia) q1 q2 (by grind))
def X3(wi:TI)(g:TG)(tb:TS):TS:=λD σ H=>wi σ H λJ H1=>∃W:Nat->Nat->St->Hp->Prop,(∃m,W 0 m σ H1)/\∀i m σ H,W i m σ H ->
 (J.stop i H/\D.nx σ H)\/(J.go i H/\∃N:St->Hp->Prop,(∀bC H',N bC H'->∃m',m'<m/\W (i+1) m' bC H')/\∀x H',J.yld i H x H'->g x σ H' λBB H2=>tb {D with nx:=N,ct:=N,bk:=D.nx} BB H2)
noncomputable def qe(fp:List Addr)(h:Heap):List (Addr×Obj):=fp.filterMap λb=>(h.get? b).map λo=>(b,o)
def iQ(hb:b∈fp)(e:h.get? b=some o):(b,o)∈qe fp h:=pH.mpr ⟨b,hb,by rw[e];rfl⟩
def Dp(hp:p∈qe fp h):p.1∈fp/\h.get? p.1=some p.2:=by
 obtain⟨b,hb,e⟩:=pH.mp hp;cases q:h.get? b with
 | none=>rw[q]at e;cases e
 | some o =>
  rw[q]at e;have e':=bE e;subst e';exact⟨hb,q⟩
def Inv.pinned{af:List (Addr×Obj)}{σ:St}{H:Hp}{s:Shared}{fp:List Addr}(I:Inv X af σ H s)(hf:∀b∈fp,qd X af H b)(ho:∀b∈fp,∃o,s.heap.get? b=some o/\∀v,o.data≠.cell v):Inv X (af++qe fp s.heap) σ H s :=
 I.lM λp hp=>(b8.mp hp).elim (λz=>I.pin p (fx _ z)) λz=>by
  obtain⟨hb,e⟩:=Dp z;obtain⟨f0,f1,f2,_⟩:=hf p.1 hb;obtain⟨o,e',d⟩:=ho p.1 hb;rw[e]at e';cases e';exact⟨e,f0,f1,f2,d⟩
def Inv.qf{af pl:List (Addr×Obj)}{σ:St}{H:Hp}{s:Shared}(I:Inv X (af++pl) σ H s):Inv X af σ H s:=I.lM λp hp=>I.pin p (fx _ (mQ _ hp))
def Oj(hp:PassesOwn (model X.prog X.w) X.A X.env X.xe)(hc:X.calm=true)(hi:PI X tg iter wi)(hg:PG X tg g)(hb:PSs X body tb)
  (hs:∀x,foldedSetIterable iter X.env x=pure x:=by intro _;rfl):PS X (.For tg iter body [] pos) (X3 wi g tb):=by
 intro af s σ H D I h;refine wpAny_For (thn (hi af s σ H _ I h) λv s1 h1=>thn h1 λX0 s2 h2=>?_) hs
 obtain⟨it,fp,tn,J,H2,e,I2,T,dW,f2,W,⟨m0,w0⟩,qc⟩:=h2;subst e;have zW:∀{H':Hp},(∀b∈fp,H' b=none)->∀b∈fp,qd X af H' b:=λhn b hb=>⟨hn b hb,(f2 b hb).2⟩
 refine codeAny_forLoop_any (λn s'=>∃i bC H',Inv X af bC H' s'/\tn i s'.heap/\(∀b∈fp,H' b=none)/\W i n bC H') ?_ m0 ⟨0,σ,H2,I2,dW,λb hb=>(f2 b hb).1,w0⟩
 rintro n s3 ⟨i,ox,H3,I3,JY,fr3,w3⟩
 rcases qc i n ox H3 w3 with⟨stop,qn⟩ | ⟨go,N,hN,step⟩
 ·refine kQ hp (thn (T.done X rfl rfl rfl hc i af s3 ox H3 X.xe I3 (zW fr3) JY stop) λr s4 ⟨hr,I4⟩=>?_)
  subst hr;exact pN ⟨ox,H3,I4,qn⟩
 ·refine kQ hp (thn (T.item X rfl rfl rfl hc i af s3 ox H3 X.xe I3 (zW fr3) JY go) λr s4 ⟨u,hr,h4⟩=>?_)
  subst hr;refine kQ hp (thn h4 λ_ s5 z9=>?_)
  obtain⟨x,H5,I5,r5,y5,Ol,X4⟩:=z9;have X5:=I5.pinned (zW X4) (T.obj _ _ Ol);refine kQ hp (thn (hg _ s5 ox H5 x u _ X5 r5 (step x H5 y5)) λ_ s6 ⟨WK,H6,I6,q6⟩=>?_)
  refine kQ hp (thn (hb _ s6 WK H6 _ I6 q6) λf s7 q7=>?_)
  have again:∀{FD:St} {H7:Hp},Inv X (af++qe fp s5.heap) FD H7 s7->N FD H7->∃m,m<n/\∃i bC H',Inv X af bC H' s7/\tn i s7.heap/\(∀b∈fp,H' b=none)/\W i m bC H':=λ{FD H7} I7 n7=>by
   obtain⟨m',hm,w7⟩:=hN FD H7 n7;refine⟨m',hm,i+1,FD,H7,I7.qf,T.keep _ _ _ Ol λb hb o e=>(I7.pin (b,o) (fx _ (fx _ (iQ hb e)))).1,λb hb=>?_,w7⟩
   obtain⟨o,e,d⟩:=T.obj _ _ Ol b hb;exact(I7.pin (b,o) (fx _ (fx _ (iQ hb e)))).2.1
  cases f with
  | next=>obtain⟨FD,H7,I7,n7⟩:=q7;exact again I7 n7
  | cont=>obtain⟨FD,H7,I7,n7⟩:=q7;exact again I7 n7
  | brk=>obtain⟨FD,H7,I7,q7⟩:=q7;exact⟨FD,H7,I7.qf,q7⟩
  | ret v=>obtain⟨x7,FD,H7,I7,r7,q7⟩:=q7;exact⟨x7,FD,H7,I7.qf,r7,q7⟩
end
abbrev R2:=V->V->Hp->VK->Prop
def OpR(X:Cx)(f:Value->Value->Sem Value)(r:R2):Prop :=
 ∀(af:List (Addr×Obj)) (s:Shared) (σ:St) (H:Hp) (x y:V) (v u:Value) (Q:VK),Inv X af σ H s->RelV x v->RelV y u->r x y H Q ->
  wpAny (model X.prog X.w) X.A (f v u) (EP X af σ Q) X.xe s
def UnR(X:Cx)(f:Value->Sem Value)(r:V->Hp->VK->Prop):Prop :=
 ∀(af:List (Addr×Obj)) (s:Shared) (σ:St) (H:Hp) (x:V) (v:Value) (Q:VK),Inv X af σ H s->RelV x v->r x H Q ->
  wpAny (model X.prog X.w) X.A (f v) (EP X af σ Q) X.xe s
def kz(X:Cx)(f:Value)(r:List V->Hp->VK->Prop):Prop :=
 ∀(af:List (Addr×Obj)) (s:Shared) (σ:St) (H:Hp) (xs:List V) (us:List Value) (Q:VK),Inv X af σ H s->Vals xs us->r xs H Q ->
  wpAny (model X.prog X.w) X.A (call f us) (EP X af σ Q) X.xe s
def X6(X:Cx)(r:V->Hp->(Bool->Hp->Prop)->Prop):Prop :=
 ∀(af:List (Addr×Obj)) (s:Shared) (σ:St) (H:Hp) (x:V) (v:Value) (Q:Bool->Hp->Prop),Inv X af σ H s->RelV x v->r x H Q ->
  wpAny (model X.prog X.w) X.A (truthy v) (TP X af σ Q) X.xe s
def Th(r:R2)(ta tb:TE):TE:=λσ H Q=>ta σ H λx H1=>tb σ H1 λy H2=>r x y H2 Q
def tUn(r:V->Hp->VK->Prop)(ta:TE):TE:=λσ H Q=>ta σ H λx H1=>r x H1 Q
def rI(C:Int->Int->Prop)(g:Int->Int->V):R2:=λx y H Q=>∃i j,x=.int i/\y=.int j/\C i j/\Q (g i j) H
def Jm(g:Int->Int->V):R2:=λx y H Q=>∃i j,x=.int i/\y=.int j/\Q (g i j) H
def rU(g:Int->V):V->Hp->VK->Prop:=λx H Q=>∃i,x=.int i/\Q (g i) H
section
variable {X:Cx} {a b c:Expr} {ta tb tc:TE} {pos:Pos}
def Om(ha:PE X a ta)(hb:PE X b tb){af:List (Addr×Obj)}{s:Shared}{σ:St}{H:Hp}{R:V->V->Hp->Prop}(I:Inv X af σ H s)
  (h:ta σ H λx H1=>tb σ H1 λy H2=>R x y H2) {Q:Value->Shared->Prop} {f:Value->Value->Sem Value}
  (hf:∀v u s2 x y H2,Inv X af σ H2 s2->RelV x v->RelV y u->R x y H2->wpAny (model X.prog X.w) X.A (f v u) Q X.xe s2) :
  wpAny (model X.prog X.w) X.A (eval a X.env) (λv s₁=>wpAny (model X.prog X.w) X.A (eval b X.env) (λu Oh=>wpAny (model X.prog X.w) X.A (f v u) Q X.xe Oh) X.xe s₁) X.xe s:=by
 refine thn (ha af s σ H _ I h) λv s1 ⟨x,H1,I1,r1,q1⟩=>?_
 refine thn (hb af s1 σ H1 _ I1 q1) λu s2 ⟨y,H2,I2,r2,q2⟩=>?_
 exact hf v u s2 x y H2 I2 r1 r2 q2
def Ti(ho:OpR X (binaryOp op) r)(ha:PE X a ta)(hb:PE X b tb):PE X (.BinOp a op b pos) (Th r ta tb):=by
 intro af s σ H Q I h;exact wpAny_BinOp (Om ha hb I h λv u s2 x y H2 I2 rx ry q=>ho af s2 σ H2 x y v u Q I2 rx ry q)
def Tj{r:V->Hp->VK->Prop}(ho:UnR X (unaryOp op) r)(ha:PE X a ta):PE X (.UnaryOp op a pos) (tUn r ta):=by
 intro af s σ H Q I h;exact UnaryOp_ (thn (ha af s σ H _ I h) (by rintro v s1 ⟨x,H1,I1,r1,q1⟩;exact ho af s1 σ H1 x v Q I1 r1 q1))
def Tn{f:Value->Value->Sem Value}{C:Int->Int->Prop}{g:Int->Int->Int}
  (rule:∀(i j:Int) (t u:Tok) (s:Shared) (Q:Value->Shared->Prop) (E:Value->Shared->Prop),C i j->Q (.int (g i j) s.toks) {s with toks:=s.toks+1}->wpAny (model X.prog X.w) X.A (f (.int i t) (.int j u)) Q E s) :
  OpR X f (rI C λi j=>.int (g i j)):=by
 intro af s σ H x y v u Q I rx ry h;obtain⟨i,j,rfl,rfl,hc,q⟩:=h;obtain⟨t,rfl⟩:=rx;obtain⟨t',rfl⟩:=ry;exact rule i j t t' s _ _ hc ⟨.int (g i j),H,I.tok _,⟨_,rfl⟩,q⟩
def Oo{f:Value->Value->Sem Value}{g:Int->Int->Int}
  (rule:∀(i j:Int) (t u:Tok) (s:Shared) (Q:Value->Shared->Prop) (E:Value->Shared->Prop),Q (.int (g i j) s.toks) {s with toks:=s.toks+1}->wpAny (model X.prog X.w) X.A (f (.int i t) (.int j u)) Q E s) :
  OpR X f (Jm λi j=>.int (g i j)):=by
 intro af s σ H x y v u Q I rx ry h;obtain⟨i,j,rfl,rfl,q⟩:=h;obtain⟨t,rfl⟩:=rx;obtain⟨t',rfl⟩:=ry;exact rule i j t t' s _ _ ⟨.int (g i j),H,I.tok _,⟨_,rfl⟩,q⟩
def JZ{f:Value->Value->Sem Value}{g:Int->Int->Bool}
  (rule:∀(i j:Int) (t u:Tok) (s:Shared) (Q:Value->Shared->Prop) (E:Value->Shared->Prop),Q (.bool (g i j)) s->wpAny (model X.prog X.w) X.A (f (.int i t) (.int j u)) Q E s) :
  OpR X f (Jm λi j=>.bl (g i j)):=by
 intro af s σ H x y v u Q I rx ry h;obtain⟨i,j,rfl,rfl,q⟩:=h;obtain⟨t,rfl⟩:=rx;obtain⟨t',rfl⟩:=ry;exact rule i j t t' s _ _ ⟨.bl (g i j),H,I,rfl,q⟩
def X7(i j:Int):Prop:=0<j/\j<1073741824
def X8(i j:Int):Prop:=0<=j/\j<=1000000/\i.natAbs<2^64
def J0(i j:Int):Prop:=(-(2^64)<i/\i<2^64)\/(-(2^64)<j/\j<2^64)
def J0.ok(h:J0 i j):IntMulOk i j:=by
 rcases h with⟨h1,h2⟩ | ⟨h1,h2⟩
 ·exact .of_left (intBits_le_64 h1 h2)
 ·exact .of_right (intBits_le_64 h1 h2)
def Oq:OpR X (binaryOp .Add) (Jm λi j=>.int (i+j)):=Oo λ_ _ _ _ _ _ _ q=>add_int q
def Ot:OpR X (binaryOp .Sub) (Jm λi j=>.int (i-j)):=Oo λ_ _ _ _ _ _ _ q=>sub_int q
def Ou:OpR X (binaryOp .Mult) (rI J0 λi j=>.int (i*j)):=Tn λ_ _ _ _ _ _ _ hc q=>mul_int q hc.ok
def J1:OpR X (binaryOp .FloorDiv) (rI X7 λi j=>.int (i/j)):=Tn λi j _ _ _ _ _ hc q=>by
 have h1:=hc.1;have h2:=hc.2;exact floordiv_int (by lia) (by rw[Int.fdiv_eq_ediv_of_nonneg i (by lia)];exact q) (.inl (PyProof.noPylong_small (by lia)))
def Ov:OpR X (binaryOp .Mod) (rI (λ_ j=>0<j) λi j=>.int (i%j)):=Tn λi j _ _ _ _ _ hc q=>by
 have h1:=hc;exact mod_int' (by lia) (by rw[Int.fmod_eq_emod_of_nonneg i (by lia)];exact q)
def Ow:OpR X (binaryOp .Pow) (rI X8 λi j=>.int (i^j.toNat)):=Tn λ_ _ _ _ _ _ _ hc q=>pow_int_small hc.1 hc.2.1 hc.2.2 q
def J2:OpR X (inplaceOp .Add) (Jm λi j=>.int (i+j)):=Oo λ_ _ _ _ _ _ _ q=>iadd_int q
def unI{f:Value->Sem Value}{g:Int->Int}
  (rule:∀(i:Int) (t:Tok) (s:Shared) (Q:Value->Shared->Prop) (E:Value->Shared->Prop),Q (.int (g i) s.toks) {s with toks:=s.toks+1}->wpAny (model X.prog X.w) X.A (f (.int i t)) Q E s) :
  UnR X f (rU λi=>.int (g i)):=by
 intro af s σ H x v Q I rx h;obtain⟨i,rfl,q⟩:=h;obtain⟨t,rfl⟩:=rx;exact rule i t s _ _ ⟨.int (g i),H,I.tok _,⟨_,rfl⟩,q⟩
def Ox:UnR X (unaryOp .USub) (rU λi=>.int (-i)):=unI λ_ _ _ _ _ q=>neg_int q
end
section
variable {X:Cx} {a b c:Expr} {ta tb tc:TE} {pos:Pos}
def FE{af:List (Addr×Obj)}{σ:St}{H:Hp}{s:Shared}{Q:VK}{k k':Bool}(I:Inv X af σ H s)(q:Q (.bl k) H)(e:k=k'):EP X af σ Q (.bool k') s:=by
 subst e;exact⟨.bl k,H,I,rfl,q⟩
def To:OpR X (compareOp .Lt) (Jm λi j=>.bl (decide (i<j))):=JZ λ_ _ _ _ _ _ _ q=>lt_int q
def Tq:OpR X (compareOp .LtE) (Jm λi j=>.bl (decide (i<=j))):=JZ λ_ _ _ _ _ _ _ q=>le_int q
def Ts:OpR X (compareOp .Gt) (Jm λi j=>.bl (decide (j<i))):=JZ λ_ _ _ _ _ _ _ q=>gt_int q
def Tt:OpR X (compareOp .GtE) (Jm λi j=>.bl (decide (j<=i))):=JZ λ_ _ _ _ _ _ _ q=>ge_int q
def Oy:OpR X (compareOp .Is) (λx y H Q=>y=.aP/\Q (.bl (decide (x=.aP))) H):=by
 intro af s σ H x y v u Q I rx ry h;obtain⟨rfl,q⟩:=h;cases ry;refine is_none_gen (FE I q ?_);cases x<;>first
  | (cases rx;rfl)
  | (obtain⟨t,rfl⟩:=rx;rfl)
def J3:OpR X (compareOp .IsNot) (λx y H Q=>y=.aP/\Q (.bl (!decide (x=.aP))) H):=by
 intro af s σ H x y v u Q I rx ry h;obtain⟨rfl,q⟩:=h;cases ry;refine isnot_none_gen (FE I q ?_);cases x<;>first
  | (cases rx;rfl)
  | (obtain⟨t,rfl⟩:=rx;rfl)
def J4(ho:OpR X (compareOp op) r)(ha:PE X a ta)(hb:PE X b tb)(hm:behindInMarks op b=false):PE X (.Compare a [op] [b] pos) (Th r ta tb):=by
 intro af s σ H Q I h;exact wpAny_Compare1 (Om ha hb I h λv u s2 x y H2 I2 rx ry q=>ho af s2 σ H2 x y v u Q I2 rx ry q) hm
def MF(t:TE):TT:=λσ H Q=>t σ H λx H'=>∃k,x=.bl k/\Q k H'
def J5(ho:OpR X (compareOp op) r)(ha:PE X a ta)(hb:PE X b tb)(hm:behindInMarks op b=false):PT X (.Compare a [op] [b] pos) (MF (Th r ta tb)):=by
 intro af s σ H Q I h;refine wpAny_isTrue_Compare1 (thn (ha af s σ H _ I h) λv s1 ⟨x,H1,I1,r1,q1⟩=>thn (hb af s1 σ H1 _ I1 q1) λu s2 ⟨y,H2,I2,r2,q2⟩ =>
  thn (ho af s2 σ H2 x y v u _ I2 r1 r2 q2) λc s3 ⟨z,H3,I3,r3,k,e,q3⟩=>?_) hm
 subst e;cases r3;exact kN ⟨H3,I3,q3⟩
def zX(r r':R2)(ta tb tc:TE):TE:=λσ H Q=>ta σ H λx H1=>tb σ H1 λy H2=>r x y H2 λz H3=>∃k,z=.bl k /\
 (if k=true then tc σ H3 λw' H4=>r' y w' H4 Q else Q (.bl false) H3)
def FF(ho:OpR X (compareOp op) r)(qa:OpR X (compareOp wO) r')(ha:PE X a ta)(hb:PE X b tb)(hc:PE X c tc)
  (hm:lastMarks [op,wO] [b,c]=false:=by with_unfolding_all rfl):PE X (.Compare a [op,wO] [b,c] pos) (zX r r' ta tb tc):=by
 intro af s σ H Q I h;refine Compare_chain (thn (ha af s σ H _ I h) λv s1 ⟨x,H1,I1,r1,q1⟩=>chain_link (thn (hb af s1 σ H1 _ I1 q1) λu s2 ⟨y,H2,I2,r2,q2⟩ =>
  thn (ho af s2 σ H2 x y v u _ I2 r1 r2 q2) λd s3 ⟨z,H3,I3,r3,k,e,q3⟩=>?_)) hm
 subst e;cases r3;refine kN ?_;cases k with
 | false=>exact ite_ff ⟨.bl false,H3,I3,rfl,q3⟩
 | true=>exact ite_tt (chain_last (thn (hc af s3 σ H3 _ I3 q3) (by rintro w' s4 ⟨z',H4,I4,r4,q4⟩;exact qa af s4 σ H4 y z' u w' Q I4 r2 r4 q4)))
def FG(ho:OpR X (compareOp op) r)(qa:OpR X (compareOp wO) r')(ha:PE X a ta)(hb:PE X b tb)(hc:PE X c tc)
  (hm:lastMarks [op,wO] [b,c]=false:=by with_unfolding_all rfl):PT X (.Compare a [op,wO] [b,c] pos) (MF (zX r r' ta tb tc)):=by
 intro af s σ H Q I h;refine isTrue_chain (thn (ha af s σ H _ I h) λv s1 ⟨x,H1,I1,r1,q1⟩=>test_link (thn (hb af s1 σ H1 _ I1 q1) λu s2 ⟨y,H2,I2,r2,q2⟩ =>
  thn (ho af s2 σ H2 x y v u _ I2 r1 r2 q2) λd s3 ⟨z,H3,I3,r3,k,e,q3⟩=>?_)) hm
 subst e;cases r3;refine kN ?_;cases k with
 | false =>
  obtain⟨k',e',q'⟩:=q3;cases e';exact ite_ff ⟨H3,I3,q'⟩
 | true =>
  refine ite_tt (test_last (thn (hc af s3 σ H3 _ I3 q3) λw' s4 ⟨z',H4,I4,r4,q4⟩=>thn (qa af s4 σ H4 y z' u w' _ I4 r2 r4 q4) λd' s5 z9=>?_))
  obtain⟨z2,H5,I5,r5,k2,e2,q5⟩:=z9;subst e2;cases r5;exact kN ⟨H5,I5,q5⟩
def J6(K:W.Frag)(x:V)(H:Hp)(k:Bool):Prop :=
 match x with
 | .aP=>k=false
 | .bl b=>k=b
 | .int i=>k=(i != 0)
 | .str y=>y.length<=sizeLine/\k=((y.length:Int) != 0)
 | .RX y=>y.size<=sizeLine/\k=((y.size:Int) != 0)
 | .ref p=>(∃xs,vf K H p xs/\k = !xs.isEmpty)\/(∃xs,gZ K H p xs/\k = !xs.isEmpty)\/∃kvs,H p=some (.dK kvs)/\k = !kvs.isEmpty
 | _=>False
def zY{κ:Type}{kvs:List (κ×V)}{vs:List (κ×Value)}(r:KV kvs vs):(!vs.isEmpty) = !kvs.isEmpty:=by
 cases r<;>rfl
def qg(r:Vals xs au):(!au.toArray.isEmpty) = !xs.isEmpty:=by
 cases r<;>simp
def lj:(sizeLine:Nat)<2^63:=by rw[kZ];decide
def FH:X6 X (λx H Q=>∃k,J6 X.K x H k/\Q k H):=by
 intro af s σ H x v Q I rx h;obtain⟨k,e,q⟩:=h;have hl:=lj;have hs:=kZ;cases x with
 | aP =>
  cases rx;have e':=e;subst e';exact truthy_none ⟨H,I,q⟩
 | bl b =>
  cases rx;have e':=e;subst e';exact kN ⟨H,I,q⟩
 | int i =>
  obtain⟨t,rfl⟩:=rx;have e':=e;subst e';exact PySem.P.truthy_int ⟨H,I,q⟩
 | str y =>
  obtain⟨t,rfl⟩:=rx;obtain⟨hy,e'⟩:y.length<=sizeLine/\k=((y.length:Int) != 0):=e;subst e';exact PySem.P.truthy_str (by lia) ⟨H,I.tok _,q⟩
 | RX y =>
  obtain⟨t,rfl⟩:=rx;obtain⟨hy,e'⟩:y.size<=sizeLine/\k=((y.size:Int) != 0):=e;subst e';exact W.truthy_bytes (by lia) ⟨H,I.tok _,q⟩
 | ref p =>
  cases rx;have e':=e;rcases e' with⟨xs,hx,e'⟩ | ⟨xs,hx,e'⟩ | ⟨kvs,hx,e'⟩
  ·subst e';obtain⟨au,r,pl,hz⟩:=I.list hx;have dX:=r.length;exact wpAny_truthy_list pl.isList (by grind) ⟨H,I.tok _,by rw[qg r];exact q⟩
  ·subst e';obtain⟨au,r,pl,hz⟩:=I.tuple hx;have dX:=r.length;exact truthy_tuple pl (by grind) ⟨H,I.tok _,by rw[qg r];exact q⟩
  ·subst e';obtain⟨hz,hS,vs,r,m⟩:kvs.length<=sizeLine/\(p==sysModules)=false/\∃vs,KV kvs vs/\s.heap.DictOf (dI X.prog X.w) p vs:=I.hok p _ hx
   have dX:=nh r;exact wpAny_truthy_dict hS m (by lia) ⟨H,I.tok _,by rw[zY r];exact q⟩
 | _=>exact(e).elim
def FI(ha:PE X a ta)(he:∀i6,isTrue a X.env i6=(do let v <-i6;standAt a.pos;holding [v] (truthy v))) :
  PT X a (λσ H Q=>ta σ H λx H'=>∃k,J6 X.K x H' k/\Q k H'):=by
 intro af s σ H Q I h;exact isTrue_plain (thn (ha af s σ H _ I h) (by rintro v s1 ⟨x,H1,I1,r1,q1⟩;exact FH af s1 σ H1 x v Q I1 r1 q1)) (he _)
def zZ:OpR X (binaryOp .Add) (λx y H Q=>∃i j,x=.str i/\y=.str j/\i.length+j.length<=sizeLine/\Q (.str (i++j)) H):=by
 intro af s σ H x y v u Q I rx ry h;obtain⟨i,j,rfl,rfl,hz,q⟩:=h;obtain⟨t,rfl⟩:=rx;obtain⟨t',rfl⟩:=ry;exact add_str (λt' tk=>⟨.str (i++j),H,I.tok _,⟨_,rfl⟩,q⟩) hz
def kA(r:Vals [x] us):∃u,us=[u]/\RelV x u:=by
 cases r with
 | cons r1 r2=>cases r2;exact⟨_,rfl,r1⟩
def FJ(r:Vals [x,y] us):∃u w',us=[u,w']/\RelV x u/\RelV y w':=by
 cases r with
 | cons r1 r2 =>
  cases r2 with
  | cons r3 r4=>cases r4;exact⟨_,_,rfl,r1,r3⟩
def sV:kz X (.type "int") (λxs H Q=>(∃i,xs=[.int i]/\Q (.int i) H)\/∃k,xs=[.bl k]/\Q (.int (if k then 1 else 0)) H):=by
 intro af s σ H xs us Q I r h;rcases h with⟨i,rfl,q⟩ | ⟨k,rfl,q⟩
 ·obtain⟨u,rfl,t,rfl⟩:=kA r;exact call_int_int ⟨.int i,H,I,⟨_,rfl⟩,q⟩
 ·obtain⟨u,rfl,r1⟩:=kA r;cases r1;exact call_int_bool ⟨.int (if k then 1 else 0),H,I.tok _,⟨_,rfl⟩,q⟩
def vi:kz X (.type "str") (λxs H Q=>∃i,xs=[.int i]/\i.natAbs.log2<1920/\Q (.str (toString i)) H):=by
 intro af s σ H xs us Q I r h;obtain⟨i,rfl,hz,q⟩:=h;obtain⟨u,rfl,t,rfl⟩:=kA r;exact PySem.P.str_of_int hz ⟨.str _,H,I.tok _,⟨_,rfl⟩,q⟩
end
structure z0 (h:Heap) (x dx C:Addr) (mA:Str->Option Value):Prop where
 obj:h.get? x=some (W.instObj C dx)
 ns:h.Ns1 dx mA
 ne:dx≠x
def Dq{h:Heap}{mA:Str->Option Value}(n:h.Ns1 dx mA):∃od,h.get? dx=some od/\∀name,W.lookIn name od=some (mA name):=by
 obtain⟨o,es,ep,ho,hd,hk,_,hm⟩:=n;refine⟨o,ho,λname=>?_⟩
 have e:=hm name;unfold nsFind findBy at e;rw[<-Array.find?_toList]at e;unfold W.lookIn;rw[hd];dsimp only
 split
 ·grind
 ·rename_i q;rw[q]at e;have a:es.toList.any (·.refKey)=false:=by
   rw[List.any_eq_false];intro y hy;obtain⟨z,t,Oz⟩:=hk y (Array.mem_toList_iff.mp hy);simp[DictEntry.refKey,Oz]
  have a':¬es.toList.any (·.refKey)=true:=by grind
  rw[if_neg a'];exact gA some e
def z0.lp(I:z0 h x dx C mA):∃od,W.InstAt h x (W.instObj C dx) C (some od)/\∀name,W.lookIn name od=some (mA name) :=
 let ⟨od,ho,hl⟩:=Dq I.ns
 ⟨od,⟨I.obj,rfl,rfl,ho⟩,hl⟩
section
variable {prog:Program} {w:World} {A:Around} {E:Value->Shared->Prop} {s:Shared} {K:W.Frag} {x dx C f:Addr} {mA:Str->Option Value} {name:Str} {v:Value}
def J7(X:K.In s.heap)(I:z0 s.heap x dx C mA)(hg:W.plainGet K C name=true)(hh:W.hasDictIn K C=true)
  (ha:W.findIn K (.ref C) name=some none) (hv:mA name=some v) (hv':W.handedIn v=true) (h:Q v {s with toks:=s.toks+1}) :
  wpAny (model prog w) A (getAttr (.ref x) name expr) Q E s:=by
 obtain⟨od,J,hl⟩:=I.lp;exact W.get_value X J (W.plainGet_of hg).1 (W.findObj_own hh ha rfl (by rw[hl,hv])) hv' h
def J8(X:K.In s.heap)(I:z0 s.heap x dx C mA)
  (hs:W.findIn K (.ref C) "__setattr__"=some (some (.builtin "object.__setattr__"))) (hp:W.plainOver K C=true) (ht:W.takerIn K C name=some none) (hh:W.hasDictIn K C=true)
  (hw:PySem.Within mA ns) (hsz:ns.length<=sizeLine)
  (h:∀h',z0 h' x dx C (λy=>if y=name then some v else mA y)->Heap.SameBut dx s.heap h'->Q () {s with heap:=h',toks:=s.toks+2}) :
  wpAny (model prog w) A (setAttr (.ref x) name v) Q E s:=by
 obtain⟨od,J,hl⟩:=I.lp;refine W.set_plain X J hs (W.osa_open X J hp ht λb=>?_)
 obtain⟨cd,hc,SX⟩:=W.any_some hh;have hx:=I.obj;refine ag (ar (ag (ag (wpAny_loadPart hx (ag (W.Looks.here (W.looks_clsIn X hc) ?_))))));rw[SX];refine ar (ag (ar (ag ?_)));refine wpAny_nsSet1 I.ns λh' Tu MH=>?_
 obtain⟨oD,esD,epD,hoD,hdD,hcD⟩:=Tu.count (PySem.Within.cons name v hw);refine ag (wpAny_lookBehind hoD (by rw[hdD];exact pastItsLine_dict (aX hcD (by grind))) ?_)
 exact ar (h _ ⟨(MH.2 _ (cx I.ne)).trans I.obj,Tu,I.ne⟩ MH)
def FK(X:K.In s.heap)(hm:W.makesIn K C=true)
  (hi:W.findIn K (.ref C) "__init__"=some (some (.ref f))) (hf:W.typeIn K (.ref f)=some (.type "function"))
  (h:codeAny (model prog w) (A.under (.builtin "type.__call__" ⟨.ref C::vs,kw⟩)) (.call (.ref f) ⟨.ref (s.heap.objs.size+1)::vs,kw⟩) (W.InitBack (s.heap.objs.size+1) R)
   {s with heap:=(s.heap.push W.emptyDict).push (W.instObj C s.heap.objs.size)}) :
  codeAny (model prog w) A (.call (.ref C) ⟨vs,kw⟩) R s:=by
 obtain⟨hh,g,d,t,os⟩:=s;exact W.make_core (W.makes_of X hm) (W.looks_findIn X hi) (λself=>W.bind_fn X self hf) (.inl rfl) h
end
noncomputable def iu(f:Str)(v:V):List (Str×V)->List (Str×V)
 | []=>[(f,v)]
 | (g,x)::r=>if g=f then(g,v)::r else(g,x)::iu f v r
theorem nZ(f g:Str)(v:V):∀fs:List (Str×V),(iu f v fs).lookup g=if g=f then some v else fs.lookup g
 | []=>by
  show List.lookup g [(f,v)]=_;by_cases h:g=f
  ·grind
  ·grind
 | (k,x)::r=>by
  have ih:=nZ f g v r;rw[show iu f v ((k,x)::r)=(if k=f then(k,v)::r else(k,x)::iu f v r)from rfl]
  by_cases hk:k=f
  ·grind
  ·grind
theorem nB(f:Str)(v:V):∀fs:List (Str×V),f∈(iu f v fs).map (·.1)/\∀g,g∈fs.map (·.1)->g∈(iu f v fs).map (·.1)
 | []=>⟨by simp[iu],λg h=>by simp at h⟩
 | (k,x)::r=>by
  obtain⟨i1,i2⟩:=nB f v r;rw[show iu f v ((k,x)::r)=(if k=f then(k,v)::r else(k,x)::iu f v r)from rfl]
  by_cases hk:k=f
  ·grind
  ·grind
theorem n4(f:Str)(v:V):∀fs:List (Str×V),(iu f v fs).length<=fs.length+1
 | []=>by simp[iu]
 | (k,x)::r=>by
  have ih:=n4 f v r;rw[show iu f v ((k,x)::r)=(if k=f then(k,v)::r else(k,x)::iu f v r)from rfl]
  by_cases hk:k=f
  ·grind
  ·grind
def oq.J9(r:oq (some v) o):∃u,o=some u/\RelV v u:=by
 cases o with
 | none=>exact(r).elim
 | some u=>exact⟨u,rfl,r⟩
def oq.none_of(r:oq none o):o=none:=by
 cases o with
 | none=>rfl
 | some u=>exact(r).elim
def Dr(r:RelV v u):W.handedIn u=true:=by
 cases v with
 | aP=>cases(r);rfl
 | bl b=>cases(r);rfl
 | int i=>obtain⟨t,e⟩:=(r);cases e;rfl
 | str x=>obtain⟨t,e⟩:=(r);cases e;rfl
 | RX b=>obtain⟨t,e⟩:=(r);cases e;rfl
 | Wx b=>obtain⟨t,e⟩:=(r);cases e;rfl
 | ref a=>cases(r);rfl
 | ty n=>cases(r);rfl
section
variable {P:Program} {w:World} {H H':Hp} {h h':Heap} {a C dx:Addr} {fs Mz:List (Str×V)}
def vj(hok:lH P w H h)(e:H a=some (.ins C dx fs)):∃mA,z0 h a dx C mA/\(∀f,oq (fs.lookup f) (mA f))/\PySem.Within mA (fs.map (·.1))/\fs.length<=1000/\H dx=some (.own a):=by
 obtain⟨d,z,ne,ob,mA,n,r,q⟩:=(hok a _ e);exact⟨mA,⟨ob,n,ne⟩,r,q,z,d⟩
end
def sO.get{K:W.Frag}{C:Addr}(c:sO K C)(f:Str):W.plainGet K C f=true:=c.pg
def ir.Tv{K:W.Frag}{C:Addr}{f:Str}(n:ir K C f):W.takerIn K C f=some none:=by
 unfold W.takerIn;rw[show W.findIn K (.ref C) f=some none from n]
 rfl
section
variable {X:Cx} {af:List (Addr×Obj)} {σ:St} {H:Hp} {s:Shared} {a C dx:Addr} {fs:List (Str×V)} {f:Str} {v:V} {A:Around} {E:Value->Shared->Prop}
def qh(I:Inv X af σ H s)(e:H a=some (.ins C dx fs))(c:sO X.K C)(n:ir X.K C f)(l:fs.lookup f=some v)
  (h:∀u s',Inv X af σ H s'->RelV v u->Q u s'):wpAny (model X.prog X.w) A (getAttr (.ref a) f b) Q E s:=by
 obtain⟨mA,O,r,_,_,_⟩:=vj I.hok e;obtain⟨u,hu,ru⟩:=oq.J9 (by rw[<-l];exact r f)
 exact J7 I.ou O (c.get f) c.hd n hu (Dr ru) (h u _ (I.tok _) ru)
def qi(I:Inv X af σ H s)(e:H a=some (.ins C dx fs))(c:sO X.K C)(n:ir X.K C f)(hl:fs.length<1000)(ry:RelV y u)
  (h:∀s',Inv X af σ (cY H a (.ins C dx (iu f y fs))) s'->Q () s'):wpAny (model X.prog X.w) A (setAttr (.ref a) f u) Q E s:=by
 obtain⟨mA,O,r,wi,_,ho⟩:=vj I.hok e;have hz:(fs.map (·.1)).length<=sizeLine:=by rw[aN,kZ];lia
 refine J8 I.ou O c.sa c.po n.Tv c.hd wi hz λh' O' sb=>h _ ?_
 have hd:∃o,h'.get? dx=some o:=let ⟨o,_,_,e',_⟩:=O'.ns;⟨o,e'⟩
 refine I.write (by rw[e];exact True.intro) (.inr ho) (λb q hb z=>(sb.2 b hb).trans z) hd ?_
 refine⟨by rw[aM O.ne];exact ho,?_,O.ne,O'.obj,_,O'.ns,λg=>?_,λg hg=>?_⟩
 ·have:=n4 f y fs;lia
 ·rw[nZ];by_cases q:g=f
  ·rw[if_pos q,if_pos q];exact ry
  ·rw[if_neg q,if_neg q];exact r g
 ·by_cases q:g=f
  ·rw[q];exact(nB f y fs).1
  ·refine(nB f y fs).2 g (wi g λz=>hg ?_)
   show(if g=f then some u else mA g)=none
   rw[if_neg q];exact z
def Inv.made(I:Inv X af σ H s):Inv X af σ (cY (cY H s.heap.objs.size (.own (s.heap.objs.size+1))) (s.heap.objs.size+1) (.ins C s.heap.objs.size []))
  {s with heap:=(s.heap.push W.emptyDict).push (W.instObj C s.heap.objs.size)}:=by
 have e1:(s.heap.push W.emptyDict).get? s.heap.objs.size=some W.emptyDict:=bP s.heap rfl;have e2:((s.heap.push W.emptyDict).push (W.instObj C s.heap.objs.size)).get? (s.heap.objs.size+1)=some (W.instObj C s.heap.objs.size):=by
  have:=bP (s.heap.push W.emptyDict) (o:=W.instObj C s.heap.objs.size) rfl
  rwa [eA]at this
 have e3:(s.heap.push W.emptyDict).Ns s.heap.objs.size (λ_=>none):=⟨W.emptyDict,#[],_,e1,rfl,(λe he=>absurd he (by simp)),λ_=>rfl⟩
 have I1:=I.laid (o:=.own (s.heap.objs.size+1)) (t':=s.toks) (λb u q=>aK _ q) (aF _) ⟨_,e1⟩
 refine I1.laid (t':=s.toks) (λb u q=>aK _ q) (js (eA _ _)) ?_
 have ne:s.heap.objs.size≠s.heap.objs.size+1:=by grind
 refine⟨by rw[aM ne,ay],jt _,ne,e2,λ_=>none,(Heap.Ns1.of_empty e3).at λo q=>aK _ q,λ_=>True.intro,λy hy=>absurd rfl hy⟩
def Ka(hb:attributeBase e f env (eval e env)=eval e env)
  (h:wpAny (model prog w) A (eval e env) (λo s₁=>wpAny (model prog w) A (getAttr o f true) Q E s₁) E s):wpAny (model prog w) A (eval (.Attribute e f pos) env) Q E s :=
 Attribute_any_ h (by rw[arm_eval_Attribute,hb])
end
def X9(K:W.Frag)(ta:TE)(f:Str):TE:=λσ H Q=>ta σ H λx H1=>∃a C dx fs v,x=.ref a/\H1 a=some (.ins C dx fs)/\sO K C/\ir K C f/\fs.lookup f=some v/\Q v H1
def Yb(K:W.Frag)(ta tv:TE)(f:Str):TS:=λD σ H=>tv σ H λy H1=>ta σ H1 λx H2=>∃a C dx fs,x=.ref a/\H2 a=some (.ins C dx fs)/\sO K C/\ir K C f/\fs.length<1000 /\
 D.nx σ (cY H2 a (.ins C dx (iu f y fs)))
section
variable {X:Cx} {o e value:Expr} {f:Str} {pos ow qj:Pos} {ta tv:TE}
def OA(he:PE X e ta)(hb:attributeBase e f X.env (eval e X.env)=eval e X.env):PE X (.Attribute e f pos) (X9 X.K ta f):=by
 intro af s σ H Q I h;refine Ka hb (thn (he af s σ H _ I h) λu s1 z9=>?_)
 obtain⟨x,H1,I1,rx,a,C,dx,fs,v,ex,ea,c,n,l,q⟩:=z9;subst ex;obtain rfl:u=Value.ref a:=rx;exact qh I1 ea c n l λu' s2 I2 ru=>⟨v,H1,I2,ru,q⟩
def OB(ha:PE X o ta)(hv:PE X value tv)(hs:swapsWith value (some (.Attribute o f ow)) pos.line X.env=pure false):PS X (.Assign [.Attribute o f ow] value pos) (Yb X.K ta tv f):=by
 intro af s σ H D I h;refine plainObj_wpAny_Assign_Attribute (thn (hv af s σ H _ I h) λu s1 ⟨y,H1,I1,ry,q⟩=>thn (ha af s1 σ H1 _ I1 q) λov s2 z9=>?_) hs
 obtain⟨x,H2,I2,rx,a,C,dx,fs,ex,ea,c,n,l,q2⟩:=z9;subst ex;obtain rfl:ov=Value.ref a:=rx;exact qi I2 ea c n l ry λs3 I3=>⟨σ,_,I3,q2⟩
end
structure c7 (k:Nat) (A:Around):Prop where
 hd:A.handled=none
 dp:A.depth+3*k+5<recursionLimit
 un:A.units+16*k+1200<cLine
def c7.mono(r:c7 k A)(h:j<=k):c7 j A:=⟨r.hd,by have:=r.dp;lia,by have:=r.un;lia⟩
def c7.deeper(r:c7 (k+1) A)(env:Env):c7 k (A.deeper env) :=
 ⟨r.hd,by have:=r.dp;show A.depth+1+3*k+5<_;lia,by have:=r.un;show A.units+3+16*k+1200<_;lia⟩
def Aa{A:Around}:(A.under (.builtin "type.__call__" ⟨.ref C::us,kw⟩)).depth=A.depth+1:=by
 first | rfl | simp[Around.under,Code.weight,Code.isCreation,Code.isGuard,Code.isCaller,Code.frames,Code.isFrame,guardIds]
def Ab{A:Around}:(A.under (.builtin "type.__call__" ⟨.ref C::us,kw⟩)).units=A.units+1:=by
 first | rfl | simp[Around.under,Code.cUnits,Code.frames,Code.isFrame]
def c7.make(r:c7 (k+1) A)(C:Addr)(us:List Value)(kw:List (Str×Value)):c7 k (A.under (.builtin "type.__call__" ⟨.ref C::us,kw⟩)) :=
 ⟨r.hd,by have:=r.dp;rw[Aa];lia,by have:=r.un;rw[Ab];lia⟩
def c7.depth(r:c7 k A):A.depth<recursionLimit:=by have:=r.dp;lia
def OC:TA:=λ_ H Q=>Q [] H
def Tz(ta:TE)(tr:TA):TA:=λσ H Q=>ta σ H λx H1=>tr σ H1 λxs H2=>Q (x::xs) H2
section
variable {X:Cx} {e:Expr} {es:List Expr} {te:TE} {t:TA} {pos:Pos}
def qk:PA X [] OC:=λ_ _ _ _ H Q I h=>Calls.spliced_nil ⟨[],H,I,.nil,h⟩
def g9(ha:PE X e te)(hr:PA X es t)(hs:starEach (e::es) X.env=(false,eval e X.env)::starEach es X.env:=by rfl):PA X (e::es) (Tz te t):=by
 intro pos af s σ H Q I h;rw[hs];refine Calls.spliced_cons (thn (ha af s σ H _ I h) λu s1 ⟨x,H1,I1,r1,q1⟩=>?_)
 exact thn (hr pos af s1 σ H1 _ I1 q1) (by rintro us s2 ⟨xs,H2,I2,r2,q2⟩;exact⟨x::xs,H2,I2,.cons r1 r2,q2⟩)
def Yc(t:TA):TE:=λσ H Q=>t σ H λxs H1=>xs.length<=sizeLine/\∀p,H1 p=none->Q (.ref p) (cY H1 p (.ak xs))
def Yd(t:TA):TE:=λσ H Q=>t σ H λxs H1=>xs.length<=sizeLine/\∀p,H1 p=none->Q (.ref p) (cY H1 p (.lst xs))
def OD{x1}(h:PA X es t):PE X (.Tuple es x1 pos) (Yc t):=by
 intro af s σ H Q I hq;refine wpAny_Tuple_spliced (thn (h pos af s σ H _ I hq) λus s1 ⟨xs,H1,I1,r,z,q⟩=>⟨by rw[<-r.length];exact z,?_⟩)
 have hf:=I1.hok.fresh (aF _);refine⟨.ref s1.heap.objs.size,cY H1 s1.heap.objs.size (.ak xs),I1.laid (λb u e=>aK _ e) (aF _) ?_,rfl,q _ hf⟩
 exact⟨z,us,r,ot.new _ _⟩
def FL(h:PA X es t):PE X (.List es pos) (Yd t):=by
 intro af s σ H Q I hq;refine wpAny_List_spliced (thn (h pos af s σ H _ I hq) λus s1 ⟨xs,H1,I1,r,z,q⟩=>⟨by rw[<-r.length];exact z,?_⟩)
 have hf:=I1.hok.fresh (aF _);refine⟨.ref s1.heap.objs.size,cY H1 s1.heap.objs.size (.lst xs),I1.laid (λb u e=>aK _ e) (aF _) ?_,rfl,q _ hf⟩
 exact⟨z,us,0,r,bP _ rfl⟩
end
abbrev Sp:=List V->Hp->VK->XK->Prop
abbrev C8:=List Env->Hp->Shared->XK->Value->Shared->Prop
structure Env0 (P:Program) (w:World) (K:W.Frag) (mg:Str->Option Value) (base:Heap) (A:Around) (ax:List Env) (s:Shared) (H:Hp):Prop where
 frames:A.frames=some ax
 mod:Mod K mg base
 bs:∀b o,base.get? b=some o->s.heap.get? b=some o/\H b=none
 bsz:base.objs.size<=s.heap.objs.size
 funs:s.heap.FunFrames base ax
 frf:∀b∈fD ax,H b=none
 hok:lH P w H s.heap
 bare:AllBare s.gens
 tabs:p9 K H
def CE(ax:List Env)(P:Program)(w:World)(H:Hp)(s:Shared)(Q:VK)(u:Value)(s':Shared):Prop :=
 ∃v H',s'.os=s.os/\AllBare s'.gens/\Un (fD ax) [] H H' s.heap s'.heap/\lH P w H' s'.heap/\RelV v u/\Q v H'
def CR(CX:C8)(ax:List Env)(P:Program)(w:World)(H:Hp)(s:Shared)(Q:VK)(E:XK)(r:Result)(s':Shared):Prop :=
 match r with
 | .ok (.ret u)=>CE ax P w H s Q u s'
 | .ok _=>False
 | .error e=>CX ax H s E e s'
structure FnOk (P:Program) (w:World) (K:W.Frag) (mg:Str->Option Value) (base:Heap) (CX:C8) (k:Nat) (f:Addr) (fd:FuncData) (ps:List Str) (sp:Sp):Prop where
 len:∀vs H Q E,sp vs H Q E->vs.length=ps.length
 run:∀(A:Around) (ax:List Env) (s:Shared) (H:Hp) (args:Args) (us:List Value) (vs:List V) (Q:VK) (E:XK),c7 k A->Env0 P w K mg base A ax s H->BindsTo s fd args (ps.zip us)->Vals vs us->sp vs H Q E ->
  codeAny (model P w) A (.call (.ref f) args) (CR CX ax P w H s Q E) s
def Env0.make{P:Program}{w:World}{K:W.Frag}{mg:Str->Option Value}{base:Heap}{A:Around}{ax:List Env}{s:Shared}{H:Hp}(e:Env0 P w K mg base A ax s H)(C:Addr)(us:List Value)(kw:List (Str×Value)) :
  Env0 P w K mg base (A.under (.builtin "type.__call__" ⟨.ref C::us,kw⟩)) ax s H:=⟨by first | exact e.frames | (simpa[Around.under,Code.envs,Code.isFrame,pushEnvs]using e.frames),e.mod,e.bs,e.bsz,e.funs,e.frf,e.hok,e.bare,e.tabs⟩
section
variable {X:Cx} {af:List (Addr×Obj)} {σ:St} {H:Hp} {s s':Shared}
def Inv.OE(I:Inv X af σ H s):Env0 X.prog X.w X.K X.mg X.base X.A X.stack s H :=
 ⟨I.ok.frames,I.ok.mod,I.bs,aX I.ok.bsz I.sz,I.stack,I.vd,I.hok,I.bare,I.tabs⟩
def Inv.after(I:Inv X af σ H s)(h:CE X.stack X.prog X.w H s Q u s'):EP X af σ Q u s':=by
 obtain⟨v,H',os,bare,un,hok,r,q⟩:=h;obtain⟨hh,g,d,t,TC⟩:=s';obtain rfl:TC=s.os:=os;exact⟨v,H',I.call un hok bare (λb z=>absurd z (by simp)),r,q⟩
end
def BC(C:Addr)(sp:Sp)(ju:List V)(E:XK)(t:TA):TE:=λσ H Q=>t σ H λvs H1=>∀x dx,H1 x=none->H1 dx=none->dx≠x ->
 sp (.ref x::(vs++ju)) (cY (cY H1 dx (.own x)) x (.ins C dx [])) (λv H2=>v=.aP/\Q (.ref x) H2) E
def vk(CX:C8)(X:Cx)(E:XK):Prop:=∀(af:List (Addr×Obj)) (σ:St) (H:Hp) (s:Shared) (e:Value) (s':Shared),Inv X af σ H s->CX X.stack H s E e s'->X.xe e s'
section
variable {X:Cx} {CX:C8} {k:Nat} {f C:Addr} {fd:FuncData} {ps:List Str} {sp:Sp} {ju:List V} {ds:List Value} {E:XK} {x m:Str} {p pos eM:Pos} {e o:Expr} {es:List Expr} {ta:TE} {t:TA}
def xi{af:List (Addr×Obj)}{σ:St}{H:Hp}{s:Shared}{Q:VK}{us:List Value}{vs:List V}(M:Mk X.K C f)(F:FnOk X.prog X.w X.K X.mg X.base CX k f fd ps sp)(hr:c7 (k+1) X.A)(hb:cK X.K fd ps ds)(hd:Vals ju ds)
  (hx:vk CX X E) (I:Inv X af σ H s) (r:Vals vs us)
  (h:∀x dx,H x=none->H dx=none->dx≠x->sp (.ref x::(vs++ju)) (cY (cY H dx (.own x)) x (.ins C dx [])) (λv H2=>v=.aP/\Q (.ref x) H2) E) :
  wpAny (model X.prog X.w) X.A (call (.ref C) us) (EP X af σ Q) X.xe s:=by
 have hq:=h (s.heap.objs.size+1) s.heap.objs.size (I.hok.fresh (Nat.le_succ _)) (I.hok.fresh (aF _)) (bF (pK _));have I2:=Inv.made (C:=C) I;have r2:Vals (V.ref (s.heap.objs.size+1)::(vs++ju)) (Value.ref (s.heap.objs.size+1)::(us++ds)):=.cons rfl (r.append hd);have hl:(Value.ref (s.heap.objs.size+1)::us++ds).length=ps.length:=by
  have e:=r2.length;rw[F.len _ _ _ _ hq]at e;exact e.symm
 refine wpAny_call (FK I.ou M.makes M.init (nv.mp M.fn) (pT (F.run _ X.stack _ _ ⟨Value.ref (s.heap.objs.size+1)::us,[]⟩ (Value.ref (s.heap.objs.size+1)::(us++ds)) _ _ E (hr.make C us [])
  (I2.OE.make C us []) (hb _ (Value.ref (s.heap.objs.size+1)::us) I2.ou hl) r2 hq) λr s' Ad=>?_))
 cases r with
 | error e=>exact hx af σ _ _ e s' I2 Ad
 | ok fl =>
  cases fl with
  | ret u =>
   obtain⟨v,H',I3,rv,ev,q3⟩:=I2.after Ad;subst ev;exact⟨rv,⟨V.ref (s.heap.objs.size+1),H',I3,rfl,q3⟩⟩
  | next=>exact False.elim Ad
  | brk=>exact False.elim Ad
  | cont=>exact False.elim Ad
def Kb(M:Mk X.K C f)(F:FnOk X.prog X.w X.K X.mg X.base CX k f fd ps sp)(hr:c7 (k+1) X.A)(hg:Gl X x)(hm:X.mg x=some (.ref C))(hb:cK X.K fd ps ds)(hd:Vals ju ds)(hx:vk CX X E)
  (ha:PA X (e::es) t) (Ds:(x==("__debug__":Str))=false:=by decide) (he:starEach (e::es) X.env=(false,eval e X.env)::starEach es X.env:=by rfl) (p8:(backTo pos (starEach es X.env)).any (·.1)=false:=by rfl) :
  PE X (.Call (.Name x p) (e::es) [] pos) (BC C sp ju E t):=by
 intro af s σ H Q I h;refine mR (ld_glob I hg hm ?_ Ds);refine W.callWith_K I.ok.mod.kin M.kp (thn (ha pos af s σ H _ I h) λus s1 ⟨vs,H1,I1,r,q⟩=>⟨I1.ou,?_⟩) he p8
 exact xi M F hr hb hd hx I1 r q
end
theorem sW{kindOf:Str->Option NameKind}:∀{xj:List (Str×Value)} {m:Str->Option Value},(∀v,(x,v)∉xj)->bindL kindOf xj m x=m x
 | [],_,_=>rfl
 | (n,v)::r,m,h=>by
  unfold bindL;rw[sW λw hw=>h w (cW _ hw)]
  split
  ·grind
  ·rfl
theorem sX{kindOf:Str->Option NameKind}:∀{xj:List (Str×Value)} {m:Str->Option Value},(∀v,(x,v)∉xj)->bindC kindOf xj m x=m x
 | [],_,_=>rfl
 | (n,v)::r,m,h=>by
  unfold bindC;rw[sX λw hw=>h w (cW _ hw)]
  split
  ·rfl
  ·grind
theorem sY{kindOf:Str->Option NameKind}:∀{P:List Str} {vs:List Value} {i:Nat} {m:Str->Option Value},P.Nodup->P[i]?=some x->vs[i]?=some v->kindOf x=some .local ->
  bindL kindOf (P.zip vs) m x=some v
 | [],_,_,_,_,h,_,_=>by simp at h
 | _::_,[],_,_,_,_,h,_=>by simp at h
 | p::P,w::vs,0,m,nd,h1,h2,hk=>by
  simp at h1 h2;subst h1;subst h2;show bindL kindOf ((p,w)::P.zip vs) m p=_;unfold bindL;rw[sW λv hv=>(mY.mp nd).1 (zD hv).1,if_pos hk]
  simp
 | p::P,w::vs,i+1,m,nd,h1,h2,hk=>by
  unfold bindL;exact sY (mY.mp nd).2 (by simpa using h1) (by grind) hk
theorem sZ{kindOf:Str->Option NameKind}:∀{P:List Str} {vs:List Value} {i:Nat} {m:Str->Option Value},P.Nodup->P[i]?=some x->vs[i]?=some v->kindOf x≠some .local ->
  bindC kindOf (P.zip vs) m x=some v
 | [],_,_,_,_,h,_,_=>by simp at h
 | _::_,[],_,_,_,_,h,_=>by simp at h
 | p::P,w::vs,0,m,nd,h1,h2,hk=>by
  simp at h1 h2;subst h1;subst h2;show bindC kindOf ((p,w)::P.zip vs) m p=_;unfold bindC;rw[sX λv hv=>(mY.mp nd).1 (zD hv).1,if_neg hk]
  simp
 | p::P,w::vs,i+1,m,nd,h1,h2,hk=>by
  unfold bindC;exact sZ (mY.mp nd).2 (by simpa using h1) (by grind) hk
noncomputable def start(N:List Str)(vs:List V):St:=vs.map some++List.replicate (N.length-vs.length) none
noncomputable def eY(CX:C8)(P:Program)(w:World)(K:W.Frag)(mg:Str->Option Value)(base:Heap)(N:List Str)(qual:Str)(scope:Scope)(f:Addr)(cd:Value)(A:Around)(ax:List Env)(s:Shared)(H:Hp)(E:XK):Cx where
 prog:=P
 w:=w
 K:=K
 mg:=mg
 base:=base
 A:=A.deeper (envOfC qual scope s.heap.objs.size f cd)
 N:=N
 s₀:=s
 aa:=H
 env:=envOfC qual scope s.heap.objs.size f cd
 ax:=ax
 stack:=envOfC qual scope s.heap.objs.size f cd::ax
 ex:=[]
 calm:=true
 fn:=λ_=>true
 pn:=[]
 xe:=λe s'=>wpAny (model P w) (A.deeper (envOfC qual scope s.heap.objs.size f cd)) (leaving (envOfC qual scope s.heap.objs.size f cd) e) (λ_ TF=>CX ax H s E e TF) (λe' TF=>CX ax H s E e' TF) s'
def xk{sc:Scope}(h:sc.names.lookup x=some .cell):∃c,(cellsFrom n sc.names []).lookup x=some c:=by
 have q:=W.cellsFrom_some sc.names n [] (.inl h);exact Option.isSome_iff_exists.mp q
def Dt{CX:C8}{P:Program}{w:World}{K:W.Frag}{mg:Str->Option Value}{base:Heap}{N ps:List Str}{qual:Str}{scope:Scope}{f:Addr}{cd:Value}{A:Around}{ax:List Env}{s s1:Shared}{H:Hp}{E:XK}{us:List Value}{vs:List V}
  (S:cL N ps scope) (hd:A.handled=none) (e0:Env0 P w K mg base A ax s H) (hl:vs.length=ps.length) (r:Vals vs us)
  (x:InCallC s s.heap.objs.size (bindL (envOfC qual scope s.heap.objs.size f cd).kindOf (ps.zip us) λ_=>none) (cellsFrom (s.heap.objs.size+1) scope.names []) (bindC (envOfC qual scope s.heap.objs.size f cd).kindOf (ps.zip us) λ_=>none) s1) :
  Inv (eY CX P w K mg base N qual scope f cd A ax s H E) [] (start N vs) H s1:=by
 have p8:ps.length<=N.length:=by have:=gA List.length S.pre;rw[mW]at this;lia
 obtain⟨h1,tk,rfl,hk⟩:=x.done;have noA:∀b:Addr,b∉(eY CX P w K mg base N qual scope f cd A ax s H E).ex:=λb z=>absurd (show b∈([]:List Addr)from z) (by simp)
 refine⟨⟨e0.mod,S.kind,rfl,rfl,aF _,λy z c h1 h2=>?_,λy hy=>?_,λy c _ h=>?_,λ_=>hd,Around.frames_deeper e0.frames,.inr ⟨rfl,rfl⟩,λb z=>absurd z (noA b),e0.bs,e0.bsz,λb _ _=>noA b,λb z=>absurd z (noA b),e0.funs,e0.frf,e0.tabs⟩,
  rfl,e0.bare,Un.kept hk,⟨_,x.toInCall.ns,λi y v h1 h2 h3=>?_⟩,λy c h=>⟨_,x.cell y c h⟩,e0.hok.fresh (aF _),λy c h=>?_,λp hp=>absurd (show p∈([]:List (Addr×Obj))from hp) (by simp),e0.hok.kept hk,?_⟩
 ·exact name_of_addr x.apart (fy h1) (fy h2)
 ·have hy:=hy;rcases hy with hy | hy
  ·exact xk hy
  ·exact absurd rfl (S.nofree _ (fy hy))
 ·exact u0 (x.above y c (fy h))
 ·have hi:i<vs.length:=by
   unfold start at h2;by_cases hi:i<vs.length
   ·exact hi
   ·grind
  have ha:vs[i]?=some v:=by
   unfold start at h2;rw[fw (by grind),bK]at h2
   cases e:vs[i]? with
   | none=>rw[e]at h2;cases h2
   | some a=>rw[e]at h2;cases h2;rfl
  obtain⟨u,hu,rv⟩:=r.get ha;have hp:ps[i]?=some y:=by
   rw[<-S.pre,List.getElem?_take_of_lt (by lia)];exact h1
  have ndP:ps.Nodup:=by rw[<-S.pre];exact S.nd.sublist (List.take_sublist _ _)
  refine⟨u,rv,?_⟩;rcases S.par y (cX hp)with k | k
  ·exact .inl ⟨k,sY ndP hp hu k⟩
  ·obtain⟨c,e⟩:=xk k;refine .inr ⟨.inl k,c,e,?_⟩;have q:=x.cell y c e;rw[sZ ndP hp hu (by show scope.names.lookup y≠_;rw[k];decide)]at q
   exact q
 ·exact e0.hok.fresh (u0 (x.above y c (fy h)))
 ·unfold start;show _=N.length;rw[bR,aN,List.length_replicate]
  lia
def MI{CX:C8}{P:Program}{w:World}{K:W.Frag}{mg:Str->Option Value}{base:Heap}{k:Nat}{f:Addr}{name qual:Str}{pq9:Arguments}{body:List Stmt}{scope:Scope}{dV kV doc pm cU ct oc:Value}{an od:Option Addr}
  {pX:Array (Option Value)} {N ps:List Str} {sp:Sp} (lk:K.lookup f=some ⟨oc,od,.func (W.fnOf name qual pq9 body scope dV kV doc pm an cU ct),pX⟩) (yO:W.codeIn K cU qual=true) (S:cL N ps scope)
  (len:∀vs H Q E,sp vs H Q E->vs.length=ps.length)
  (hbody:∀(A:Around) (ax:List Env) (s:Shared) (H:Hp) (vs:List V) (Q:VK) (E:XK),c7 k (A.deeper (envOfC qual scope s.heap.objs.size f cU))->sp vs H Q E ->
   ∃t,PSs (eY CX P w K mg base N qual scope f cU A ax s H E) body t/\t {nx:=λ_ H'=>Q .aP H',rt:=Q} (start N vs) H) :
  FnOk P w K mg base CX (k+1) f (W.fnOf name qual pq9 body scope dV kV doc pm an cU ct) ps sp:=by
 refine⟨len,λA ax s H args us vs Q E hr e0 hb r MJ=>?_⟩
 have hl:=len _ _ _ _ MJ;have KX:=e0.mod.kin.keeps λb o e=>(e0.bs b o e).1
 have lim:=e0.mod.nolimit.keeps λb o e=>(e0.bs b o e).1
 have TJ:∀y∈ps.zip us,scope.names.lookup y.1=some .local\/(scope.names.lookup y.1=some .cell/\((cellsFrom (s.heap.objs.size+1) scope.names []).lookup y.1).isSome=true):=by
  rintro⟨n,v⟩ hy
  rcases S.par n (zD hy).1 with q | q
  ·grind
  ·exact .inr ⟨q,W.cellsFrom_some _ _ _ (.inl q)⟩
 refine codeAny_call_function hr.depth (KX _ _ lk) rfl S.co S.gen rfl (W.codeRec_of KX yO) (hb _ _ _ _ ?_);refine wpAny_newFunctionEnv_cells S.kind TJ λenv he s1 x=>?_
 subst he;refine⟨lim.keeps x.toInCall.keep,codeAny_func ?_⟩;obtain⟨t,ht,hq⟩:=hbody A ax s H vs Q E (hr.deeper _) MJ;have I:Inv (eY CX P w K mg base N qual scope f cU A ax s H E) [] (start N vs) H s1:=Dt S hr.hd e0 hl r x;refine ny (ht [] s1 (start N vs) H _ I hq) (λfl s' hs=>?_) λe s' hs=>hs
 have gW:∀{bC:St} {H':Hp} {v:V} {u:Value},Inv (eY CX P w K mg base N qual scope f cU A ax s H E) [] bC H' s'->RelV v u->Q v H'->CE ax P w H s Q u s' :=
  λ{bC H' v u} J rv q=>⟨v,H',J.os,J.bare,J.base,J.hok,rv,q⟩
 cases fl with
 | ret u =>
  obtain⟨v,bC,H',J,rv,q⟩:=hs;exact gW J rv q
 | next =>
  obtain⟨bC,H',J,q⟩:=hs;exact gW (v:=V.aP) J rfl q
 | brk =>
  obtain⟨_,_,_,q⟩:=hs;exact False.elim q
 | cont =>
  obtain⟨_,_,_,q⟩:=hs;exact False.elim q
section
variable {X:Cx} {x:Str} {p pos:Pos} {e:Expr} {es:List Expr} {t:TA} {id T:String} {r:List V->Hp->VK->Prop}
def Ye(r:List V->Hp->VK->Prop)(t:TA):TE:=λσ H Q=>t σ H λvs H1=>r vs H1 Q
def qm(hc:kz X (.builtin id) r)(hg:Gl X x)(hm:X.mg x=none)(hv:bootBuiltins x=some (.builtin id))(ha:PA X (e::es) t)(hn:x≠"__name__":=by decide)(Ds:(x==("__debug__":Str))=false:=by decide)
  (he:starEach (e::es) X.env=(false,eval e X.env)::starEach es X.env:=by rfl) (p8:(backTo pos (starEach es X.env)).any (·.1)=false:=by rfl):PE X (.Call (.Name x p) (e::es) [] pos) (Ye r t):=by
 intro af s σ H Q I h;refine mR (ld_blt I hg hm hv ?_ hn Ds);exact PyProof.Rows.callWith_builtin1 (thn (ha pos af s σ H _ I h) (by rintro us s1 ⟨vs,H1,I1,r1,q1⟩;exact hc af s1 σ H1 vs us Q I1 r1 q1)) he p8
def nC(hc:kz X (.type T) r)(hg:Gl X x)(hm:X.mg x=none)(hv:bootBuiltins x=some (.type T))(ha:PA X (e::es) t)(hn:x≠"__name__":=by decide)(Ds:(x==("__debug__":Str))=false:=by decide)
  (he:starEach (e::es) X.env=(false,eval e X.env)::starEach es X.env:=by rfl) (p8:(backTo pos (starEach es X.env)).any (·.1)=false:=by rfl):PE X (.Call (.Name x p) (e::es) [] pos) (Ye r t):=by
 intro af s σ H Q I h;refine mR (ld_blt I hg hm hv ?_ hn Ds);exact kG (thn (ha pos af s σ H _ I h) (by rintro us s1 ⟨vs,H1,I1,r1,q1⟩;exact hc af s1 σ H1 vs us Q I1 r1 q1)) he p8
end
end L2
namespace HT
open PySem PyProof.Rows
section
variable {prog:Program} {w:World} {A:Around} {E:Value->Shared->Prop} {s:Shared}
def Kc(ht:IsTup s.heap t vs.toArray)(hb:IsTup s.heap b ws.toArray)(hv:vs≠[])
  (h1:ws=[]->Q (.ref t) s) (h2:ws≠[]->Q (.ref s.heap.objs.size) {s with heap:=s.heap.push {cls:=.type "tuple",data:=.seq (vs++ws).toArray}})
  (hsz:vs.length+ws.length<=sizeLine):wpAny (model prog w) A (binaryOp .Add (.ref t) (.ref b)) Q E s:=by
 obtain⟨⟨cls,dd,data,sl⟩,ho,hc,n,hd⟩:=id ht;obtain⟨⟨Yg,WL,TK,Sd⟩,OF,OG,n2,hd2⟩:=id hb;simp only at hc hd OG hd2;subst hc hd OG hd2;have e:vs.toArray++ws.toArray=(vs++ws).toArray:=by simp
 by_cases hw:ws=[]
 ·exact concat_meets ⟨_,ho,rfl⟩ ⟨_,OF,rfl⟩ zu seq_tuple_add zd y0 (yZ _ _)
   (tuple_addW1 t b vs.toArray ws.toArray n n2 dd WL sl Sd (by grind) (by simp[hw])) ⟨ho,OF,h1 hw⟩
 ·refine concat_meets ⟨_,ho,rfl⟩ ⟨_,OF,rfl⟩ zu seq_tuple_add zd y0 (yZ _ _)
   (tuple_addW2 t b vs.toArray ws.toArray n n2 dd WL sl Sd (by grind) (by grind) (by grind)) ⟨ho,OF,?_⟩
  rw[e];exact h2 hw
noncomputable def d6(n d:Nat):Option Int->Nat
 | none=>d
 | some v=>if v<0 then(v+(n:Int)).toNat else min v.toNat n
def qo(n d:Nat):d6 n d none=d:=rfl
def lO(n d k:Nat):d6 n d (some (k:Int))=min k n:=by
 show(if(k:Int)<0 then((k:Int)+(n:Int)).toNat else min (k:Int).toNat n)=min k n
 rw[if_neg (by lia),kO]
def OH(n d:Nat)(hd:d<=n)(o:Option Int):d6 n d o<=n:=by
 cases o with
 | none=>exact hd
 | some v =>
  show(if v<0 then(v+(n:Int)).toNat else min v.toNat n)<=n
  by_cases hv:v<0
  ·grind
  ·grind
def BD(v:Int)(n d:Nat):(if v<0 then max (v+(n:Int)) 0 else min v (n:Int))=((d6 n d (some v):Nat):Int):=by
 show(if v<0 then max (v+(n:Int)) 0 else min v (n:Int))=(((if v<0 then(v+(n:Int)).toNat else min v.toNat n):Nat):Int)
 by_cases hv:v<0
 ·grind
 ·grind
def Ae(lo hi:Option Int)(n:Nat):Builtin.Slice.sliceAdjust lo hi 1 (n:Int)=(((d6 n 0 lo:Nat):Int),((d6 n n hi:Nat):Int)):=by
 have h1:¬(1<0):=by lia
 unfold Builtin.Slice.sliceAdjust;simp only[h1,dS];refine Prod.ext ?_ ?_
 ·cases lo with
  | none=>rfl
  | some v=>exact BD v n 0
 ·cases hi with
  | none=>rfl
  | some v=>exact BD v n n
def Af(i j:Nat):Builtin.Slice.slicePlaces (i:Int) (j:Int) 1=j-i:=by
 unfold Builtin.Slice.slicePlaces;have h1:1>0:=by lia
 simp only[h1,eO,Int.ediv_one];split<;>lia
def qp(p:IsPart v o)(h:Q o s):wpAny (model prog w) A (Builtin.Slice.slicePartIndex v) Q E s:=by
 cases p with
 | none=>exact slicePart_none h
 | int i t=>exact slicePart_int h
def iC{vl vu:Value}{lo hi:Option Int}{n:Nat}{Q:Int×Int×Nat->Shared->Prop}(hs:s.heap.IsSliceOf sl vl vu .none)(pl:IsPart vl lo)(pu:IsPart vu hi)
  (h:Q (((d6 n 0 lo:Nat):Int),1,d6 n n hi-d6 n 0 lo) s):wpAny (model prog w) A (Builtin.Slice.sliceApplied (.ref sl) (pure (n:Int))) Q E s:=by
 obtain⟨os,Jn,WM,TL⟩:=id hs;unfold Builtin.Slice.sliceApplied Builtin.Slice.sliceFields;refine ag (ag (cJ Jn TL rfl (ag (cJ Jn TL rfl (ag (cJ Jn TL rfl (ar ?_)))))));refine ag (slicePart_none ?_);rw[if_neg (by decide)]
 refine ag (qp pl (ag (qp pu (ag (ar ?_)))));show wpAny _ _ (match Builtin.Slice.sliceAdjust lo hi 1 (n:Int)with | (lo,hi)=>pure (lo,(1:Int),Builtin.Slice.slicePlaces lo hi 1)) _ _ s
 rw[Ae lo hi n];show wpAny _ _ (pure (((d6 n 0 lo:Nat):Int),(1:Int),Builtin.Slice.slicePlaces ((d6 n 0 lo:Nat):Int) ((d6 n n hi:Nat):Int) 1)) _ _ s;rw[Af];exact ar h
def FN(xs:Array Value)(i k:Nat):((List.range k).filterMap fun(m:Nat)=>xs[((i:Int)+(m:Int)*1).toNat]?).toArray=((xs.toList.drop i).take k).toArray:=by
 have e:(fun(m:Nat)=>xs[(i+(m:Int)*1).toNat]?)=λm=>xs[i+m]?:=by
  grind
 rw[e];have:=pick_run xs i k;rw[List.filterMap_map]at this;have e2:((λx=>xs[x]?) ∘ λx=>i+x)=λm=>xs[i+m]?:=rfl
 rw[e2]at this;rw[this]
def lP{items:Array Value}{vl vu:Value}{lo hi:Option Int}{Q:Value->Shared->Prop}(ht:IsTup s.heap t items)(hs:s.heap.IsSliceOf sl vl vu .none)(pl:IsPart vl lo)(pu:IsPart vu hi)
  (hw:¬(d6 items.size 0 lo=0/\d6 items.size items.size hi=items.size))
  (h:Q (.ref s.heap.objs.size) {s with heap:=s.heap.push {cls:=.type "tuple",data:=.seq ((items.toList.drop (d6 items.size 0 lo)).take (d6 items.size items.size hi-d6 items.size 0 lo)).toArray}})
  (hsz:items.size<=sizeLine):wpAny (model prog w) A (getItem (.ref t) (.ref sl)) Q E s:=by
 have BE:sizeOk (.seq ((items.toList.drop (d6 items.size 0 lo)).take (d6 items.size items.size hi-d6 items.size 0 lo)).toArray):=by
  show((items.toList.drop (d6 items.size 0 lo)).take (d6 items.size items.size hi-d6 items.size 0 lo)).toArray.size<=sizeLine;rw[cE,mW,zt,pG]
  lia
 have hj:d6 items.size items.size hi<=items.size:=OH _ _ (aF _) hi;obtain⟨os,Jn,WM,TL⟩:=id hs;have hTs:s.TypeIs (.ref sl) "slice":=⟨os,Jn,WM⟩;unfold getItem
 try with_reducible refine eE ?_
 first | refine ag (ar ?_) | skip
 refine ag (wpAny_sequenceKey ht.typeIs (by decide) ?_)
 refine ag (fS ht.typeIs mN
  (gw mN ht.typeIs entry_tuple_getitem ?_ (args_tuple_getitem _ _)))
 show wpAny _ _ (Builtin.Tuple.tupleItemsOf (.ref t) >>= _) _ _ s;refine ag (tupleItemsOf_ ht ?_);refine ag (nj hTs ?_);rw[if_pos (by decide)]
 refine ag (iC hs pl pu ?_);have hno:¬((((d6 items.size 0 lo:Nat):Int)==0&&(1:Int)==1&&(d6 items.size items.size hi-d6 items.size 0 lo)==items.size)=true):=by
  grind
 show wpAny _ _ (if(((d6 items.size 0 lo:Nat):Int)==0&&(1:Int)==1&&(d6 items.size items.size hi-d6 items.size 0 lo)==items.size)=true then _ else _) _ _ s
 rw[if_neg hno,FN]
 first
  | exact ag (m:=Builtin.Tuple.tupleExact _) (kM (ar ⟨_,rfl,ar h⟩) BE)
  | exact ag (m:=Builtin.Tuple.tupleExact _) (kM (ag (ar (ar ⟨_,rfl,ar h⟩))) BE)
  | exact ag (ag (m:=Builtin.Tuple.tupleExact _) (kM (ar (ar ⟨_,rfl,ar h⟩)) BE))
  | exact ag (ag (m:=Builtin.Tuple.tupleExact _) (kM (ar ⟨_,rfl,ar h⟩) BE))
end
end HT
namespace L2
open PySem PySem.Spec PyProof.Rows
abbrev TO:=St->Hp->(Option Int->Hp->Prop)->Prop
def PO(X:Cx)(e:Option Expr)(t:TO):Prop :=
 ∀(af:List (Addr×Obj)) (s:Shared) (σ:St) (H:Hp) (Q:Option Int->Hp->Prop),Inv X af σ H s->t σ H Q ->
  wpAny (model X.prog X.w) X.A (evalPart e X.env) (λu s'=>∃o H',Inv X af σ H' s'/\IsPart u o/\Q o H') X.xe s
def Ke:TO:=λ_ H Q=>Q none H
def TM(t:TE):TO:=λσ H Q=>t σ H λx H1=>∃i,x=.int i/\Q (some i) H1
def Ag:∀{us:List Value},Vals (ns.map V.int) us->IntsAre us ns:=by
 induction ns with
 | nil=>intro us r;rw[dQ]at r;cases r;exact .nil
 | cons n ns ih =>
  intro us r;rw[aO]at r;cases r with
  | cons r1 r2 =>
   obtain⟨t,e⟩:=r1;subst e;exact .cons n t (ih r2)
section
variable {X:Cx} {e:Expr} {te:TE} {lo hi:Option Expr} {tl th:TO} {pos p2:Pos}
def Kf:PO X none Ke:=by
 intro af s σ H Q I h;rw[evalPart_none];exact ar ⟨none,H,I,.none,h⟩
def Kg(h:PE X e te):PO X (some e) (TM te):=by
 intro af s σ H Q I hw;rw[evalPart_some];refine thn (h af s σ H _ I hw) λu s1 ⟨x,H1,I1,r1,q1⟩=>?_
 obtain⟨i,rfl,q⟩:=q1;obtain⟨t,rfl⟩:=r1;exact⟨some i,H1,I1,.int i t,q⟩
def WN(X:Cx)(r:V->Option Int->Option Int->Hp->VK->Prop):Prop :=
 ∀(af:List (Addr×Obj)) (s:Shared) (σ:St) (H:Hp) (x:V) (v vl vu:Value) (lo hi:Option Int) (sl:Addr) (Q:VK),Inv X af σ H s->RelV x v->s.heap.IsSliceOf sl vl vu .none->IsPart vl lo->IsPart vu hi->r x lo hi H Q ->
  ∃T id,typeLookup (.type T) "__getitem__"=pure (some (.builtin id))/\s.TypeIs v T/\wpAny (model X.prog X.w) X.A (getItem v (.ref sl)) (EP X af σ Q) X.xe s
def tSl(r:V->Option Int->Option Int->Hp->VK->Prop)(te:TE)(tl th:TO):TE:=λσ H Q=>te σ H λx H1=>tl σ H1 λl H2=>th σ H2 λu H3=>r x l u H3 Q
def FO{r:V->Option Int->Option Int->Hp->VK->Prop}(hr:WN X r)(he:PE X e te)(hl:PO X lo tl)(hu:PO X hi th):PE X (.Subscript e (.Slice lo hi none p2) pos) (tSl r te tl th):=by
 intro af s σ H Q I h;refine Subscript_ (thn (he af s σ H _ I h) λv s1 ⟨x,H1,I1,r1,q1⟩=>?_)
 refine wpAny_Slice (thn (hl af s1 σ H1 _ I1 q1) λvl s2 ⟨l,H2,I2,pl,q2⟩=>thn (hu af s2 σ H2 _ I2 q2) λvu s3 ⟨u,H3,I3,pu,q3⟩=>?_)
 rw[evalPart_none];refine ar ?_;have I4:Inv X af σ H3 {s3 with heap:=s3.heap.push {cls:=.type "slice",data:=.fields #[vl,vu,.none]}}:=I3.kept λb ob q=>aK _ q
 obtain⟨T,id,hT,ht,hg⟩:=hr af {s3 with heap:=s3.heap.push {cls:=.type "slice",data:=.fields #[vl,vu,.none]}} σ H3 x v vl vu l u s3.heap.objs.size Q I4 r1 (Heap.IsSliceOf.new ..) pl pu q3
 show wpAny (model X.prog X.w) X.A (subscriptTail e (.Slice lo hi none p2) v (.ref s3.heap.objs.size)) (EP X af σ Q) X.xe {s3 with heap:=s3.heap.push {cls:=.type "slice",data:=.fields #[vl,vu,.none]}}
 exact nz ht hT hg (by with_unfolding_all rfl)
def xl(xs:List V)(lo hi:Option Int):List V:=(xs.drop (HT.d6 xs.length 0 lo)).take (HT.d6 xs.length xs.length hi-HT.d6 xs.length 0 lo)
def n6(xs:List V)(lo hi:Option Int):(xl xs lo hi).length<=xs.length:=by
 unfold xl;rw[mW,zt]
 lia
def Yh(K:W.Frag):V->Option Int->Option Int->Hp->VK->Prop:=λx lo hi H Q=>∃a xs,x=.ref a/\gZ K H a xs /\
 ¬(HT.d6 xs.length 0 lo=0/\HT.d6 xs.length xs.length hi=xs.length)/\∀p,H p=none->Q (.ref p) (cY H p (.ak (xl xs lo hi)))
def OI:WN X (Yh X.K):=by
 intro af s σ H x v vl vu lo hi sl Q I rx hs pl pu h;obtain⟨a,xs,rfl,hx,hw,q⟩:=h;cases rx;obtain⟨au,r,ht,hz⟩:=I.tuple hx;have dX:au.toArray.size=xs.length:=by rw[cE];exact r.length.symm
 refine⟨"tuple",_,mN.lookup,ht.typeIs,?_⟩;refine HT.lP ht hs pl pu (by grind) ?_ (by grind)
 rw[dX];refine⟨.ref s.heap.objs.size,_,I.laid (λb ob q=>aK _ q) (aF _) ?_,rfl,q _ (I.hok.fresh (aF _))⟩
 exact⟨aX (n6 xs lo hi) hz,_,(r.drop (HT.d6 xs.length 0 lo)).take (HT.d6 xs.length xs.length hi-HT.d6 xs.length 0 lo),ot.new _ _⟩
def TN(K:W.Frag):R2:=λx y H Q=>∃a b xs ys,x=.ref a/\y=.ref b/\gZ K H a xs/\gZ K H b ys/\xs≠[]/\xs.length+ys.length<=sizeLine /\
 (ys=[]->Q (.ref a) H)/\(ys≠[]->∀p,H p=none->Q (.ref p) (cY H p (.ak (xs++ys))))
def Vals.vm(r:Vals xs us):us=[]↔xs=[]:=by
 cases r with
 | nil=>simp
 | cons _ _=>simp
def Kh:OpR X (binaryOp .Add) (TN X.K):=by
 intro af s σ H x y v u Q I rx ry h;obtain⟨a,b,xs,ys,rfl,rfl,ha,hb,hx,hz,q1,q2⟩:=h;cases rx;cases ry;obtain⟨au,r1,p1,_⟩:=I.tuple ha;obtain⟨eZ,r2,p2,_⟩:=I.tuple hb;refine HT.Kc p1 p2 (λz=>hx (r1.vm.mp z)) (λz=>⟨.ref a,H,I,rfl,q1 (r2.vm.mp z)⟩) (λz=>?_) (by rw[<-r1.length,<-r2.length];exact hz)
 refine⟨.ref s.heap.objs.size,_,I.laid (λb ob q=>aK _ q) (aF _) ?_,rfl,q2 (λw=>z (r2.vm.mpr w)) _ (I.hok.fresh (aF _))⟩
 exact⟨by grind,_,r1.append r2,ot.new _ _⟩
end
noncomputable def BF(n:Nat)(i:Int):Option Nat:=if 0<=i then(if i<n then some i.toNat else none)else if -(n:Int)<=i then some (i+n).toNat else none
def rX{α:Type}(xs:List α)(i:Int):Option α:=(BF xs.length i).bind λj=>xs[j]?
def BG(h:BF n i=some j):seqIndex? i n=some j/\j<n /\ -(n:Int)<=i/\i<n:=by
 unfold BF at h;by_cases h0:0<=i
 ·rw[if_pos h0]at h;by_cases h1:i<n
  ·rw[if_pos h1]at h;have e:=bE h;exact⟨by rw[seqIndex_of h0 h1,e],by lia,by lia,h1⟩
  ·grind
 ·rw[if_neg h0]at h;by_cases h1:-n<=i
  ·rw[if_pos h1]at h;have e:=bE h;exact⟨by rw[seqIndex_neg (by lia) h1,e],by lia,h1,by lia⟩
  ·grind
def vo{α:Type}{xs:List α}{i:Int}{v:α}(h:rX xs i=some v):∃j,seqIndex? i xs.length=some j/\xs[j]?=some v/\j<xs.length /\ -(xs.length:Int)<=i/\i<xs.length:=by
 unfold rX at h;cases e:BF xs.length i with
 | none=>rw[e]at h;cases h
 | some j =>
  rw[e]at h;obtain⟨h1,h2,h3,h4⟩:=BG e;exact⟨j,h1,h,h2,h3,h4⟩
def atI_nat{α:Type}{xs:List α}{j:Nat}{v:α}(h:xs[j]?=some v):rX xs (j:Int)=some v:=by
 have hj:=(de.mp h).1;have e:BF xs.length j=some j:=by
  unfold BF;rw[if_pos (by lia),if_pos (by lia)];simp
 unfold rX;rw[e];exact h
def lQ(b:Expr):Prop:=∀o i,subscripted b false o i=operate [o,i] (getItem o i)
def Se(X:Cx)(r:R2):Prop :=
 ∀(value slice:Expr) (af:List (Addr×Obj)) (s:Shared) (σ:St) (H:Hp) (x y:V) (v u:Value) (Q:VK),Inv X af σ H s->RelV x v->RelV y u->r x y H Q ->
  subscripted slice false v u=operate [v,u] (getItem v u)->wpAny (model X.prog X.w) X.A (subscriptTail value slice v u) (EP X af σ Q) X.xe s
def MtR(X:Cx)(id:String)(r:V->List V->Hp->VK->Prop):Prop :=
 ∀(af:List (Addr×Obj)) (s:Shared) (σ:St) (H:Hp) (x:V) (xs:List V) (v:Value) (us:List Value) (Q:VK),Inv X af σ H s->RelV x v->Vals xs us->r x xs H Q ->
  wpAny (model X.prog X.w) X.A (call (.builtin id) (v::us)) (EP X af σ Q) X.xe s
section
variable {X:Cx} {a b:Expr} {ta tb:TE} {pos:Pos}
def FP(hr:Se X r)(ha:PE X a ta)(hb:PE X b tb)(hs:lQ b):PE X (.Subscript a b pos) (Th r ta tb):=by
 intro af s σ H Q I h;exact Subscript_ (Om ha hb I h λv u s2 x y H2 I2 rx ry q=>hr a b af s2 σ H2 x y v u Q I2 rx ry q (hs _ _))
def Yi(K:W.Frag):R2:=λx y H Q=>∃p xs i v,x=.ref p/\y=.int i/\vf K H p xs/\rX xs i=some v/\Q v H
def Yj(K:W.Frag):R2:=λx y H Q=>∃p xs i v,x=.ref p/\y=.int i/\gZ K H p xs/\rX xs i=some v/\Q v H
def Yk:R2:=λx y H Q=>∃z i c,x=.str z/\y=.int i/\z.length<=sizeLine/\rX z.cps.toList i=some c/\Q (.str ⟨#[c]⟩) H
def Ki:Se X (Yi X.K):=by
 intro value slice af s σ H x y v u Q I rx ry h hs;obtain⟨p,xs,i,z,rfl,rfl,hq,he,q⟩:=h;cases rx;obtain⟨t,rfl⟩:=ry;obtain⟨au,r,pl,hz⟩:=I.list hq;obtain⟨j,h1,h2,h3,h4,h5⟩:=vo he;obtain⟨w,ew,Kj⟩:=r.get h2;have hl:=r.length;have hn:=lj;have gW:EP X af σ Q w s:=⟨z,H,I,Kj,q⟩;by_cases h0:0<=i
 ·have hj:i.toNat=j:=by
   rw[seqIndex_of h0 h5]at h1;exact bE h1
  exact item_listR pl.isList h0 (by lia) (by grind) gW hs
 ·have hj:(i+(au.toArray.size:Int)).toNat=j:=by
   rw[seqIndex_neg (by lia) h4]at h1
   rw[cE,<-hl];exact bE h1
  exact subscriptTail_builtinR pl.isList.typeIs slot_list_getitem.lookup
   (wpAny_getItem_list_neg pl.isList (by lia) (by grind) (by lia) (by grind) ⟨rfl,gW⟩) hs
def OJ:Se X (Yj X.K):=by
 intro value slice af s σ H x y v u Q I rx ry h hs;obtain⟨p,xs,i,z,rfl,rfl,hq,he,q⟩:=h;cases rx;obtain⟨t,rfl⟩:=ry;obtain⟨au,r,pl,hz⟩:=I.tuple hq;obtain⟨j,h1,h2,h3,h4,h5⟩:=vo he;obtain⟨w,ew,Kj⟩:=r.get h2;have hl:=r.length;have hn:=lj;have gW:EP X af σ Q w s:=⟨z,H,I,Kj,q⟩;exact subscriptTail_builtinR pl.typeIs slot_tuple_getitem.lookup
  (getItem_tuple pl (by lia) (by lia) (by rw[cE,<-hl];exact h1) (by grind) ⟨rfl,gW⟩) hs
def OK:Se X Yk:=by
 intro value slice af s σ H x y v u Q I rx ry h hs;obtain⟨z,i,c,rfl,rfl,hz,he,q⟩:=h;obtain⟨t,rfl⟩:=rx;obtain⟨t',rfl⟩:=ry;obtain⟨j,h1,h2,h3,h4,h5⟩:=vo he;have hl:z.cps.toList.length=z.length:=by simp[Str.length]
 rw[hl]at h1 h4 h5;have hn:=lj;exact nz (typeIs_str s z t) slot_str_getitem.lookup (getItem_str (by
  grind) (by grind) ⟨.str ⟨#[c]⟩,H,I.tok _,⟨_,rfl⟩,q⟩) hs
def Ah(au:List Value)(n j:Nat)(u:Value):Obj.mapSeq (·.setIfInBounds j u) {cls:=.type "list",data:=.seq au.toArray n}={cls:=.type "list",data:=.seq (au.set j u).toArray n}:=by
 simp[Obj.mapSeq]
def Inv.lst{af:List (Addr×Obj)}{σ:St}{H:Hp}{s:Shared}{p:Addr}{xs:List V}(I:Inv X af σ H s)(h:H p=some (.lst xs)) :
  ∃(au:List Value) (n:Nat),Vals xs au/\s.heap.get? p=some {cls:=.type "list",data:=.seq au.toArray n}/\xs.length<=sizeLine:=by
 obtain⟨z,au,n,r,e⟩:=I.hok p _ h;exact⟨au,n,r,e,z⟩
def Inv.OL{af:List (Addr×Obj)}{σ:St}{H:Hp}{s:Shared}{p:Addr}{xs ys:List V}{au its':List Value}{n n':Nat}{f:Obj->Obj}(I:Inv X af σ H s)(h:H p=some (.lst xs))
  (ho:s.heap.get? p=some {cls:=.type "list",data:=.seq au.toArray n}) (hf:f {cls:=.type "list",data:=.seq au.toArray n}={cls:=.type "list",data:=.seq its'.toArray n'}) (r:Vals ys its') (hz:ys.length<=sizeLine) (t:Nat) :
  Inv X af σ (cY H p (.lst ys)) {s with heap:=s.heap.update p f,toks:=t}:=by
 have e:(s.heap.update p f).get? p=some {cls:=.type "list",data:=.seq its'.toArray n'}:=by
  rw[mP f ho (by rw[hf]<;>rfl),hf]
 refine I.write (by rw[h];trivial) (.inl rfl) (λb u hb q=>(jl _ _ (cx hb)).trans q) ⟨_,e⟩ ?_
 exact⟨hz,its',n',r,e⟩
def TQ:V->V->V->Hp->(Hp->Prop)->Prop:=λo i v H Q=>∃p xs k j,o=.ref p/\i=.int k/\H p=some (.lst xs)/\BF xs.length k=some j/\Q (cY H p (.lst (xs.set j v)))
def FQ:Fv X TQ:=by
 intro af s σ H o i v ov iv u Q I ro ri rv h;obtain⟨p,xs,k,j,rfl,rfl,hp,hj,q⟩:=h;cases ro;obtain⟨t,rfl⟩:=ri;obtain⟨au,n,r,ho,hz⟩:=I.lst hp;obtain⟨h1,h2,h3,h4⟩:=BG hj;have hl:=r.length;have hn:=lj;have I':Inv X af σ (cY H p (.lst (xs.set j v))) {s with heap:=s.heap.update p (Obj.mapSeq (·.setIfInBounds j u))} :=
  I.OL hp ho (Ah au n j u) (r.set rv j) (by grind) s.toks
 by_cases h0:0<=k
 ·have hk:k.toNat=j:=by
   rw[seqIndex_of h0 h4]at h1;exact bE h1
  exact W.ki_setAt ho h0 (by lia) (by grind) (by grind)
 ·have hk:(k+(au.toArray.size:Int)).toNat=j:=by
   rw[seqIndex_neg (by lia) h3]at h1
   rw[cE,<-hl];exact bE h1
  exact W.ki_setBack ho (by lia) (by grind) (by lia) (by grind)
def vp(lo hi:Option Int)(n:Nat):(sliceBounds lo hi none n).1=((HT.d6 n 0 lo:Nat):Int)/\(sliceBounds lo hi none n).2.1=((HT.d6 n n hi:Nat):Int)/\(sliceBounds lo hi none n).2.2=1:=by
 refine⟨?_,?_,rfl⟩
 ·cases lo with
  | none=>simp[sliceBounds,HT.d6]
  | some i =>
   simp only[sliceBounds,HT.d6,zA,show 1>0 by decide,eO]
   by_cases h:i<0
   ·grind
   ·grind
 ·cases hi with
  | none=>simp[sliceBounds,HT.d6]
  | some i =>
   simp only[sliceBounds,HT.d6,zA,show 1>0 by decide,eO]
   by_cases h:i<0
   ·grind
   ·grind
def sj(au:List Value)(lo hi:Option Int):slicePick au.toArray lo hi none=((au.drop (HT.d6 au.length 0 lo)).take (HT.d6 au.length au.length hi-HT.d6 au.length 0 lo)).toArray:=by
 obtain⟨h1,h2,h3⟩:=vp lo hi au.toArray.size;unfold slicePick;rw[h1,h2,h3];simp only[sliceRange_one,pick_run,cE]<;>rfl
def Yl(K:W.Frag):V->Option Int->Option Int->Hp->VK->Prop:=λx lo hi H Q=>∃a xs,x=.ref a/\vf K H a xs/\∀p,H p=none->Q (.ref p) (cY H p (.lst (xl xs lo hi)))
def Kk:WN X (Yl X.K):=by
 intro af s σ H x v vl vu lo hi sl Q I rx hs pl pu h;obtain⟨a,xs,rfl,hx,q⟩:=h;cases rx;obtain⟨au,r,ht,hz⟩:=I.list hx;have dX:=r.length;refine⟨"list",_,slot_list_getitem.lookup,ht.isList.typeIs,?_⟩;refine wpAny_getItem_list_slice ht.isList hs pl pu .none (by simp) ?_ (by grind)
 rw[sj,<-dX];refine⟨.ref s.heap.objs.size,_,I.laid (λb ob q=>aK _ q) (aF _) ?_,rfl,q _ (I.hok.fresh (aF _))⟩
 exact⟨aX (n6 xs lo hi) hz,_,0,(r.drop (HT.d6 xs.length 0 lo)).take (HT.d6 xs.length xs.length hi-HT.d6 xs.length 0 lo),bP _ rfl⟩
def lR:kz X (.builtin "len") (λxs H Q=>∃p ys,xs=[.ref p]/\(vf X.K H p ys\/gZ X.K H p ys)/\Q (.int ys.length) H):=by
 intro af s σ H xs us Q I r h;obtain⟨p,ys,rfl,hq,q⟩:=h;obtain⟨u,rfl,rx⟩:=kA r;cases rx;have hn:=lj;rcases hq with hq | hq
 ·obtain⟨au,r',pl,hz⟩:=I.list hq;have dX:=r'.length;exact Calls.call_len_list pl.isList (by grind) ⟨.int ys.length,H,I.tok _,⟨s.toks+1,by grind⟩,q⟩
 ·obtain⟨au,r',pl,hz⟩:=I.tuple hq;have dX:=r'.length;exact len_tuple pl (by grind) ⟨.int ys.length,H,I.tok _,⟨s.toks+1,by grind⟩,q⟩
def vq:kz X (.builtin "len") (λxs H Q=>∃z,xs=[.str z]/\z.length<=sizeLine/\Q (.int z.length) H):=by
 intro af s σ H xs us Q I r h;obtain⟨z,rfl,hz,q⟩:=h;obtain⟨u,rfl,t,rfl⟩:=kA r;have hn:=lj;exact len_str (by lia) ⟨.int z.length,H,I.tok _,⟨_,rfl⟩,q⟩
def kB:kz X (.type "tuple") (λxs H Q=>∃p ys,xs=[.ref p]/\((vf X.K H p ys/\∀l,H l=none->Q (.ref l) (cY H l (.ak ys)))\/(gZ X.K H p ys/\Q (.ref p) H))):=by
 intro af s σ H xs us Q I r h;obtain⟨p,ys,rfl,h⟩:=h;obtain⟨u,rfl,rx⟩:=kA r;cases rx;rcases h with⟨hq,q⟩ | ⟨hq,q⟩
 ·obtain⟨au,r',pl,hz⟩:=I.list hq;have dX:=r'.length;refine call_tuple_list pl.isList (λh' kp=>?_) (by grind)
  have I1:=I.kept (t':=s.toks) kp;have I2:Inv X af σ (cY H h'.objs.size (.ak ys)) {s with heap:=h'.push {cls:=.type "tuple",data:=.seq au.toArray}} :=
   I1.laid (λb o e=>aK _ e) (aF _) (⟨hz,au,r',ot.new _ _⟩)
  exact⟨.ref h'.objs.size,_,I2,rfl,q _ (I1.hok.fresh (aF _))⟩
 ·obtain⟨au,r',pl,hz⟩:=I.tuple hq;exact call_tuple_same pl ⟨.ref p,H,I,rfl,q⟩
def tyV(K:W.Frag)(T:String)(x:V)(H:Hp):Prop:=match x with
 | .str _=>T="str"
 | .int _=>T="int"
 | .ref p=>(T="list"/\∃xs,vf K H p xs)\/(T="tuple"/\∃o,K.lookup p=some o/\o.cls=.type "tuple"/\o.dict=none) \/
   (T="dict"/\((∃kvs,H p=some (.dK kvs))\/∃kvs,H p=some (.dT kvs)))\/(T="set"/\∃S n,H p=some (.set S n))
 | _=>False
def FT{af:List (Addr×Obj)}{σ:St}{H:Hp}{s:Shared}{T:String}{x:V}{v:Value}(I:Inv X af σ H s)(r:RelV x v)(ty:tyV X.K T x H) :
  s.TypeIs v T/\∀a,v=.ref a->∃ob,s.heap.get? a=some ob/\ob.dict=none:=by
 cases x with
 | str z =>
  obtain⟨t,rfl⟩:=r;cases(ty);exact⟨typeIs_str s z t,λ_ e=>nomatch e⟩
 | int i =>
  obtain⟨t,rfl⟩:=r;cases(ty);exact⟨pW s i t,λ_ e=>nomatch e⟩
 | ref p =>
  cases r;rcases ty with⟨rfl,xs,hq⟩ | ⟨rfl,o,hk,hc,hd⟩ | ⟨rfl,hk⟩ | ⟨rfl,S,n,hk⟩
  ·obtain⟨au,_,pl,_⟩:=I.list hq;refine⟨pl.isList.typeIs,λa e=>?_⟩
   cases e;obtain⟨o,n,e,c,hd,_⟩:=pl;exact⟨o,e,hd⟩
  ·refine⟨⟨o,I.ou p o hk,hc⟩,λa e=>?_⟩
   cases e;exact⟨o,I.ou _ o hk,hd⟩
  ·have z:∃o,s.heap.get? p=some o/\o.ExactDict:=by
    rcases hk with⟨kvs,hk⟩ | ⟨kvs,hk⟩
    ·obtain⟨_,_,_,_,o,_,_,e,ex,_⟩:=I.hok p _ hk;exact⟨o,e,ex⟩
    ·obtain⟨_,_,o,_,_,e,ex,_⟩:=(I.hok p _ hk);exact⟨o,e,ex⟩
   obtain⟨o,e,ex⟩:=z;refine⟨⟨o,e,ex.1⟩,λa e2=>?_⟩
   cases e2;exact⟨o,e,ex.2.1⟩
  ·obtain⟨o,_,_,_,e,ex,_⟩:=I.hok p _ hk;refine⟨⟨o,e,ex.1⟩,λa e2=>?_⟩
   cases e2;exact⟨o,e,ex.2.1⟩
 | _=>exact False.elim ty
def TR(K:W.Frag)(T:String)(r:V->List V->Hp->VK->Prop)(to:TE):TE:=λσ H Q=>to σ H λx H1=>tyV K T x H1/\r x [] H1 Q
def tBM(K:W.Frag)(T:String)(r:V->List V->Hp->VK->Prop)(to:TE)(t:TA):TE:=λσ H Q=>to σ H λx H1=>tyV K T x H1/\t σ H1 λxs H2=>r x xs H2 Q
variable {o e:Expr} {es:List Expr} {to:TE} {t:TA} {name:Str} {eM iR:Pos} {T id:String} {r:V->List V->Hp->VK->Prop}
def OM(pa:PlainAttrs T)(slot:Slot T name id)(Ym:typeOf (.builtin id)=pure (.type "method_descriptor"))(hm:MtR X id r)(ho:PE X o to)
  (lS:attributeBase o name X.env (eval o X.env)=eval o X.env:=by rfl) (lT:(eM.endLine==iR.line)=true:=by rfl):PE X (.Call (.Attribute o name eM) [] [] iR) (TR X.K T r to):=by
 intro af s σ H Q I h;refine wpAny_Call_method0_late lS lT (thn (ho af s σ H _ I h) λv s1 z9=>?_)
 obtain⟨x,H1,I1,r1,ty,q1⟩:=z9;obtain⟨h1,h2⟩:=FT I1 r1 ty;exact⟨T,id,pa,slot,Ym,h1,h2,Calls.callWith_builtin rfl (PySem.evalArgs_none (hm af s1 σ H1 x [] v [] Q I1 r1 .nil q1))⟩
def MK(pa:PlainAttrs T)(slot:Slot T name id)(Ym:typeOf (.builtin id)=pure (.type "method_descriptor"))(hm:MtR X id r)(ho:PE X o to)(ha:PA X (e::es) t)
  (lS:attributeBase o name X.env (eval o X.env)=eval o X.env:=by rfl)
  (Kl:((backTo iR (starEach (e::es) X.env)).all (λx=>!x.1)&&(backToKw iR (keywordEach [] X.env)).all (λx=>x.1.isSome)
   && decide ((e::es).length+([]:List Keyword).length+(if([]:List Keyword).isEmpty then 0 else 1)<30))=true:=by rfl)
  (lT:(eM.endLine==iR.line)=true:=by rfl) (hs:starEach (e::es) X.env=(false,eval e X.env)::starEach es X.env:=by rfl) (Yn:(backTo iR (starEach es X.env)).any (·.1)=false:=by rfl) :
  PE X (.Call (.Attribute o name eM) (e::es) [] iR) (tBM X.K T r to t):=by
 intro af s σ H Q I h;refine wpAny_Call_method_late lS Kl lT rfl (thn (ho af s σ H _ I h) λv s1 z9=>?_)
 obtain⟨x,H1,I1,r1,ty,q1⟩:=z9;obtain⟨h1,h2⟩:=FT I1 r1 ty;refine⟨T,id,pa,slot,Ym,h1,h2,?_⟩;have hA:=ha iR af s1 σ H1 _ I1 q1;rw[hs]at hA ⊢;refine Calls.callWith_builtin (by grind) (Calls.evalArgs_plain ?_)
 exact thn hA (by rintro us s2 ⟨vs,H2,I2,r2,q2⟩;exact hm af s2 σ H2 x vs v us Q I2 r1 r2 q2)
end
def Yo(X:Cx)(id:String)(r:V->List V->Hp->VK->Prop):Prop :=
 ∀(af:List (Addr×Obj)) (s:Shared) (σ:St) (H:Hp) (x:V) (xs:List V) (v:Value) (us:List Value) (Q:VK),Inv X af σ H s->RelV x v->Vals xs us->r x xs H Q ->
  wpAny (model X.prog X.w) X.A (call (.builtin id) (v::us)) (EP X af σ Q) X.xe s
theorem Vals.one:∀{x:V} {us:List Value},Vals [x] us->∃u,us=[u]/\RelV x u
 | _,_,.cons r .nil=>⟨_,rfl,r⟩
def Vals.two{x y:V}{us:List Value}(h:Vals [x,y] us):∃u v,us=[u,v]/\RelV x u/\RelV y v:=by
 cases h with
 | cons r h=>cases h with
  | cons q h=>cases h;exact⟨_,_,rfl,r,q⟩
theorem Vals.zero:∀{us:List Value},Vals [] us->us=[]
 | _,.nil=>rfl
section
variable {X:Cx} {af:List (Addr×Obj)} {σ:St} {H:Hp} {s:Shared} {l b:Addr} {xs ys zs:List V}
def Inv.ON{au its':List Value}{n:Nat}{f:Array Value->Array Value}{t':Nat}(I:Inv X af σ H s)(hH:H l=some (.lst xs))
  (e:s.heap.get? l=some {cls:=.type "list",data:=.seq au.toArray n}) (hf:f au.toArray=its'.toArray) (hv:Vals ys its') (hz:ys.length<=sizeLine) :
  Inv X af σ (cY H l (.lst ys)) {s with heap:=s.heap.update l (Obj.mapSeq f),toks:=t'}:=by
 have q:=PySem.IsL.update e f;rw[hf]at q;refine I.write (by rw[hH];exact trivial) (.inl rfl) (λb' u hb hu=>(jl s.heap (Obj.mapSeq f) (cx hb)).trans hu) ⟨_,q⟩ ?_
 exact⟨hz,its',_,hv,q⟩
def Inv.TU(I:Inv X af σ H s)(hv:Vals ys au)(hz:ys.length<=sizeLine) :
  Inv X af σ (cY H s.heap.objs.size (.lst ys)) {s with heap:=s.heap.push {cls:=.type "list",data:=.seq au.toArray},toks:=t'} :=
 I.laid (λ_ _ q=>aK _ q) (aF _) ⟨hz,au,0,hv,bP _ rfl⟩
def Inv.fresh(I:Inv X af σ H s):H s.heap.objs.size=none:=I.hok.fresh (aF _)
def Inv.dY(I:Inv X af σ H s)(hH:H l=some (.lst xs)):xs.length<=sizeLine/\∃(au:List Value) (n:Nat),Vals xs au/\xs.length=au.length/\s.heap.get? l=some {cls:=.type "list",data:=.seq au.toArray n}:=by
 obtain⟨z,au,n,r,e⟩:=I.hok l _ hH;exact⟨z,au,n,r,r.length,e⟩
def xm(h:n<=sizeLine):Builtin.List.listTooLong n=false:=by
 unfold Builtin.List.listTooLong;exact cF (by lia)
end
section
variable {X:Cx}
def BH:V->List V->Hp->VK->Prop:=λx vs H Q=>∃l xs y,x=.ref l/\vs=[y]/\H l=some (.lst xs)/\xs.length<sizeLine/\Q .aP (cY H l (.lst (xs++[y])))
def Du:Yo X "list.append" BH:=by
 intro af s σ H x vs v us Q I rx rv h;obtain⟨l,xs,y,rfl,rfl,hH,hz,q⟩:=h;cases rx;obtain⟨u,rfl,ru⟩:=rv.one;obtain⟨z,au,n,r,hl,e⟩:=I.dY hH;refine fX F.slot_list_append ⟨_,e,rfl⟩ F.entry_list_append (F.args_list_append_2 _ _) (PySem.list_append l au.toArray n u (by grind)) ⟨e,?_⟩
 refine⟨.aP,_,I.ON hH e (by simp) (r.append (.cons ru .nil)) ?_,rfl,q⟩
 rw[bR,List.length_singleton]
 lia
end
end L2
namespace Att
open PySem PySem.W PySem.Calls PyProof.Rows
def oy:∀(ns:List Int) (vs:List Value),WellAll P h vs (ns.map WData.int)->IntsAre vs ns:=by
 intro ns;induction ns with
 | nil =>
  intro vs w;rw[dQ]at w;cases w;exact .nil
 | cons n ns ih =>
  intro vs w;rw[aO]at w;cases w with
  | cons a b =>
   cases a;exact .cons _ _ (ih _ b)
def Dv{l:OpenLaw}(hn:l.most=some n) 
  (Km:l.row.toRowW.claim.pre args=true) (Yp:WellAll P h TV args) :
  ∃a vs ns,TV=[Value.ref a]/\args=[WData.list (ns.map WData.int)]/\h.get? a=some {cls:=.type "list",data:=.seq vs.toArray}/\IntsAre vs ns/\ns.length<=n:=by
 have hsh:=(pre_splitW Km).1;have hc:l.pre.holds [] {args:=args}=true:=(pre_splitW Km).2
 obtain⟨d,r,rfl,h1,h2⟩:=hasAllW_cons hsh;obtain rfl:=hasAllW_nil h2;obtain⟨xs,rfl,h3⟩:=hasW_list h1;obtain⟨ns,rfl⟩:=items_int h3;have dX:ns.length<=n:=by
  unfold OpenLaw.pre at hc;have h4:(WTm.not (.lt (.lit (.int n)) (.len (.arg 0)))).holds [] {args:=[.list (ns.map .int)]}=true:=by
   have h4:=(holds_andW hc).1;rw[hn]at h4;exact h4
  have h5:=condW_of h4 (w_not (w_lt w_lit (w_len_list (w_arg rfl))));rw[aN]at h5;refine zw λq=>?_
  have q':n<(ns.length:Nat):=by lia
  first
   | (rw[ez q']at h5;exact absurd h5 (by decide))
   | (simp at h5;lia)
 cases Yp with
 | cons w1 w2 =>
  cases w2;cases w1 with
  | list ho FU=>exact⟨_,_,ns,rfl,rfl,ho,oy ns _ FU,dX⟩
def Dw(l:OpenLaw)(args:List WData):l.row.toRowW.claim.post args (.bool true) args=true :=
 postW_of
  (show WShape.has [] (.bool true) .bool=true by first | rfl | decide | simp[WShape.has,WShape.arms,WShape.armsAll])
  (w_eq_bool (w_res rfl) w_lit) rfl
def xn{l:OpenLaw}{n:Nat}{loose:List Str}{XP:(Str->Option Value)->Heap->Prop}{YP:World->Heap->Prop}{d:DefRec}
  (hn:l.most=some n) (SS:d.params.defaults=[])
  (call:∀(w:World) (s₀ s₁:Shared) (mg mb:Str->Option Value) (fa:Addr) (o:Obj) (pm cd doc:Value) (a:Addr) (vs:List Value) (ns:List Int),
   Ground q loose [] XP w s₀ mg mb s₁.heap->YP w s₁.heap ->
   s₁.heap.get? fa=some o->o.data=.func (docDef d.name d.params d.body d.scope pm cd doc)->s₁.heap.CodeRec cd d.name->mg d.name=some (.ref fa) ->
   s₁.heap.get? a=some {cls:=.type "list",data:=.seq vs.toArray}->IntsAre vs ns->ns.length<=n->s₁.gens=#[] ->
   codeAny (model l.prog w) callerA (.call (.ref fa) ⟨[.ref a],[]⟩) (λr s'=>r=.ok (.ret (.bool true))/\OldK s₁.heap s'.heap/\s'.os=s₁.os/\AllBare s'.gens) s₁) :
  WalkO q loose XP YP l.row.toRowW d [] (λf vs=>PySem.call f vs):=by
 intro w s₀ s₁ mg mb G Y fa o pm cd doc dV kV ho hd yO hD Sf hg args TV as Km ac4 FV Yp hlo;obtain rfl:dV=.none:=Dflts.none hD SS;obtain rfl:kV=.none:=Dflts.noKw hD;obtain⟨a,vs,ns,rfl,rfl,FW,FX,dX⟩:=Dv hn Km Yp;refine enter_call (pT (call w s₀ s₁ mg mb fa o pm cd doc a vs ns G Y ho (fd_plain hd) yO Sf FW FX dX hg) λr s' hq=>?_)
 obtain⟨rfl,h2,h3,h4⟩:=hq;exact⟨.inl ⟨.bool true,.bool true,[],rfl,λ_=>rfl,.bool true,Dw l _,λ_=>⟨List.Pairwise.nil,λ_ hm=>(nomatch hm)⟩⟩,h2,h3,h4⟩
end Att
namespace L2
open PySem PySem.Spec PyProof.Rows
theorem s9:∀{vs:List Value} {ns:List Int},IntsAre vs ns->Vals (ns.map V.int) vs
 | _,_,.nil=>.nil
 | _,_,.cons n t h=>.cons ⟨t,rfl⟩ (s9 h)
def Dx{P:Program}{w:World}{K:W.Frag}{mg mb:Str->Option Value}{CX:C8}{k:Nat}{fa a:Addr}{fd:FuncData}{x:Str}{sp:Sp}{s₁:Shared}{vs:List Value}{ns:List Int}{tabs:List (Addr×Str)}
  (KX:K.In s₁.heap) (EA:s₁.heap.Ns mainGlobals mg) (hb:s₁.heap.Ns builtinsNs mb) (Sh:∀x:Str,x≠"__name__"->mb x=bootBuiltins x) (Ai:s₁.heap.NoLimit) (hg:s₁.gens=#[])
  (hT:∀b q,tabs.lookup b=some q->s₁.heap.get? b=some {cls:=.none,data:=.fields #[]}/\isCodeTable s₁.heap b/\K.lookup b=none) (hTI:∀H:Hp,(∀b q,tabs.lookup b=some q->H b=some (.zI q))->p9 K H)
  (ha:s₁.heap.get? a=some {cls:=.type "list",data:=.seq vs.toArray}) (hi:IntsAre vs ns) (hl:ns.length<=sizeLine) (hr:c7 k callerA)
  (F:∀base:Heap,K.In base->base.Ns mainGlobals mg->FnOk P w K mg base CX k fa fd [x] sp) (TX:∀(s:Shared) (u:Value),BindsTo s fd ⟨[u],[]⟩ [(x,u)])
  (MJ:∀H:Hp,iZ K H a (ns.map V.int)->sp [.ref a] H (λv _=>v=.bl true) λ_ _ _=>False) (hCX:∀H e s',CX [] H s₁ (λ_ _ _=>False) e s'->False) :
  codeAny (model P w) callerA (.call (.ref fa) ⟨[.ref a],[]⟩) (λr s'=>r=.ok (.ret (.bool true))/\OldK s₁.heap s'.heap/\s'.os=s₁.os/\AllBare s'.gens) s₁:=by
 have rv:=s9 hi;have fE:=hi.length
 let oa:Obj:={cls:=.type "list",data:=.seq vs.toArray}
 let H:Hp:=λb=>if b=a/\K.lookup a=none then some (.wV oa (.lst (ns.map V.int)))else(tabs.lookup b).map HO.zI
 have Yq:∀b,H b=if b=a/\K.lookup a=none then some (.wV oa (.lst (ns.map V.int)))else(tabs.lookup b).map HO.zI:=λ_=>rfl
 have hHt:∀b q,tabs.lookup b=some q->H b=some (.zI q):=λb q e=>by
  grind
 have hH:∀b u,H b=some u->(b=a/\K.lookup a=none/\u=.wV oa (.lst (ns.map V.int)))\/∃q,tabs.lookup b=some q/\u=.zI q:=λb u e=>by
  rw[Yq]at e;by_cases h:b=a/\K.lookup a=none
  ·grind
  ·rw[if_neg h]at e;cases z:tabs.lookup b with
   | none=>rw[z]at e;cases e
   | some q=>rw[z]at e;cases e;exact .inr ⟨q,rfl,rfl⟩
 have hS:iZ K H a (ns.map V.int):=by
  cases hk:K.lookup a with
  | some o =>
   have e:=KX a o hk;rw[ha]at e;cases e;exact .inr ⟨vs,_,hk,by grind,rv⟩
  | none=>exact .inl (.inr ⟨oa,by grind⟩)
 have hok:lH P w H s₁.heap:=λb u e=>by
  rcases hH b u e with⟨rfl,_,rfl⟩ | ⟨q,hq,rfl⟩
  ·exact⟨ha,by grind,vs,_,rv,ha⟩
  ·exact⟨#[],(hT b q hq).1,trivial,λpos cv z=>by cases z⟩
 have noD:∀{b:Addr} {o:Obj} {es:Array DictEntry} {ep:Nat},s₁.heap.get? b=some o->o.data=.dict es ep->H b=none:=λ{b o es ep} e d=>by
  cases q:H b with
  | none=>rfl
  | some u =>
   rcases hH b u q with⟨rfl,_,_⟩ | ⟨t,ht,_⟩
   ·grind
   ·grind
 have WO:∀{b:Addr} {m:Str->Option Value},s₁.heap.Ns b m->(w9 s₁.heap H).Ns b m:=λ{b m} ⟨o,es,ep,e,d,r⟩=>⟨o,es,ep,hidT_get e (noD e d),d,r⟩
 have hKb:K.In (w9 s₁.heap H):=λb o e=>hidT_get (KX b o e) (by
  cases q:H b with
  | none=>rfl
  | some u =>
   rcases hH b u q with⟨rfl,z,_⟩ | ⟨t,ht,_⟩
   ·grind
   ·rw[(hT b t ht).2.2]at e;cases e)
 have hM:Mod K mg (w9 s₁.heap H):=⟨hKb,WO EA,⟨mb,WO hb,Sh⟩,let ⟨mc,h1,h2⟩:=Ai;⟨mc,WO h1,h2⟩⟩
 have e0:Env0 P w K mg (w9 s₁.heap H) callerA [] s₁ H:=⟨rfl,hM,λb o e=>of_hidT e,js (Dk _ _),trivial,λb hb=>absurd (show b∈([]:List Addr)from hb) (by simp),hok,.of_eq hg,hTI H hHt⟩
 refine pT ((F _ hKb (WO EA)).run callerA [] s₁ H ⟨[.ref a],[]⟩ [.ref a] [.ref a] _ _ hr e0 (TX s₁ (.ref a)) (.cons rfl .nil) (MJ H hS)) λr s' h=>?_
 cases r with
 | error e=>exact(hCX H e s' h).elim
 | ok fl =>
  cases fl with
  | next=>exact False.elim h
  | brk=>exact False.elim h
  | cont=>exact False.elim h
  | ret u =>
   obtain⟨v,H',os,bare,un,TY,r',q⟩:=h;have q':=q;subst q';obtain rfl:u=Value.bool true:=r';have noF:∀b:Addr,b∉fD []:=λb z=>absurd (show b∈([]:List Addr)from z) (by simp)
   refine⟨rfl,⟨λb o e=>?_,λb o e=>un.there b o e (by simp)⟩,os,bare⟩
   cases q:H b with
   | none=>exact .inl (un.keep b o e q (noF b) (by simp))
   | some u =>
    rcases hH b u q with⟨rfl,_,rfl⟩ | ⟨t,ht,rfl⟩
    ·obtain⟨e2,_⟩:=TY b _ (un.frzs b _ _ q);rw[ha]at e;cases e;exact .inl e2
    ·obtain⟨h1,h2,_⟩:=hT b t ht;obtain⟨ps,e2,_⟩:=(TY b _ (un.tbls b _ q));rw[h1]at e;cases e;exact .inr (.inl ⟨h2,rfl,#[],ps,rfl,by grind⟩)
abbrev E0:XK:=λ_ _ _=>False
def cA(H H':Hp):Prop:=∀b o,H b=some o->H' b=some o
def cA.refl(H:Hp):cA H H:=λ_ _ h=>h
def cA.trans(a:cA H H1)(b:cA H1 H2):cA H H2:=λc o h=>b c o (a c o h)
def cA.free(e:cA H H')(h:H' l=Option.none):H l=Option.none:=by
 cases q:H l with
 | none=>rfl
 | some o =>
  rw[e l o q]at h;cases h
def cA.seq{K:W.Frag}{H H':Hp}{a:Addr}{xs:List V}(e:cA H H')(h:vf K H a xs):vf K H' a xs:=by
 rcases h with(h | ⟨o,h⟩) | h
 ·exact .inl (.inl (e _ _ h))
 ·exact .inl (.inr ⟨o,e _ _ h⟩)
 ·exact .inr h
section
variable {κ:Type} [DecidableEq κ]
noncomputable def oA(kvs:List (κ×V))(k:κ):Option V:=(kvs.find? λkv=>decide (kv.1=k)).map (·.2)
noncomputable def putK(kvs:List (κ×V))(k:κ)(v:V):List (κ×V) :=
 if(kvs.any λkv=>decide (kv.1=k))=true then kvs.map (λkv=>if kv.1=k then(kv.1,v)else kv)else kvs++[(k,v)]
def lU{p:κ×V}{r:List (κ×V)}{k:κ}(e:p.1=k):oA (p::r) k=some p.2:=by simp[oA,pQ,e]
def lV{p:κ×V}{r:List (κ×V)}{k:κ}(e:¬p.1=k):oA (p::r) k=oA r k:=by simp[oA,pQ,e]
theorem xo(k:κ):∀kvs:List (κ×V),(kvs.any λkv=>decide (kv.1=k))=(oA kvs k).isSome
 | []=>rfl
 | p::r=>by
  rw[mZ];by_cases e:p.1=k
  ·simp only[lU e,ez e,Bool.true_or,Option.isSome_some]
  ·rw[lV e,cF e,Bool.false_or];exact xo k r
def oq.td{o:Option V}{u:Option Value}(r:oq o u):o.isSome=u.isSome:=by
 cases o with
 | none=>cases u with
  | none=>rfl
  | some _=>exact(show False from r).elim
 | some _=>cases u with
  | none=>exact(show False from r).elim
  | some _=>rfl
def KV.val{kvs:List (κ×V)}{vs:List (κ×Value)}(r:KV kvs vs)(k:κ):oq (oA kvs k) (valueAt vs k):=by
 unfold KV at r;induction r with
 | nil=>exact True.intro
 | @cons p q ps qs h t ih =>
  obtain⟨h1,h2⟩:=h;by_cases e:p.1=k
  ·have e':q.1=k:=by grind
   have b:valueAt (q::qs) k=some q.2:=by simp[valueAt,pQ,e']
   rw[lU e,b];exact h2
  ·have e':¬q.1=k:=by grind
   have b:valueAt (q::qs) k=valueAt qs k:=by simp[valueAt,pQ,e']
   rw[lV e,b];exact ih
def KV.any{kvs:List (κ×V)}{vs:List (κ×Value)}(r:KV kvs vs)(k:κ):(kvs.any λkv=>decide (kv.1=k))=vs.any λkv=>decide (kv.1=k):=by
 unfold KV at r;induction r with
 | nil=>rfl
 | cons h t ih=>rw[mZ,mZ,ih,h.1]
def KV.Yr{kvs:List (κ×V)}{vs:List (κ×Value)}(r:KV kvs vs)(k:κ){y:V}{u:Value}(ry:RelV y u) :
  KV (kvs.map λkv=>if kv.1=k then(kv.1,y)else kv) (vs.map λkv=>if kv.1=k then(kv.1,u)else kv):=by
 unfold KV at r ⊢;induction r with
 | nil=>exact .nil
 | @cons p q ps qs h t ih =>
  rw[aO,aO];refine .cons ?_ ih;obtain⟨h1,h2⟩:=h;by_cases e:p.1=k
  ·grind
  ·grind
def KV.put{kvs:List (κ×V)}{vs:List (κ×Value)}(r:KV kvs vs)(k:κ){y:V}{u:Value}(ry:RelV y u):KV (putK kvs k y) (stored vs k u):=by
 unfold putK stored;rw[r.any k];by_cases e:(vs.any λkv=>decide (kv.1=k))=true
 ·rw[if_pos e,if_pos e];exact r.Yr k ry
 ·rw[if_neg e,if_neg e];exact Paired.snoc r ⟨rfl,ry⟩
theorem KV.length{kvs:List (κ×V)}{vs:List (κ×Value)}(r:KV kvs vs):kvs.length=vs.length:=nh r
end
def tf{P:Program}{w:World}{k:dZ}{u:Value}(r:RelV (kV k) u):(dI P w).is k u=true:=by
 cases k with
 | inl i=>obtain⟨t,e⟩:=(show ∃t,u=Value.int i t from r);subst e;exact wZ P w i t
 | inr x=>obtain⟨t,e⟩:=(show ∃t,u=Value.str x t from r);subst e;exact w5 P w x t
theorem tj{P:Program}{w:World}:∀{ks:List dZ} {us:List Value},Vals (ks.map kV) us->ItemsAre (dI P w) ks us
 | [],_,r=>by rw[dQ]at r;cases r;exact .nil
 | k::ks,_,r=>by
  rw[aO]at r;cases r with
  | cons h t=>exact .cons (tf h) (tj t)
section
variable {P:Program} {w:World} {H:Hp} {h:Heap} {a:Addr}
def ML{u:HO}(ok:lH P w H h)(e:Rd H a u):fJ P w H h a u:=e.ok ok
def BI{kvs:List (dZ×V)}(ok:lH P w H h)(e:Rd H a (.dK kvs)):kvs.length<=sizeLine/\(a==sysModules)=false/\∃vs,KV kvs vs/\h.DictOf (dI P w) a vs :=
 show fJ P w H h a (.dK kvs)from ML ok e
def TZ{kvs:List (dZ×V)}(ok:lH P w H h)(e:H a=some (.dK kvs)):kvs.length<=sizeLine/\(a==sysModules)=false/\∃vs,KV kvs vs/\h.DictOf (dI P w) a vs:=BI ok (.inl e)
end
section
variable {X:Cx} {af:List (Addr×Obj)} {σ:St} {H:Hp} {s:Shared} {a b:Addr} {k:List dZ} {v:V} {r:Value} {A:Around} {E:Value->Shared->Prop} {xs:List (List dZ×Addr×Value)}
def key_is(I:Inv X af σ H s)(e:gZ X.K H a (k.map kV)):(tupleKind (dI X.prog X.w)).is s.heap k a:=by
 obtain⟨au,r,⟨o,h1,h2,n,h3⟩,_⟩:=I.tuple e;exact⟨o,au.toArray,n,h1,h2,h3,by simpa using tj r⟩
def xp(I:Inv X af σ H s)(e:Rd H a (.dT xs))(hk:fY X.K H xs):xs.length<=sizeLine/\(a==sysModules)=false/\s.heap.DictOfH (tupleKind (dI X.prog X.w)) a xs:=by
 obtain⟨z,y,o,es,ep,h1,h2,h3,h4,h5⟩:=(show fJ X.prog X.w H s.heap a (.dT xs)from ML I.hok e)
 exact⟨z,y,o,es,ep,h1,h2,h3,h4,λx hx=>key_is I (hk x hx),h5⟩
def T3{Q:Value->Shared->Prop}(hu:A.units+1<cLine)(I:Inv X af σ H s)(e:Rd H a (.dT xs))(hk:fY X.K H xs)(eb:gZ X.K H b (k.map kV))(h:∀s',Inv X af σ H s'->Q (.bool (atKey xs k).isSome) s') :
  wpAny (model X.prog X.w) A (compareOp .In (.ref b) (.ref a)) Q E s:=by
 obtain⟨_,hd,dd⟩:=xp I e hk;exact wpAny_in_heap (uL hu) (key_is I eb) hd dd (h _ (I.tok _))
def T4{Q:Value->Shared->Prop}(hu:A.units+1<cLine)(I:Inv X af σ H s)(e:Rd H a (.dT xs))(hk:fY X.K H xs)(eb:gZ X.K H b (k.map kV)) (h:∀s',Inv X af σ H s'->Q (.bool (!(atKey xs k).isSome)) s') :
  wpAny (model X.prog X.w) A (compareOp .NotIn (.ref b) (.ref a)) Q E s:=by
 obtain⟨_,hd,dd⟩:=xp I e hk;exact wpAny_notIn_heap (uL hu) (key_is I eb) hd dd (h _ (I.tok _))
def T5{Q:Value->Shared->Prop}{p:Addr×Value}(hu:A.units+1<cLine)(I:Inv X af σ H s)(e:Rd H a (.dT xs))(hk:fY X.K H xs)(eb:gZ X.K H b (k.map kV))(hp:atKey xs k=some p)(h:∀s',Inv X af σ H s'->Q p.2 s') :
  wpAny (model X.prog X.w) A (getItem (.ref a) (.ref b)) Q E s:=by
 obtain⟨_,hd,dd⟩:=xp I e hk;exact wpAny_getItem_heap (uL hu) (key_is I eb) dd hp (h _ (I.tok _))
def Aj{κ:Type} [DecidableEq κ] (xs:List (κ×Addr×Value)) (k:κ) (a:Addr) (v:Value):(storedH xs k a v).length<=xs.length+1:=by
 unfold storedH;split
 ·grind
 ·grind
def OO{Q:Unit->Shared->Prop}(hu:A.units+1<cLine)(I:Inv X af σ H s)(e:H a=some (.dT xs))(hk:fY X.K H xs)(eb:gZ X.K H b (k.map kV))(hl:xs.length<sizeLine)
  (h:∀s',Inv X af σ (cY H a (.dT (storedH xs k b r))) s'->Q () s'):wpAny (model X.prog X.w) A (setItem (.ref a) (.ref b) r) Q E s:=by
 obtain⟨_,hd,dd⟩:=xp I (.inl e) hk;refine wpAny_setItem_heap (hsz:=u0 hl) (uL hu) (key_is I eb) dd λh' WQ hs=>h _ ?_
 obtain⟨q,es,ep,hq,h2,h3,h4,_,h5⟩:=WQ;exact I.write (x:=a) (e:=a) (by rw[e];exact True.intro) (.inl rfl) (λc q' hc z=>(hs.2 c hc).trans z) ⟨q,hq⟩ ⟨(by have:=Aj xs k b r;lia),hd,q,es,ep,hq,h2,h3,h4,h5⟩
def qr(I:Inv X af σ H s):sysModules<s.heap.objs.size:=kW (by decide) (show mainGlobals<s.heap.objs.size from(I.mod.glob.keeps I.bk).lt)
def MM(o:HO):TE:=λ_ H Q=>∀p,H p=none->Q (.ref p) (cY H p o)
def Kn{pos:Pos}:PE X (.Dict [] [] pos) (MM (.dT [])):=λaf s σ H Q I h =>
 wpAny_Dict_empty ⟨.ref s.heap.objs.size,_,I.laid (a:=s.heap.objs.size) (o:=.dT []) (t':=s.toks) (λ_ _ q=>aK _ q) (aF _)
  ⟨jt _,bO.mpr (cx (bF (qr I))),_,#[],0,bP _ rfl,⟨rfl,rfl,rfl⟩,rfl,rfl,uR⟩,rfl,h _ (I.hok.fresh (aF _))⟩
def Dy{κ:Type} [DecidableEq κ] (xs:List (κ×Addr×Value)) (k:κ):(atKey xs k).isSome=(xs.map (·.1)).any λj=>decide (j=k):=by
 unfold atKey;rw[Option.isSome_map,List.any_map,List.isSome_find?];rfl
end
def FY(mg:Str->Option Value)(base:Heap):Prop:=∃bm o,mg "__builtins__"=some (.ref bm)/\bm≠builtinsNs/\bm≠mainGlobals/\base.get? bm=some o/\o.cls=.type "module"/\o.dict=some builtinsNs/\o.data=.plain
end L2
namespace L2.U
open PySem PySem.Spec PyProof.Rows
noncomputable abbrev PV.lst (ps:List PV):PV:=.nd .lst ps
structure Gr (F F':Fz):Prop where
 s:cA F.F F'.F
 m:∀(n:Nat) (a:Addr),F.μ[n]?=some a->F'.μ[n]?=some a
def Gr.refl(F:Fz):Gr F F:=⟨cA.refl _,λ_ _ h=>h⟩
def Gr.trans(a:Gr F F1)(b:Gr F1 F2):Gr F F2:=⟨a.s.trans b.s,λn c h=>b.m n c (a.m n c h)⟩
def bL{K:W.Frag}(e:cA H H')(h:gZ K H a xs):gZ K H' a xs:=by
 rcases h with(h | ⟨o,h⟩) | h
 ·exact .inl (.inl (e _ _ h))
 ·exact .inl (.inr ⟨o,e _ _ h⟩)
 ·exact .inr h
def Ko(e:cA H H')(h:Rd H a u):Rd H' a u:=h.imp (e _ _) (by rintro⟨o,q⟩;exact⟨o,e _ _ q⟩)
def jx{K:W.Frag}(e:cA H H')(h:iZ K H a xs):iZ K H' a xs:=h.imp (Ko e) id
def _root_.L2.iZ.of{K:W.Frag}(h:H a=some (.lst xs)):iZ K H a xs:=.inl (.inl h)
section
variable {K:W.Frag} {F F':Fz}
def lb.to(h:lb K G H a x k vs)(g:cA G G')(e:∀o,H a=some o->H' a=some o)(hy:y=true->x=true):lb K G' H' a y k vs:=by
 have keys:∀{xs:List (List dZ×Addr×Value)},fY K G xs->fY K G' xs:=λhk z hz=>bL g (hk z hz)
 match k,h with
 | .ak,⟨h1,h2⟩ =>
  refine⟨?_,?_⟩
  ·grind
  ·rcases h2 with(h2 | ⟨o,h2⟩) | h2
   ·exact .inl (.inl (e _ h2))
   ·exact .inl (.inr ⟨o,e _ h2⟩)
   ·exact .inr h2
 | .lst,h =>
  cases y with
  | true=>rw[hy rfl]at h;exact e _ h
  | false =>
   cases x with
   | true=>exact iZ.of (e _ h)
   | false =>
    rcases(h)with(h | ⟨o,h⟩) | h
    ·exact .inl (.inl (e _ h))
    ·exact .inl (.inr ⟨o,e _ h⟩)
    ·exact .inr h
 | .ins C ns,⟨Ca,dx,fs,h1,h2,h3,h4,h5⟩=>exact⟨Ca,dx,fs,h1,h2,h3,e _ h4,h5⟩
 | .gB false ks,⟨kvs,h1,h2⟩=>exact⟨kvs,e _ h1,h2⟩
 | .gB true ks,⟨xs,h1,h2,h3⟩=>exact⟨xs,e _ h1,keys h2,h3⟩
mutual
theorem bB.mono(e:Gr F F'):∀{p:PV} {v:V},bB K F p v->bB K F' p v
 | .aP,_,h=>by simpa only[bB]using h
 | .bl _,_,h=>by simpa only[bB]using h
 | .int _,_,h=>by simpa only[bB]using h
 | .str _,_,h=>by simpa only[bB]using h
 | .fn _,_,h=>by simpa only[bB]using h
 | .ref n,_,h=>by
  simp only[bB]at h ⊢;obtain⟨a,h1,h2⟩:=h;exact⟨a,e.m _ _ h1,h2⟩
 | .nd k ps,_,h=>by
  simp only[bB]at h ⊢;obtain⟨a,vs,h1,h2,h3⟩:=h;exact⟨a,vs,h1,h2.to e.s (λo q=>e.s _ _ q) id,aw.mono e h3⟩
theorem aw.mono(e:Gr F F'):∀{ps:List PV} {vs:List V},aw K F ps vs->aw K F' ps vs
 | [],_,h=>by simpa only[aw]using h
 | _::_,_,h=>by
  simp only[aw]at h ⊢;obtain⟨v,r,h1,h2,h3⟩:=h;exact⟨v,r,h1,h2.mono e,aw.mono e h3⟩
end
def aw.cm(h:aw K F (p::ps) vs):∃v r,vs=v::r/\bB K F p v/\aw K F ps r:=by
 simpa only[aw]using h
def aw.cH(h:aw K F [] vs):vs=[]:=by simpa only[aw]using h
theorem qt:∀{ps:List PV} {vs:List V},aw K F ps vs↔Paired (bB K F) ps vs
 | [],vs=>⟨λh=>by rw[h.cH];exact .nil,λh=>by cases h;exact .nil⟩
 | p::ps,vs=>⟨λh=>by obtain⟨v,r,rfl,h1,h2⟩:=h.cm;exact .cons h1 (qt.mp h2),λh=>by cases h with | cons h1 h2=>exact .cons h1 (qt.mpr h2)⟩
def aw.length(h:aw K F ps vs):ps.length=vs.length:=nh (qt.mp h)
theorem aw.append:∀{ps qs:List PV} {vs ws:List V},aw K F ps vs->aw K F qs ws->aw K F (ps++qs) (vs++ws)
 | [],_,_,_,h,t=>by rw[h.cH];exact t
 | _::_,_,_,_,h,t=>by
  obtain⟨v,r,rfl,h1,h2⟩:=h.cm;exact .cons h1 (h2.append t)
theorem aw.get:∀{ps:List PV} {vs:List V} {i:Nat} {p:PV},aw K F ps vs->ps[i]?=some p->∃v,vs[i]?=some v/\bB K F p v
 | [],_,_,_,_,e=>by cases e
 | _::_,_,0,_,h,e=>by
  obtain⟨v,r,rfl,h1,_⟩:=h.cm;cases e;exact⟨v,rfl,h1⟩
 | _::_,_,_+1,_,h,e=>by
  obtain⟨v,r,rfl,_,h2⟩:=h.cm;exact h2.get e
theorem aw.take:∀{ps:List PV} {vs:List V} (n:Nat),aw K F ps vs->aw K F (ps.take n) (vs.take n)
 | _,_,0,_=>by simp only[List.take_zero];exact .nil
 | [],_,_+1,h=>by rw[h.cH];simp only[List.take_nil];exact .nil
 | _::_,_,n+1,h=>by
  obtain⟨v,r,rfl,h1,h2⟩:=h.cm;exact .cons h1 (h2.take n)
theorem aw.drop:∀{ps:List PV} {vs:List V} (n:Nat),aw K F ps vs->aw K F (ps.drop n) (vs.drop n)
 | _,_,0,h=>h
 | [],_,_+1,h=>by rw[h.cH];simp only[List.drop_nil];exact .nil
 | _::_,_,n+1,h=>by
  obtain⟨v,r,rfl,_,h2⟩:=h.cm;exact h2.drop n
theorem aw.set(r:bB K F p v):∀{ps:List PV} {vs:List V} (i:Nat),aw K F ps vs->aw K F (ps.set i p) (vs.set i v)
 | [],_,_,h=>by rw[h.cH];exact .nil
 | _::_,_,0,h=>by
  obtain⟨v,r',rfl,_,h2⟩:=h.cm;exact .cons r h2
 | _::_,_,i+1,h=>by
  obtain⟨v,r',rfl,h1,h2⟩:=h.cm;exact .cons h1 (h2.set r i)
def dq:bB K F (.ref n) v↔∃a,F.μ[n]?=some a/\v=.ref a:=by simp only[bB]
def qu:bB K F (.fn x) v↔∃a,v=.ref a/\W.nsIn K mainGlobals x=some (some (.ref a)):=by simp only[bB]
def dr:bB K F (.lst ps) v↔∃a vs,v=.ref a/\iZ K F.F a vs/\aw K F ps vs:=iO
end
structure ah where
 k:Kd
 ps:List PV
structure cq where
 ρ:List (Option PV)
 h:List ah
noncomputable def live(c:ah):Bool:=match c.k with | .ak=>false | _=>true
structure lI (K:W.Frag) (aa:Hp) (ae F:Fz) (h:List ah) (H:Hp):Prop where
 sub:cA F.F H
 keep:cA aa H
 base:Gr ae F
 fresh:∀a o,F.F a=some o->ae.F a=some o\/aa a=none
 new:∀(n:Nat) (a:Addr),F.μ[n]?=some a->aa a=none/\∃o,H a=some o
 hl:h.length=F.μ.length
 nd:F.μ.Nodup
 cell:∀(n:Nat) (c:ah) (a:Addr),h[n]?=some c->F.μ[n]?=some a->live c=true->F.F a=none/\∃vs,lb K F.F H a true c.k vs/\aw K F c.ps vs
structure Lc (K:W.Frag) (F:Fz) (ρ:List (Option PV)) (σ:St):Prop where
 av:∀(i:Nat) (p:PV),ρ[i]?=some (some p)->∃v,σ[i]?=some (some v)/\bB K F p v
 len:ρ.length=σ.length
structure Rep (K:W.Frag) (aa:Hp) (ae F:Fz) (st:cq) (σ:St) (H:Hp):Prop where
 c:lI K aa ae F st.h H
 l:Lc K F st.ρ σ
def fK(h:H p=none):cA H (cY H p o):=λb u q=>by rw[aM (dh q h)];exact q
section
variable {K:W.Frag} {aa H H':Hp} {ae F F':Fz} {h:List ah} {st:cq} {σ:St}
def Lc.mono(L:Lc K F ρ σ)(e:Gr F F'):Lc K F' ρ σ:=⟨λi p z=>let ⟨v,h1,h2⟩:=L.av i p z;⟨v,h1,h2.mono e⟩,L.len⟩
def lI.after(R:lI K aa ae F h H)(e:cA H H')(f:cA F.F F'.F)(m:F'.μ=F.μ)(s:cA F'.F H')(n:∀a o,F'.F a=some o->F.F a=some o\/H a=none):lI K aa ae F' h H' where
 sub:=s
 keep:=R.keep.trans e
 base:=R.base.trans ⟨f,λ_ _ q=>by rw[m];exact q⟩
 fresh:=λa o q=>by
  rcases n a o q with z | z
  ·exact R.fresh a o z
  ·exact .inr (R.keep.free z)
 new:=λn a q=>by rw[m]at q;obtain⟨h1,o,h2⟩:=R.new n a q;exact⟨h1,o,e _ _ h2⟩
 hl:=by rw[m];exact R.hl
 nd:=by rw[m];exact R.nd
 cell:=λi c a hc ha hk=>by
  rw[m]at ha;obtain⟨h1,vs,h2,h3⟩:=R.cell i c a hc ha hk;refine⟨?_,vs,h2.to f (λo q=>e _ _ q) id,h3.mono ⟨f,λ_ _ q=>by rw[m];exact q⟩⟩
  obtain⟨_,o,ho⟩:=R.new i a ha;cases q:F'.F a with
  | none=>rfl
  | some u =>
   rcases n a u q with z | z
   ·rw[h1]at z;cases z
   ·rw[ho]at z;cases z
def Rep.after(R:Rep K aa ae F st σ H)(e:cA H H')(f:cA F.F F'.F)(m:F'.μ=F.μ)(s:cA F'.F H')(n:∀a o,F'.F a=some o->F.F a=some o\/H a=none):Rep K aa ae F' st σ H' :=
 ⟨R.c.after e f m s n,R.l.mono ⟨f,λ_ _ q=>by grind⟩⟩
def Rep.sub(R:Rep K aa ae F st σ H):cA F.F H:=R.c.sub
def Rep.laid(R:Rep K aa ae F st σ H)(o:HO)(hp:H p=none):Rep K aa ae ⟨cY F.F p o,F.μ⟩ st σ (cY H p o)/\Gr F ⟨cY F.F p o,F.μ⟩:=by
 have fp:=R.sub.free hp;refine⟨R.after (fK hp) (fK fp) rfl (λb u q=>?_) (λb u q=>?_),fK fp,λ_ _ q=>q⟩
 ·by_cases hb:b=p
  ·subst hb;rw[show(Fz.mk (cY F.F b o) F.μ).F b=cY F.F b o b from rfl,ay]at q;rw[ay];exact q
  ·rw[show(Fz.mk (cY F.F p o) F.μ).F b=cY F.F p o b from rfl,aM hb]at q;rw[aM hb];exact R.sub _ _ q
 ·by_cases hb:b=p
  ·grind
  ·rw[show(Fz.mk (cY F.F p o) F.μ).F b=cY F.F p o b from rfl,aM hb]at q;exact .inl q
def lI.alloc(R:lI K aa ae F h H)(hp:H p=none)(hn:lb K F.F (cY H p o) p true c.k vs)(hb:aw K F c.ps vs) :
  lI K aa ae ⟨F.F,F.μ++[p]⟩ (h++[c]) (cY H p o)/\Gr F ⟨F.F,F.μ++[p]⟩/\(F.μ++[p])[h.length]?=some p:=by
 have g:Gr F ⟨F.F,F.μ++[p]⟩:=⟨cA.refl _,λn a q=>by
  grind⟩
 have WR:∀n a,(F.μ++[p])[n]?=some a->F.μ[n]?=some a\/n=F.μ.length/\a=p:=λn a q=>by
  grind
 have no:∀n a,F.μ[n]?=some a->a≠p:=λn a q z=>by
  subst z;obtain⟨_,o,ho⟩:=R.new n a q;rw[hp]at ho;cases ho
 refine⟨⟨λb u q=>by rw[aM (dh (R.sub _ _ q) hp)];exact R.sub _ _ q,R.keep.trans (fK hp),R.base.trans g,R.fresh,λn a q=>?_,by simp[R.hl],?_,λn d a hd ha hk=>?_⟩,g,by rw[R.hl];simp⟩
 ·rcases WR n a q with z | ⟨_,rfl⟩
  ·obtain⟨h1,u,h2⟩:=R.new n a z;exact⟨h1,u,fK hp _ _ h2⟩
  ·exact⟨R.keep.free hp,o,ay⟩
 ·rw[zo];refine⟨R.nd,by simp,λa ha b hb z=>?_⟩
  obtain⟨n,hn⟩:=uG.mp ha;rw[aW]at hb;exact no n a hn (z.trans hb)
 ·rcases WR n a ha with z | ⟨rfl,rfl⟩
  ·rw[fw (by rw[R.hl];exact(de.mp z).1)]at hd
   obtain⟨h1,ws,h2,h3⟩:=R.cell n d a hd z hk;exact⟨h1,ws,h2.to (cA.refl _) (λu q=>fK hp _ _ q) id,h3.mono g⟩
  ·rw[<-R.hl,jj (aF _),Nat.sub_self]at hd;cases hd;exact⟨R.sub.free hp,vs,hn,hb.mono g⟩
def lI.write(R:lI K aa ae F h H)(hc:h[n]?=some c)(hl:live c=true)(ha:F.μ[n]?=some a)(hn:lb K F.F (cY H a o) a true d.k vs)(hb:aw K F d.ps vs) :
  lI K aa ae F (h.set n d) (cY H a o):=by
 obtain⟨hF,_⟩:=R.cell n c a hc ha hl;refine⟨λb u q=>by rw[aM (λz=>by grind)];exact R.sub _ _ q,λb u q=>?_,R.base,R.fresh,λm b q=>?_,by rw[iq];exact R.hl,R.nd,λm e b he jY hk=>?_⟩
 ·rw[aM (λz=>by subst z;rw[(R.new n b ha).1]at q;cases q)];exact R.keep _ _ q
 ·obtain⟨h1,u,h2⟩:=R.new m b q;refine⟨h1,?_⟩;by_cases hb:b=a
  ·subst hb;exact⟨o,ay⟩
  ·exact⟨u,by rw[aM hb];exact h2⟩
 ·by_cases hm:n=m
  ·grind
  ·rw[aL hm]at he;obtain⟨h1,ws,h2,h3⟩:=R.cell m e b he jY hk;have ne:b≠a:=λz=>by
    subst z;obtain⟨l1,e1⟩:=de.mp jY;obtain⟨l2,e2⟩:=de.mp ha;exact hm ((List.getElem_inj R.nd).mp (e2.trans e1.symm))
   exact⟨h1,ws,h2.to (cA.refl _) (λu q=>by rw[aM ne];exact q) id,h3⟩
end
def _root_.L2.PE.imp(h:PE X e t)(hi:∀σ H Q,t' σ H Q->t σ H Q):PE X e t':=λaf s σ H Q I hw=>h af s σ H Q I (hi _ _ _ hw)
def _root_.L2.PT.imp(h:PT X e t)(hi:∀σ H Q,t' σ H Q->t σ H Q):PT X e t':=λaf s σ H Q I hw=>h af s σ H Q I (hi _ _ _ hw)
def _root_.L2.PW.imp(h:PW X e t)(hi:∀σ H Q,t' σ H Q->t σ H Q):PW X e t':=λw af s σ H Q I hw=>h w af s σ H Q I (hi _ _ _ hw)
def _root_.L2.PA.imp(h:PA X e t)(hi:∀σ H Q,t' σ H Q->t σ H Q):PA X e t':=λpos af s σ H Q I hw=>h pos af s σ H Q I (hi _ _ _ hw)
def _root_.L2.PS.imp{st:Stmt}(h:PS X st t)(hi:∀D σ H,t' D σ H->t D σ H):PS X st t':=λaf s σ H D I hw=>h af s σ H D I (hi _ _ _ hw)
def _root_.L2.PSs.imp{st:List Stmt}(h:PSs X st t)(hi:∀D σ H,t' D σ H->t D σ H):PSs X st t':=λaf s σ H D I hw=>h af s σ H D I (hi _ _ _ hw)
def _root_.L2.PG.imp(h:PG X e t)(hi:∀v σ H Q,t' v σ H Q->t v σ H Q):PG X e t':=λaf s σ H v u Q I r hw=>h af s σ H v u Q I r (hi _ _ _ _ hw)
def _root_.L2.PGs.imp(h:PGs X e t)(hi:∀v σ H Q,t' v σ H Q->t v σ H Q):PGs X e t':=λaf s σ H v u Q I r hw=>h af s σ H v u Q I r (hi _ _ _ _ hw)
def _root_.L2.PI.imp(h:PI X tg e t)(hi:∀σ H Q,t' σ H Q->t σ H Q):PI X tg e t':=λaf s σ H R I hw=>h af s σ H R I (hi _ _ _ hw)
inductive Rs (α:Type) where
 | ok (a:α) | ex (m:Bool) (C:Str)
abbrev Gx(α:Type):=cq->Option (Rs α×cq)
noncomputable def OP{α β:Type}(k:α->Gx β):Rs α×cq->Option (Rs β×cq)
 | (.ok a,st)=>k a st
 | (.ex m C,st)=>some (.ex m C,st)
def bnd{α β:Type}(f:Gx α)(k:α->Gx β):Gx β:=λst=>(f st).bind (OP k)
noncomputable def cC{α:Type}(a:α):Gx α:=λst=>some (.ok a,st)
noncomputable def hp{α:Type}(g:List ah->Option α):Gx α:=λst=>(g st.h).map λa=>(.ok a,st)
noncomputable def jZ{α:Type}(o:Option α):Gx α:=λst=>o.map λa=>(.ok a,st)
def Dm(H H':Hp):Prop:=∀b o,H b=some o->∃o',H' b=some o'
def iA(P:Program)(w:World):C8:=λax H s E e s'=>∃a cls a0 B H',e=.ref a/\s'.os=s.os/\AllBare s'.gens/\Un (fD ax) [] H H' s.heap s'.heap/\lH P w H' s'.heap/\Dm H H'/\E cls none H' /\
 Heap.FlyingW B ax a cls a0 s'.heap/\(∀b o,H' b=some o->∃ob,B.get? b=some ob)/\∀b ob,s.heap.get? b=some ob->H b=none->b∉fD ax->B.get? b=some ob
def tm:vk (iA P w) X E0:=(by rintro _ _ _ _ _ _ _ ⟨_,_,_,_,_,_,_,_,_,_,_,h,_⟩;exact h.elim)
def FZ(X:Cx)(aa:Hp)(ae F:Fz)(C:Str)(st:cq):Bool->Prop
 | true=>∀F' bC H' af s h1 a cls vs,Rep X.K aa ae F' st bC H'->Gr F F'->Inv X af bC H' s->ClsAt X.K C cls->Heap.MadeExcOf s.heap h1 a cls vs->X.xe (.ref a) {s with heap:=h1}
 | false=>∀bC af H1 s1 e s',Inv X af bC H1 s1->iA X.prog X.w X.stack H1 s1 (λcls _ H2=>ClsAt X.K C cls/\∃F',Rep X.K aa ae F' st bC H2/\Gr F F') e s'->X.xe e s'
section
variable {X:Cx} {aa H:Hp} {ae F F1:Fz} {st st1:cq} {σ:St} {α β γ δ:Type}
def FZ.mono(h:FZ X aa ae F C st m)(s:Gr F F1):FZ X aa ae F1 C st m:=by
 cases m with
 | true=>exact λF' bC H' af s1 h1 a cls vs R z=>h F' bC H' af s1 h1 a cls vs R (s.trans z)
 | false =>
  rintro bC af H1 s1 e s' I ⟨a,cls,a0,B,H',h1,h2,h3,h4,h5,h6,⟨c,F',R,z⟩,h8⟩
  exact h bC af H1 s1 e s' I ⟨a,cls,a0,B,H',h1,h2,h3,h4,h5,h6,⟨c,F',R,s.trans z⟩,h8⟩
def F6(X:Cx)(aa:Hp)(ae F:Fz)(P:α->cq->Prop):Rs α×cq->Prop
 | (.ok a,st)=>P a st
 | (.ex m C,st)=>FZ X aa ae F C st m
def At(X:Cx)(aa:Hp)(ae F:Fz)(st:cq)(f:Gx α)(P:α->cq->Prop):Prop:=∃r,f st=some r/\F6 X aa ae F P r
def F6.imp(h:F6 X aa ae F P r)(g:Gr F F1)(i:∀a st',P a st'->P' a st'):F6 X aa ae F1 P' r:=by
 match r,h with
 | (.ok a,st),h=>exact i a st h
 | (.ex m C,st),h=>exact FZ.mono h g
def At.imp(h:At X aa ae F st f P)(g:Gr F F1)(i:∀a st',P a st'->P' a st'):At X aa ae F1 st f P' :=
 let ⟨r,h1,h2⟩:=h;⟨r,h1,h2.imp g i⟩
def aQ(h:o.bind f=some b):∃a,o=some a/\f a=some b:=by
 cases o with
 | none=>cases h
 | some a=>exact⟨a,rfl,h⟩
def aR(h:o.map f=some b):∃a,o=some a/\f a=b:=by
 simp_all
def At.bnd(h:At X aa ae F st (bnd f k) P):At X aa ae F st f (λa st1=>At X aa ae F st1 (k a) P):=by
 obtain⟨r,h1,h2⟩:=h;obtain⟨q,e1,e2⟩:=aQ h1;refine⟨q,e1,?_⟩
 match q,e2 with
 | (.ok a,s1),e2=>exact⟨r,e2,h2⟩
 | (.ex m C,s1),e2=>cases e2;exact h2
def At.cC(h:At X aa ae F st (cC a) P):P a st:=by
 obtain⟨r,h1,h2⟩:=h;cases h1;exact h2
def At.hp(h:At X aa ae F st (hp g) P):∃a,g st.h=some a/\P a st:=by
 obtain⟨r,h1,h2⟩:=h;obtain⟨a,e1,e2⟩:=aR h1;subst e2;exact⟨a,e1,h2⟩
def At.jZ(h:At X aa ae F st (jZ g) P):∃a,g=some a/\P a st:=by
 obtain⟨r,h1,h2⟩:=h;obtain⟨a,e1,e2⟩:=aR h1;subst e2;exact⟨a,e1,h2⟩
def Tx(X:Cx)(aa:Hp)(ae:Fz)(rl:Fz->α->β->Prop)(F:Fz)(st:cq)(f:Gx α)(σ:St)(Q:β->Hp->Prop):Prop :=
 At X aa ae F st f λa st'=>∀b H' F',Rep X.K aa ae F' st' σ H'->Gr F F'->rl F' a b->Q b H'
def tX(X:Cx)(aa:Hp)(ae:Fz)(rl:Fz->α->β->Prop)(f:Gx α):St->Hp->(β->Hp->Prop)->Prop:=λσ H Q=>∃F st,Rep X.K aa ae F st σ H/\Tx X aa ae rl F st f σ Q
def Tx.mono(h:Tx X aa ae rl F st f σ Q)(g:Gr F F1)(i:∀b H',Q b H'->Q' b H'):Tx X aa ae rl F1 st f σ Q' :=
 At.imp h g λa st' q b H' F' R s r=>i _ _ (q b H' F' R (g.trans s) r)
def Tx.bnd(h:Tx X aa ae rl' F st (bnd f k) σ Q)
  (i:∀a b F1 st1 H1,Rep X.K aa ae F1 st1 σ H1->Gr F F1->rl F1 a b->Tx X aa ae rl' F1 st1 (k a) σ Q->Q' b H1):Tx X aa ae rl F st f σ Q' :=
 At.imp (At.bnd h) (Gr.refl F) λa st1 q b H1 F1 R1 g1 r1=>i a b F1 st1 H1 R1 g1 r1 (Tx.mono (q) g1 λ_ _ z=>z)
def Tx.cC(h:Tx X aa ae rl F st (cC a) σ Q):∀b H' F',Rep X.K aa ae F' st σ H'->Gr F F'->rl F' a b->Q b H':=At.cC h
def Tx.hp(h:Tx X aa ae rl F st (hp g) σ Q):∃a,g st.h=some a/\∀b H' F',Rep X.K aa ae F' st σ H'->Gr F F'->rl F' a b->Q b H':=At.hp h
def Tx.jZ(h:Tx X aa ae rl F st (jZ g) σ Q):∃a,g=some a/\∀b H' F',Rep X.K aa ae F' st σ H'->Gr F F'->rl F' a b->Q b H':=At.jZ h
end
abbrev rB:Fz->Bool->Bool->Prop:=λ_ a b=>a=b
abbrev tE(X:Cx)(aa:Hp)(ae:Fz)(f:Gx PV):TE:=tX X aa ae (bB X.K) f
abbrev tT(X:Cx)(aa:Hp)(ae:Fz)(f:Gx Bool):TT:=tX X aa ae rB f
abbrev tA(X:Cx)(aa:Hp)(ae:Fz)(f:Gx (List PV)):TA:=tX X aa ae (aw X.K) f
section
variable {X:Cx} {aa:Hp} {ae:Fz} {a b c e:Expr} {es rest:List Expr} {fa fb fc:Gx PV} {ga gb:Gx Bool} {ts:Gx (List PV)} {pos:Pos}
noncomputable def rd(i:Nat):Gx PV:=λst=>(st.ρ[i]?).join.map λp=>(.ok p,st)
def T6(i:Nat)(h:PE X (.Name x pos) (N1 i)):PE X (.Name x pos) (tE X aa ae (rd i)):=h.imp <| by
 rintro σ H Q ⟨F,st,R,r,h1,h2⟩
 obtain⟨p,e1,e2⟩:=aR h1;subst e2;cases z:st.ρ[i]? with
 | none=>rw[z]at e1;cases e1
 | some o =>
  rw[z]at e1;cases o with
  | none=>cases e1
  | some p' =>
   cases e1;obtain⟨v,h3,h4⟩:=R.l.av i p z;exact⟨v,h3,h2 v H F R (Gr.refl F) h4⟩
def xq(h:PE X e (tC v))(hb:∀F,bB X.K F p v):PE X e (tE X aa ae (cC p)):=h.imp (by rintro σ H Q ⟨F,st,R,q⟩;exact q.cC v H F R (Gr.refl F) (hb F))
def T7{j pos}:PE X (.Constant (.int i) j pos) (tE X aa ae (cC (.int i))):=xq N2 λ_=>aC.mpr rfl
def Ys{j pos}:PE X (.Constant (.bool i) j pos) (tE X aa ae (cC (.bl i))):=xq S6 λ_=>br.mpr rfl
def T8{j pos}:PE X (.Constant .none j pos) (tE X aa ae (cC .aP)):=xq N4 λ_=>cV.mpr rfl
def T9{j pos}:PE X (.Constant (.str i) j pos) (tE X aa ae (cC (.str i))):=xq N5 λ_=>bN.mpr rfl
abbrev G2:=List ah->PV->PV->Option PV
def rT(K:W.Frag)(g:G2):R2:=λx y H Q=>∃aa ae F st τ pa pb p,g st.h pa pb=some p/\Rep K aa ae F st τ H/\bB K F pa x/\bB K F pb y/\∀v H' F',Rep K aa ae F' st τ H'->Gr F F'->bB K F' p v->Q v H'
abbrev oY(X:Cx)(f:Value->Value->Sem Value)(g:G2):Prop:=OpR X f (rT X.K g)
def op2(g:G2)(fa fb:Gx PV):Gx PV:=bnd fa λx=>bnd fb λy=>hp λh=>g h x y
def oZ(h:tE X aa ae (op2 g fa fb) σ H Q):Th (rT X.K g) (tE X aa ae fa) (tE X aa ae fb) σ H Q:=by
 obtain⟨F,st,R,h⟩:=h;refine⟨F,st,R,h.bnd λp v F1 st1 H1 R1 g1 b1 h1=>⟨F1,st1,R1,h1.bnd λq w F2 dW H2 R2 g2 b2 h2=>?_⟩⟩
 obtain⟨o,e,z⟩:=h2.hp;exact⟨aa,ae,F2,dW,σ,p,q,o,e,R2,b1.mono g2,b2,z⟩
def Yt(ho:oY X (binaryOp op) g)(ha:PE X a (tE X aa ae fa))(hb:PE X b (tE X aa ae fb)):PE X (.BinOp a op b pos) (tE X aa ae (op2 g fa fb)):=(Ti ho ha hb).imp λ_ _ _ h=>oZ h
def Ua(ho:oY X (compareOp op) g)(ha:PE X a (tE X aa ae fa))(hb:PE X b (tE X aa ae fb))(hm:behindInMarks op b=false):PE X (.Compare a [op] [b] pos) (tE X aa ae (op2 g fa fb)):=(J4 ho ha hb hm).imp λ_ _ _ h=>oZ h
noncomputable def F7:PV->Option Bool | .bl b=>some b | _=>none
def qw{b:Bool}(h:F7 p=some b):p=.bl b:=by
 cases p<;>first | (cases h;rfl) | cases h
def toB(f:Gx PV):Gx Bool:=bnd f λp=>jZ (F7 p)
def toB_imp(h:tT X aa ae (toB fa) σ H Q):tE X aa ae fa σ H λv H1=>∃k,v=.bl k/\Q k H1:=by
 obtain⟨F,st,R,h⟩:=h;refine⟨F,st,R,h.bnd λp v F1 st1 H1 R1 g1 b1 h1=>?_⟩
 obtain⟨k,e,z⟩:=h1.jZ;rw[qw e]at b1;exact⟨k,br.mp b1,z k H1 F1 R1 (Gr.refl _) rfl⟩
def Ub(ho:oY X (compareOp op) g)(ha:PE X a (tE X aa ae fa))(hb:PE X b (tE X aa ae fb))(hm:behindInMarks op b=false):PT X (.Compare a [op] [b] pos) (tT X aa ae (toB (op2 g fa fb))) :=
 (J5 ho ha hb hm).imp λ_ _ _ h=>oZ (toB_imp h)
def chain(g g':G2)(fa fb fc:Gx PV):Gx PV:=bnd fa λx=>bnd fb λy=>bnd (hp λh=>(g h x y).bind F7) λk=>if k=true then bnd fc λz=>hp λh=>g' h y z else cC (.bl false)
def tq(h:tE X aa ae (chain g g' fa fb fc) σ H Q):zX (rT X.K g) (rT X.K g') (tE X aa ae fa) (tE X aa ae fb) (tE X aa ae fc) σ H Q:=by
 obtain⟨F,st,R,h⟩:=h;refine⟨F,st,R,h.bnd λp v F1 st1 H1 R1 g1 b1 h1=>⟨F1,st1,R1,h1.bnd λq w F2 dW H2 R2 g2 b2 h2=>?_⟩⟩
 obtain⟨k,e,z⟩:=At.hp (At.bnd h2);obtain⟨o,e1,e2⟩:=aQ e;rw[qw e2]at e1;refine⟨aa,ae,F2,dW,σ,p,q,_,e1,R2,b1.mono g2,b2,λu H3 F3 R3 g3 b3=>⟨k,br.mp b3,?_⟩⟩
 cases k with
 | true =>
  have z:Tx X aa ae (bB X.K) F2 dW (bnd fc λz=>hp λh=>g' h q z) σ Q:=z
  refine⟨F3,dW,R3,(z.mono g3 λ_ _ y=>y).bnd λt o F4 Jo H4 R4 g4 b4 h4=>?_⟩
  obtain⟨o,e,z⟩:=h4.hp;exact⟨aa,ae,F4,Jo,σ,q,t,o,e,R4,b2.mono (g3.trans g4),b4,z⟩
 | false=>exact Tx.cC z _ H3 F3 R3 g3 (br.mpr rfl)
def Kp(ho:oY X (compareOp op) g)(qa:oY X (compareOp wO) g')(ha:PE X a (tE X aa ae fa))(hb:PE X b (tE X aa ae fb))(hc:PE X c (tE X aa ae fc))
  (hm:lastMarks [op,wO] [b,c]=false):PE X (.Compare a [op,wO] [b,c] pos) (tE X aa ae (chain g g' fa fb fc)):=(FF ho qa ha hb hc hm).imp λ_ _ _ h=>tq h
end
def da(h:List ah):PV->Option (Kd×List PV)
 | .nd k ps=>some (k,ps)
 | .ref n=>(h[n]?).bind λc=>if live c=true then some (c.k,c.ps)else none
 | _=>none
def bU{α:Type}{c:Prop} [Decidable c] {x:Option α} {y:α} (h:(if c then x else none)=some y):c/\x=some y:=by
 grind
def aB{α:Type}{c:Prop} [Decidable c] {x y:α} (h:(if c then some x else none)=some y):c/\x=y:=by
 grind
section
variable {K:W.Frag} {aa H:Hp} {ae F:Fz} {st:cq} {σ:St}
def Rep.at(R:Rep K aa ae F st σ H){p:PV}{k:Kd}{ps:List PV}{v:V}(e:da st.h p=some (k,ps))(b:bB K F p v):∃a vs,v=.ref a/\lb K F.F H a false k vs/\aw K F ps vs:=by
 cases p with
 | nd k' wQ =>
  cases e;obtain⟨a,vs,h1,h2,h3⟩:=iO.mp b;exact⟨a,vs,h1,h2.to (cA.refl _) (λo q=>R.sub _ _ q) id,h3⟩
 | ref n =>
  obtain⟨c,e1,e2⟩:=aQ e;obtain⟨hl,e3⟩:=aB e2;cases e3;obtain⟨a,h1,h2⟩:=dq.mp b;obtain⟨_,vs,h3,h4⟩:=R.c.cell n c a e1 h1 hl;exact⟨a,vs,h2,h3.to (cA.refl _) (λo q=>q) (λz=>by cases z),h4⟩
 | _=>cases e
def F8(h:List ah)(p:PV):Option (List PV):=match da h p with
 | some (.ak,ps)=>some ps
 | some (.lst,ps)=>some ps
 | _=>none
def Rep.seq(R:Rep K aa ae F st σ H){p:PV}{ps:List PV}{v:V}(e:F8 st.h p=some ps)(b:bB K F p v):∃a vs,v=.ref a/\(gZ K H a vs\/iZ K H a vs)/\aw K F ps vs:=by
 unfold F8 at e;split at e
 ·rename_i z;cases e;obtain⟨a,vs,h1,h2,h3⟩:=R.at z b;exact⟨a,vs,h1,.inl h2.2,h3⟩
 ·rename_i z;cases e;obtain⟨a,vs,h1,h2,h3⟩:=R.at z b;exact⟨a,vs,h1,.inr h2,h3⟩
 ·cases e
def lq(h:List ah):PV->Option Bool
 | .aP=>some false
 | .bl b=>some b
 | .int i=>some (i != 0)
 | p=>match da h p with
  | some (.ak,ps)=>some !ps.isEmpty
  | some (.lst,ps)=>some !ps.isEmpty
  | some (.gB false _,ps)=>some !ps.isEmpty
  | _=>none
def qy{ps:List PV}{vs:List V}(h:aw K F ps vs):ps.isEmpty=vs.isEmpty:=by
 cases ps with
 | nil=>rw[h.cH];rfl
 | cons p ps=>obtain⟨v,r,rfl,_,_⟩:=h.cm;rfl
def Rep.tru(R:Rep K aa ae F st σ H){p:PV}{k:Bool}{v:V}(e:lq st.h p=some k)(b:bB K F p v):J6 K v H k:=by
 have more:(match da st.h p with
  | some (.ak,ps)=>some !ps.isEmpty
  | some (.lst,ps)=>some !ps.isEmpty
  | some (.gB false _,ps)=>some !ps.isEmpty
  | _=>none)=some k->J6 K v H k:=λe=>by
  split at e
  ·rename_i z;cases e;obtain⟨a,vs,rfl,h2,h3⟩:=R.at z b;exact .inr (.inl ⟨vs,h2.2,by rw[qy h3]⟩)
  ·rename_i z;cases e;obtain⟨a,vs,rfl,h2,h3⟩:=R.at z b;exact .inl ⟨vs,iZ.sq h2,by rw[qy h3]⟩
  ·rename_i z;cases e;obtain⟨a,vs,rfl,⟨kvs,h2,_,h4⟩,h3⟩:=R.at z b;refine .inr (.inr ⟨kvs,h2,?_⟩);rw[qy h3,<-h4,List.isEmpty_map]
  ·cases e
 cases p with
 | aP=>rw[cV.mp b];exact(bE e).symm
 | bl c=>rw[br.mp b];exact(bE e).symm
 | int i=>rw[aC.mp b];exact(bE e).symm
 | str x=>exact more e
 | ref n=>exact more e
 | fn x=>exact more e
 | nd k ps=>exact more e
end
section
variable {X:Cx} {aa:Hp} {ae:Fz} {a b c e:Expr} {es rest:List Expr} {fa fb fc:Gx PV} {ga gb:Gx Bool} {ts:Gx (List PV)} {pos:Pos}
def sk(f:Gx PV):Gx Bool:=bnd f λp=>hp λh=>lq h p
def Uc(h:PE X e (tE X aa ae fa))(he:∀i6,isTrue e X.env i6=(do let v <-i6;standAt e.pos;holding [v] (truthy v))):PT X e (tT X aa ae (sk fa)) :=
 (FI h he).imp λσ H Q ⟨F,st,R,h⟩=>⟨F,st,R,h.bnd λp v F1 st1 H1 R1 g1 b1 h1=>by
  obtain⟨k,e,z⟩:=h1.hp;exact⟨k,R1.tru e b1,z k H1 F1 R1 (Gr.refl _) rfl⟩⟩
def Kq{op wO:CmpOp}{g g':G2}(ho:oY X (compareOp op) g)(qa:oY X (compareOp wO) g')(ha:PE X a (tE X aa ae fa))(hb:PE X b (tE X aa ae fb))(hc:PE X c (tE X aa ae fc))
  (hm:lastMarks [op,wO] [b,c]=false):PT X (.Compare a [op,wO] [b,c] pos) (tT X aa ae (toB (chain g g' fa fb fc))):=(FG ho qa ha hb hc hm).imp λ_ _ _ h=>tq (toB_imp h)
def oB{α:Type}(gc:Gx Bool)(f g:Gx α):Gx α:=bnd gc λx=>if x=true then f else g
def vv{α β:Type}{rl:Fz->α->β->Prop}{f g:Gx α}{σ:St}{H:Hp}{Q:β->Hp->Prop}(h:tX X aa ae rl (oB ga f g) σ H Q):tT X aa ae ga σ H λc H1=>if c=true then tX X aa ae rl f σ H1 Q else tX X aa ae rl g σ H1 Q:=by
 obtain⟨F,st,R,h⟩:=h;refine⟨F,st,R,h.bnd λx y F1 st1 H1 R1 g1 b1 h1=>?_⟩
 cases b1;cases x with
 | true=>exact⟨F1,st1,R1,h1⟩
 | false=>exact⟨F1,st1,R1,h1⟩
def vw{α β:Type}{rl:Fz->α->β->Prop}{a:α}{b:β}{σ:St}{H:Hp}{Q:β->Hp->Prop}(h:tX X aa ae rl (cC a) σ H Q)(hb:∀F,rl F a b):Q b H:=by
 obtain⟨F,st,R,h⟩:=h;exact h.cC b H F R (Gr.refl _) (hb F)
def xt{P P' Q Q':Prop}{c:Bool}(h:if c=true then P else Q)(h1:P->P')(h2:Q->Q'):if c=true then P' else Q':=by
 grind
def BJ{α β:Type}{rl:Fz->α->β->Prop}{f:Gx α}{σ:St}{H:Hp}{Q Q':β->Hp->Prop}(h:tX X aa ae rl f σ H Q)(i:∀b H',Q b H'->Q' b H'):tX X aa ae rl f σ H Q':=let ⟨F,st,R,h⟩:=h;⟨F,st,R,h.mono (Gr.refl _) i⟩
def Ud(ha:PT X a (tT X aa ae ga))(hb:PW X (.BoolOp .And (b::rest) pos) (tT X aa ae gb)):PW X (.BoolOp .And (a::b::rest) pos) (tT X aa ae (oB ga gb (cC false))) :=
 (N7 ha hb).imp λσ H Q h=>BJ (vv h) λ_ _ z=>xt z id λz=>vw z λ_=>rfl
def Yu(ha:PT X a (tT X aa ae ga))(hb:PW X (.BoolOp .Or (b::rest) pos) (tT X aa ae gb)):PW X (.BoolOp .Or (a::b::rest) pos) (tT X aa ae (oB ga (cC true) gb)) :=
 (S7 ha hb).imp λσ H Q h=>BJ (vv h) λ_ _ z=>xt z (λz=>vw z λ_=>rfl) id
def Kr(f:Gx Bool):Gx Bool:=bnd f λx=>cC !x
def Ue(ha:PT X a (tT X aa ae ga)):PT X (.UnaryOp .Not a pos) (tT X aa ae (Kr ga)):=(N8 ha).imp λσ H Q ⟨F,st,R,h⟩=>⟨F,st,R,h.bnd λx y F1 st1 H1 R1 g1 b1 h1=>by
 cases b1;exact h1.cC _ H1 F1 R1 (Gr.refl _) rfl⟩
def OQ(fa fb:Gx PV):Gx PV:=bnd fa λx=>bnd (hp λh=>lq h x) λk=>if k=true then fb else cC x
def WS(fa fb:Gx PV):Gx PV:=bnd fa λx=>bnd (hp λh=>lq h x) λk=>if k=true then cC x else fb
def F9{f g:PV->Gx PV}{af:List (Addr×Obj)}{s:Shared}{σ:St}{H:Hp}{Q:VK}(ha:PE X a (tE X aa ae fa))(I:Inv X af σ H s)
  (h:tE X aa ae (bnd fa λx=>bnd (hp λh=>lq h x) λk=>if k=true then f x else g x) σ H Q) :
  wpAny (model X.prog X.w) X.A (eval a X.env) (λv s1=>wpAny (model X.prog X.w) X.A (truthy v) (λk s2=>∃p xv F1 st1 H1,Inv X af σ H1 s2/\RelV xv v/\Rep X.K aa ae F1 st1 σ H1/\bB X.K F1 p xv/\Tx X aa ae (bB X.K) F1 st1 (if k=true then f p else g p) σ Q) X.xe s1) X.xe s:=by
 obtain⟨F,st,R,h⟩:=h;refine thn (ha af s σ H (λv H1=>∃F1 st1 p,Rep X.K aa ae F1 st1 σ H1/\bB X.K F1 p v/\Tx X aa ae (bB X.K) F1 st1 (bnd (hp λh=>lq h p) λk=>if k=true then f p else g p) σ Q) I
  ⟨F,st,R,h.bnd λp v F1 st1 H1 R1 g1 b1 h1=>⟨F1,st1,p,R1,b1,h1⟩⟩) λv s1 ⟨xv,H1,I1,r1,F1,st1,p,R1,b1,h1⟩=>?_
 obtain⟨k,e,z⟩:=At.hp (At.bnd h1);exact thn (FH af s1 σ H1 xv v (λk' H'=>k'=k/\H'=H1) I1 r1 ⟨k,R1.tru e b1,rfl,rfl⟩) <| by
  rintro c s2 ⟨H2,I2,ec,eh⟩
  subst ec eh;exact⟨p,xv,F1,st1,H2,I2,r1,R1,b1,z⟩
def Yv(ha:PE X a (tE X aa ae fa))(hb:PE X (.BoolOp .Or (b::rest) pos) (tE X aa ae fb)):PE X (.BoolOp .Or (a::b::rest) pos) (tE X aa ae (WS fa fb)):=λaf s σ H Q I h =>
 BoolOp_or (thn (F9 ha I h) λv s1 z=>thn z <| by
  rintro k s2 ⟨p,xv,F1,st1,H1,I1,r1,R1,b1,z⟩
  cases k with
  | true=>exact⟨xv,H1,I1,r1,Tx.cC (z) _ H1 F1 R1 (Gr.refl _) b1⟩
  | false=>exact hb af s2 σ H1 Q I1 ⟨F1,st1,R1,z⟩)
def Ug(ha:PE X a (tE X aa ae fa))(hb:PE X (.BoolOp .And (b::rest) pos) (tE X aa ae fb)):PE X (.BoolOp .And (a::b::rest) pos) (tE X aa ae (OQ fa fb)):=λaf s σ H Q I h =>
 BoolOp_and (thn (F9 ha I h) λv s1 z=>thn z <| by
  rintro k s2 ⟨p,xv,F1,st1,H1,I1,r1,R1,b1,z⟩
  cases k with
  | false=>exact⟨xv,H1,I1,r1,Tx.cC (z) _ H1 F1 R1 (Gr.refl _) b1⟩
  | true=>exact hb af s2 σ H1 Q I1 ⟨F1,st1,R1,z⟩)
def OR(fa:Gx PV):Gx PV:=bnd (toB fa) λx=>cC (.bl !x)
def Uh(ha:PE X a (tE X aa ae fa)):PE X (.UnaryOp .Not a pos) (tE X aa ae (OR fa)):=(N9 ha).imp λσ H Q ⟨F,st,R,h⟩ =>
 toB_imp ⟨F,st,R,h.bnd λx y F1 st1 H1 R1 g1 b1 h1=>by
  cases b1;exact h1.cC _ H1 F1 R1 (Gr.refl _) (br.mpr rfl)⟩
def Yw(hc:PT X c (tT X aa ae ga))(ha:PE X a (tE X aa ae fa))(hb:PE X b (tE X aa ae fb)):PE X (.IfExp c a b pos) (tE X aa ae (oB ga fa fb)):=(Fq hc ha hb).imp λ_ _ _ h=>vv h
def i7(f:Gx PV)(g:Gx (List PV)):Gx (List PV):=bnd f λx=>bnd g λxs=>cC (x::xs)
def Ui:PA X [] (tA X aa ae (cC [])):=qk.imp λσ H Q h=>vw h λ_=>.nil
def OS(ha:PE X e (tE X aa ae fa))(hr:PA X es (tA X aa ae ts))(hs:starEach (e::es) X.env=(false,eval e X.env)::starEach es X.env:=by rfl):PA X (e::es) (tA X aa ae (i7 fa ts)) :=
 (g9 ha hr hs).imp (by rintro σ H Q ⟨F,st,R,h⟩;exact⟨F,st,R,h.bnd λp v F1 st1 H1 R1 g1 b1 h1=>⟨F1,st1,R1,h1.bnd λps vs F2 dW H2 R2 g2 b2 h2=>h2.cC _ H2 F2 R2 (Gr.refl _) (.cons (b1.mono g2) b2)⟩⟩)
noncomputable def gX:Nat:=4000000
def eQ{n:Nat}(h:n<=gX):n<=sizeLine:=aX h (by decide)
def small(ps:List PV)(p:PV):Option PV:=if ps.length<=gX then some p else none
def OT(k:Kd)(ts:Gx (List PV)):Gx PV:=bnd ts λps=>jZ (small ps (.nd k ps))
def Uj{x1}(h:PA X es (tA X aa ae ts)):PE X (.Tuple es x1 pos) (tE X aa ae (OT .ak ts)):=(OD h).imp λσ H Q ⟨F,st,R,h⟩=>⟨F,st,R,h.bnd λps vs F1 st1 H1 R1 g1 b1 h1=>by
 obtain⟨p,e,z⟩:=h1.jZ;obtain⟨hl,rfl⟩:=aB e;refine⟨eQ (by rw[<-b1.length];exact hl),λa hn=>?_⟩
 obtain⟨R2,s2⟩:=R1.laid (.ak vs) hn;exact z _ _ _ R2 s2 (bX.mpr ⟨a,vs,rfl,gZ.of ay,b1.mono s2⟩)⟩
def Uk(h:PA X es (tA X aa ae ts)):PE X (.List es pos) (tE X aa ae (OT .lst ts)):=(FL h).imp λσ H Q ⟨F,st,R,h⟩=>⟨F,st,R,h.bnd λps vs F1 st1 H1 R1 g1 b1 h1=>by
 obtain⟨p,e,z⟩:=h1.jZ;obtain⟨hl,rfl⟩:=aB e;refine⟨eQ (by rw[<-b1.length];exact hl),λa hn=>?_⟩
 obtain⟨R2,s2⟩:=R1.laid (.lst vs) hn;exact z _ _ _ R2 s2 (dr.mpr ⟨a,vs,rfl,iZ.of ay,b1.mono s2⟩)⟩
noncomputable def j8(c:ah):Gx PV:=λst=>some (.ok (.ref st.h.length),⟨st.ρ,st.h++[c]⟩)
def Tx.j8{c:ah}{F:Fz}{st:cq}{σ:St}{H:Hp}{Q:VK}{p:Addr}{o:HO}{vs:List V}(h:Tx X aa ae (bB X.K) F st (j8 c) σ Q)(R:Rep X.K aa ae F st σ H)(hp:H p=none)
  (hn:lb X.K F.F (cY H p o) p true c.k vs) (hb:aw X.K F c.ps vs):Q (.ref p) (cY H p o):=by
 obtain⟨r,h1,h2⟩:=h;cases h1;obtain⟨C,g,hm⟩:=R.c.alloc hp hn hb;exact h2 _ _ _ ⟨C,R.l.mono g⟩ g (dq.mpr ⟨p,hm,rfl⟩)
def Dz(ts:Gx (List PV)):Gx PV:=bnd ts λps=>bnd (jZ (small ps .aP)) λ_=>j8 ⟨.lst,ps⟩
def OU(h:PA X es (tA X aa ae ts)):PE X (.List es pos) (tE X aa ae (Dz ts)):=(FL h).imp λσ H Q ⟨F,st,R,h⟩=>⟨F,st,R,h.bnd λps vs F1 st1 H1 R1 g1 b1 h1=>by
 obtain⟨p,e,z⟩:=At.jZ (At.bnd h1);obtain⟨hl,rfl⟩:=aB e;exact⟨eQ (by rw[<-b1.length];exact hl),λa hn=>Tx.j8 z R1 hn ay b1⟩⟩
end
inductive dw where
 | nx | bk | ct | rt (p:PV)
def xu(X:Cx)(aa:Hp)(ae F:Fz)(D:xc):dw->cq->Prop
 | .nx,st=>∀F' bC H',Rep X.K aa ae F' st bC H'->Gr F F'->D.nx bC H'
 | .bk,st=>∀F' bC H',Rep X.K aa ae F' st bC H'->Gr F F'->D.bk bC H'
 | .ct,st=>∀F' bC H',Rep X.K aa ae F' st bC H'->Gr F F'->D.ct bC H'
 | .rt p,st=>∀v F' H',lI X.K aa ae F' st.h H'->Gr F F'->bB X.K F' p v->D.rt v H'
def Sa(X:Cx)(aa:Hp)(ae F:Fz)(D:xc)(st:cq)(f:Gx dw):Prop:=At X aa ae F st f (xu X aa ae F D)
def tS(X:Cx)(aa:Hp)(ae:Fz)(f:Gx dw):TS:=λD σ H=>∃F st,Rep X.K aa ae F st σ H/\Sa X aa ae F D st f
section
variable {X:Cx} {aa:Hp} {ae F F1:Fz} {D:xc} {st:cq} {α β:Type}
theorem xu.mono(g:Gr F F1):∀(o:dw) (st:cq),xu X aa ae F D o st->xu X aa ae F1 D o st
 | .nx,_,h=>λF' bC H' R z=>h F' bC H' R (g.trans z)
 | .bk,_,h=>λF' bC H' R z=>h F' bC H' R (g.trans z)
 | .ct,_,h=>λF' bC H' R z=>h F' bC H' R (g.trans z)
 | .rt _,_,h=>λv F' H' R z=>h v F' H' R (g.trans z)
def Sa.mono(h:Sa X aa ae F D st f)(g:Gr F F1):Sa X aa ae F1 D st f:=At.imp h g (xu.mono g)
def Sa.bnd(h:Sa X aa ae F D st (bnd f k))
  (i:∀a b F1 st1 H1,Rep X.K aa ae F1 st1 σ H1->Gr F F1->rl F1 a b->Sa X aa ae F1 D st1 (k a)->Q b H1):Tx X aa ae rl F st f σ Q :=
 At.imp (At.bnd h) (Gr.refl F) λa st1 q b H1 F1 R1 g1 r1=>i a b F1 st1 H1 R1 g1 r1 (Sa.mono q g1)
end
section
variable {X:Cx} {aa:Hp} {ae:Fz} {a b c e tg iter:Expr} {es:List Expr} {fe:Gx PV} {gc:Gx Bool} {pos:Pos} {s:Stmt} {ss body:List Stmt} {f g fb:Gx dw}
def onK(g:Gx dw):dw->Gx dw
 | .nx=>g
 | .bk=>cC .bk
 | .ct=>cC .ct
 | .rt p=>cC (.rt p)
def xw(f g:Gx dw):Gx dw:=bnd f (onK g)
def OW:PSs X [] (tS X aa ae (cC .nx)):=JQ.imp (by rintro D σ H ⟨F,st,R,h⟩;exact At.cC h F σ H R (Gr.refl F))
def Ks(h1:PS X s (tS X aa ae f))(h2:PSs X ss (tS X aa ae g)):PSs X (s::ss) (tS X aa ae (xw f g)):=(Fs h1 h2).imp λD σ H ⟨F,st,R,h⟩ =>
 ⟨F,st,R,At.imp (At.bnd h) (Gr.refl F) λo st1 q=>match o,q with
  | .nx,q=>λF1 iP H1 R1 g1=>⟨F1,st1,R1,Sa.mono q g1⟩
  | .bk,q=>λF' bC H'=>At.cC q F' bC H'
  | .ct,q=>λF' bC H'=>At.cC q F' bC H'
  | .rt p,q=>λv F' H'=>At.cC q v F' H'⟩
def OX(h1:PS X s (tS X aa ae f)):PSs X [s] (tS X aa ae f):=JR h1
def OY:PS X (.Pass pos) (tS X aa ae (cC .nx)):=JS.imp (by rintro D σ H ⟨F,st,R,h⟩;exact At.cC h F σ H R (Gr.refl F))
def Kt:PS X (.Break pos) (tS X aa ae (cC .bk)):=Ft.imp (by rintro D σ H ⟨F,st,R,h⟩;exact At.cC h F σ H R (Gr.refl F))
def OZ:PS X (.Continue pos) (tS X aa ae (cC .ct)):=xh.imp (by rintro D σ H ⟨F,st,R,h⟩;exact At.cC h F σ H R (Gr.refl F))
def Ga(fe:Gx PV):Gx dw:=bnd fe λp=>cC (.rt p)
def MN(he:PE X e (tE X aa ae fe)):PS X (.Return (some e) pos) (tS X aa ae (Ga fe)):=(Oc he).imp (by rintro D σ H ⟨F,st,R,h⟩;exact⟨F,st,R,h.bnd λp v F1 st1 H1 R1 g1 b1 h1=>At.cC h1 v F1 H1 R1.c (Gr.refl _) b1⟩)
def O0:PS X (.Return none pos) (tS X aa ae (cC (.rt .aP))):=JU.imp (by rintro D σ H ⟨F,st,R,h⟩;exact At.cC h _ F H R.c (Gr.refl _) (cV.mpr rfl))
def Yx(hc:PT X c (tT X aa ae gc))(ha:PSs X p (tS X aa ae f))(hb:PSs X r (tS X aa ae g)):PS X (.If c p r pos) (tS X aa ae (oB gc f g)) :=
 (Tc hc ha hb).imp λD σ H ⟨F,st,R,h⟩=>⟨F,st,R,h.bnd λx y F1 st1 H1 R1 g1 b1 h1=>by
  cases b1;cases x with
  | true=>exact⟨F1,st1,R1,h1⟩
  | false=>exact⟨F1,st1,R1,h1⟩⟩
def BK(fe:Gx PV):Gx dw:=bnd fe λ_=>cC .nx
def O1(he:PE X e (tE X aa ae fe))(hs:swapsWith e none pos.line X.env=pure false:=by rfl):PS X (.Expr e pos) (tS X aa ae (BK fe)):=(JT he hs).imp λD σ H ⟨F,st,R,h⟩ =>
 ⟨F,st,R,h.bnd λp v F1 st1 H1 R1 g1 b1 h1=>At.cC h1 F1 σ H1 R1 (Gr.refl _)⟩
abbrev Tg:=PV->cq->Option cq
abbrev Si:=List PV->cq->Option cq
def tG(K:W.Frag)(aa:Hp)(ae:Fz)(g:Tg):TG:=λv σ H Q=>∃F st p st',Rep K aa ae F st σ H/\bB K F p v/\g p st=some st'/\∀bC H' F',Rep K aa ae F' st' bC H'->Gr F F'->Q bC H'
def Ul(K:W.Frag)(aa:Hp)(ae:Fz)(g:Si):ME:=λvs σ H Q=>∃F st ps st',Rep K aa ae F st σ H/\aw K F ps vs/\g ps st=some st'/\∀bC H' F',Rep K aa ae F' st' bC H'->Gr F F'->Q bC H'
noncomputable def cS(i:Nat):Tg:=λp st=>if i<st.ρ.length then some ⟨st.ρ.set i (some p),st.h⟩else none
def Lc.set{K:W.Frag}(L:Lc K F ρ σ)(hi:i<ρ.length)(hb:bB K F p v):Lc K F (ρ.set i (some p)) (σ.set i (some v)) where
 av:=λj q e=>by
  by_cases h:i=j
  ·subst h;rw[uE hi]at e;cases e;exact⟨v,uE (by rw[<-L.len];exact hi),hb⟩
  ·rw[aL h]at e;rw[aL h];exact L.av j q e
 len:=by rw[iq,iq];exact L.len
def O4(i:Nat)(h:PG X (.Name x pos) (gName i)):PG X (.Name x pos) (tG X.K aa ae (cS i)):=h.imp <| by
 rintro v σ H Q ⟨F,st,p,st',R,hb,hf,q⟩
 obtain⟨hi,rfl⟩:=aB hf;exact q _ _ _ ⟨R.c,R.l.set hi hb⟩ (Gr.refl F)
noncomputable def DA:Si:=λps st=>match ps with | []=>some st | _=>none
noncomputable def qz(g:Tg)(r:Si):Si:=λps st=>match ps with | p::ps=>(g p st).bind λst'=>r ps st' | []=>none
def O5:PGs X [] (Ul X.K aa ae DA):=JW.imp <| by
 rintro vs σ H Q ⟨F,st,ps,st',R,hb,hf,q⟩
 cases ps with
 | nil=>cases hf;exact⟨hb.cH,q _ _ _ R (Gr.refl F)⟩
 | cons _ _=>cases hf
def Ku(h1:PG X e (tG X.K aa ae t))(h2:PGs X es (Ul X.K aa ae u))(hs:(assignEach (e::es) X.env).map (·.2)=assign e X.env::(assignEach es X.env).map (·.2):=by rfl) :
  PGs X (e::es) (Ul X.K aa ae (qz t u)):=(Fw h1 h2 hs).imp <| by
 rintro vs σ H Q ⟨F,st,ps,st',R,hb,hf,q⟩
 cases ps with
 | nil=>cases hf
 | cons p ps =>
  obtain⟨v,r,rfl,b1,b2⟩:=hb.cm;obtain⟨st1,e1,e2⟩:=aQ hf;exact⟨v,r,rfl,F,st,p,st1,R,b1,e1,λiP H1 F1 R1 s1=>⟨F1,st1,ps,st',R1,b2.mono s1,e2,λBB H2 F2 R2 s2=>q BB H2 F2 R2 (s1.trans s2)⟩⟩
def _root_.L2.Inv.qA{s:Shared}{a:Addr}(I:Inv X af σ H s)(h:iZ X.K H a xs):∃(au:List Value) (n:Nat),Vals xs au/\s.heap.get? a=some {cls:=.type "list",data:=.seq au.toArray n}/\xs.length<=sizeLine:=by
 rcases h with h | ⟨au,n,e,z,r⟩
 ·obtain⟨z,au,n,r,e⟩:=h.ok I.hok;exact⟨au,n,r,e,z⟩
 ·exact⟨au,n,r,I.ou a _ e,by rw[r.length];exact z⟩
def O6{es:List Expr}{k:Nat}{t:ME}{n:Nat}(hc:X.calm=true)(h:PGs X es t)
 (hn:(assignEach es X.env).length=n:=by rfl) (rW:(assignEach es X.env).findIdx? (·.1)=none:=by rfl):PG X (.Tuple es k pos) (λv σ H Q=>∃a xs,v=.ref a/\iZ X.K H a xs/\xs.length=n/\t xs σ H Q):=by
 intro af s σ H v u Q I r hw;obtain⟨a,xs,e1,hq,hl,hw⟩:=hw;subst e1;cases r;obtain⟨au,m,rv,e,hz⟩:=I.qA hq;rw[PyProof.Rows.assign_Tuple];refine ag (uX ?_);unfold unpack;rw[show(assignEach es X.env).length=au.toArray.size by simp[hn,<-hl,rv.length],rW]
 refine ag (eE (W.kun_itemsOf (I.ok.hd hc) ⟨_,e,rfl,_,rfl⟩ λh' hx=>?_))
 have I1:=I.kept (t':=s.toks) λb o e=>hx b o (bF (aH e)) e
 exact h af _ σ H xs _ Q I1 (by grind) hw
noncomputable def Ak(n:Nat)(t:Si):Tg:=λp st=>match p with | .nd .ak ps=>if ps.length=n then t ps st else none | .nd .lst ps=>if ps.length=n then t ps st else none | _=>none
def Um(hc:X.calm=true)(h:PGs X es (Ul X.K aa ae t))(hn:(assignEach es X.env).length=n:=by rfl)(rW:(assignEach es X.env).findIdx? (·.1)=none:=by rfl) :
  PG X (.Tuple es k pos) (tG X.K aa ae (Ak n t)):=by
 rintro af s σ H v u Q I r ⟨F,st,p,st',R,hb,hf,q⟩
 unfold Ak at hf;split at hf
 ·obtain⟨hl,hf⟩:=bU hf;obtain⟨a,vs,rfl,hs,qB⟩:=bX.mp hb;exact Od hc h hn rW af s σ H _ u Q I r ⟨a,vs,rfl,bL R.sub hs,by rw[<-qB.length];exact hl,F,st,_,st',R,qB,hf,q⟩
 ·obtain⟨hl,hf⟩:=bU hf;obtain⟨a,vs,rfl,hs,qB⟩:=dr.mp hb;exact O6 hc h hn rW af s σ H _ u Q I r ⟨a,vs,rfl,jx R.sub hs,by rw[<-qB.length];exact hl,F,st,_,st',R,qB,hf,q⟩
 ·cases hf
noncomputable def stp(g:cq->Option cq):Gx dw:=λst=>(g st).map λst'=>(.ok .nx,st')
def Sa.stp{st:cq}{g:cq->Option cq}(h:Sa X aa ae F D st (stp g)):∃st',g st=some st'/\∀F' bC H',Rep X.K aa ae F' st' bC H'->Gr F F'->D.nx bC H':=by
 obtain⟨r,h1,h2⟩:=h;obtain⟨st',e1,e2⟩:=aR h1;subst e2;exact⟨st',e1,h2⟩
def lW(fe:Gx PV)(g:Tg):Gx dw:=bnd fe λp=>stp (g p)
def Kv{g:Tg}(h:tS X aa ae (lW fe g) D σ H):JX (tE X aa ae fe) (tG X.K aa ae g) D σ H:=by
 obtain⟨F,st,R,h⟩:=h;refine⟨F,st,R,h.bnd λp v F1 st1 H1 R1 g1 b1 h1=>?_⟩
 obtain⟨st',e,z⟩:=h1.stp;exact⟨F1,st1,p,st',R1,b1,e,λBB H2 F2 R2 s2=>z F2 BB H2 R2 s2⟩
def Uo{g:Tg}(he:PE X e (tE X aa ae fe))(hg:PG X tg (tG X.K aa ae g))(hs:swapsWithSole [tg] e pos.line X.env=pure false:=by rfl)(hw:swappedStores [tg] e X.env=pure none:=by rfl)
  (h1:(assignEach [tg] X.env).map (·.2)=[assign tg X.env]:=by rfl):PS X (.Assign [tg] e pos) (tS X aa ae (lW fe g)):=(Fx he hg hs hw h1).imp λ_ _ _ h=>Kv h
def Walk(K:W.Frag)(F:Fz)(ps:List PV)(J:It):Prop:=∀(aa:Hp) (ae F':Fz) (st:cq) (σ:St) (H:Hp),Rep K aa ae F' st σ H->Gr F F'->∀i:Nat,
 (∀p,ps[i]?=some p->J.go i H/\∀x H',J.yld i H x H'->∃Gb,Rep K aa ae Gb st σ H'/\Gr F' Gb/\bB K Gb p x)/\(ps[i]?=none->J.stop i H)
abbrev tI(X:Cx)(aa:Hp)(ae:Fz)(f:Gx (List PV)):TI:=tX X aa ae (Walk X.K) f
def qC(r:Gx dw):dw->Gx dw
 | .nx=>r
 | .ct=>r
 | .bk=>cC .nx
 | .rt p=>cC (.rt p)
def fg(g:Tg)(body:Gx dw):List PV->Gx dw
 | []=>cC .nx
 | p::ps=>bnd (stp (g p)) λ_=>bnd body (qC (fg g body ps))
def Sa.qc{st:cq}(N:St->Hp->Prop)(hN:∀F1 st1 iP H1,Rep X.K aa ae F1 st1 iP H1->Gr F F1->Sa X aa ae F1 D st1 r->N iP H1)(h:Sa X aa ae F D st (U.bnd fb (qC r))):Sa X aa ae F {D with nx:=N,ct:=N,bk:=D.nx} st fb :=
 At.imp (At.bnd h) (Gr.refl F) λo st1 q=>match o,q with
  | .nx,q=>λF1 iP H1 R1 g1=>hN F1 st1 iP H1 R1 g1 (Sa.mono q g1)
  | .ct,q=>λF1 iP H1 R1 g1=>hN F1 st1 iP H1 R1 g1 (Sa.mono q g1)
  | .bk,q=>λF' bC H'=>At.cC q F' bC H'
  | .rt p,q=>λv F' H'=>At.cC q v F' H'
def lr(gc:Gx Bool)(body:Gx dw):Nat->Gx dw
 | 0=>λ_=>none
 | n+1=>bnd gc λc=>if c=true then bnd body (qC (lr gc body n))else cC .nx
def Kw(n:Nat)(hp:PassesOwn (model X.prog X.w) X.A X.env X.xe)(hc:PT X c (tT X aa ae gc))(hb:PSs X body (tS X aa ae fb)):PS X (.While c body [] pos) (tS X aa ae (lr gc fb n)) :=
 (Fy hp hc hb).imp <| by
 rintro D σ H ⟨F,st,R,h⟩
 refine⟨λm bC H'=>∃F' st',Rep X.K aa ae F' st' bC H'/\Sa X aa ae F' D st' (lr gc fb m),⟨n,F,st,R,h⟩,λm bC H' ⟨F',st',R',h'⟩=>?_⟩
 cases m with
 | zero=>obtain⟨r,e,_⟩:=h';cases e
 | succ m =>
  refine⟨F',st',R',Sa.bnd h' λx y F1 st1 H1 R1 g1 b1 h1=>?_⟩
  cases b1;cases x with
  | false=>exact At.cC h1 F1 bC H1 R1 (Gr.refl _)
  | true=>exact⟨λBB H2=>∃F2 dW,Rep X.K aa ae F2 dW BB H2/\Sa X aa ae F2 D dW (lr gc fb m),λBB H2 n2=>⟨m,pK m,n2⟩,F1,st1,R1,Sa.qc _ (λF4 Jo MO H4 R4 g4 z=>⟨F4,Jo,R4,z⟩) h1⟩
end
def sizeOk(n:Nat)(p:PV):Option PV:=if n<=gX then some p else none
def jy(h:sizeOk n p=some q):n<=sizeLine/\p=q:=by
 obtain⟨h1,h2⟩:=aB h;exact⟨eQ h1,h2⟩
def Am(h:List ah)(p:PV):Option (List PV):=match da h p with | some (.lst,ps)=>some ps | _=>none
def iD(e:Am h p=some ps):da h p=some (.lst,ps):=by
 unfold Am at e;split at e
 ·grind
 ·cases e
def cZ:G2:=λh p q=>match p,q with
 | .int i,.int j=>some (.int (i+j))
 | .str x,.str y=>sizeOk (x.length+y.length) (.str (x++y))
 | .nd .ak xs,.nd .ak ys=>sizeOk (xs.length+ys.length) (.ak (xs++ys))
 | p,q=>(Am h p).bind λxs=>(Am h q).bind λys=>sizeOk (xs.length+ys.length) (.lst (xs++ys))
noncomputable def nD(c:Int->Int->Bool)(f:Int->Int->PV):G2:=λ_ p q=>match p,q with
 | .int i,.int j=>if c i j=true then some (f i j)else none
 | _,_=>none
noncomputable def oC:Int:=18446744073709551616
def O7:G2:=nD (λ_ _=>true) λi j=>.int (i-j)
def Up:G2:=nD (λi j=>decide ((-oC<i/\i<oC)\/(-oC<j/\j<oC))) λi j=>.int (i*j)
def gf:G2:=nD (λ_ j=>decide (0<j/\j<1073741824)) λi j=>.int (i/j)
def cD:G2:=nD (λ_ j=>decide (0<j)) λi j=>.int (i%j)
def O8:G2:=nD (λi j=>decide (0<=j/\j<=1000/\i.natAbs<1000)) λi j=>.int (i^j.toNat)
def MP:G2:=nD (λ_ _=>true) λi j=>.bl (decide (i<j))
def leO:G2:=nD (λ_ _=>true) λi j=>.bl (decide (i<=j))
def WT:G2:=nD (λ_ _=>true) λi j=>.bl (decide (j<=i))
section
variable {X:Cx}
def Gd{ws:List Value}(ht:IsTup s.heap t ([]:List Value).toArray)(hb:IsTup s.heap b ws.toArray)(h1:Q (.ref b) s):wpAny (model prog w) A (binaryOp .Add (.ref t) (.ref b)) Q E s:=by
 obtain⟨⟨cls,dd,data,sl⟩,ho,hc,n,hd⟩:=id ht;obtain⟨⟨Yg,WL,TK,Sd⟩,OF,OG,n2,hd2⟩:=id hb;simp only at hc hd OG hd2;subst hc hd OG hd2;exact concat_meets ⟨_,ho,rfl⟩ ⟨_,OF,rfl⟩ zu seq_tuple_add zd y0 (yZ _ _) (tuple_addW0 t b _ ws.toArray n n2 dd WL sl Sd (by simp)) ⟨ho,OF,h1⟩
def Kx:oY X (binaryOp .Add) cZ:=by
 rintro af s σ H x y v u Q I rx ry ⟨aa,ae,F,st,τ,pa,pb,p,e,R,ba,bb,k⟩
 unfold cZ at e;split at e
 ·cases e;rw[aC.mp ba]at rx;rw[aC.mp bb]at ry;exact Oq af s σ H _ _ v u Q I rx ry ⟨_,_,rfl,rfl,k _ H F R (Gr.refl F) (aC.mpr rfl)⟩
 ·obtain⟨hz,rfl⟩:=jy e;rw[bN.mp ba]at rx;rw[bN.mp bb]at ry;exact zZ af s σ H _ _ v u Q I rx ry ⟨_,_,rfl,rfl,hz,k _ H F R (Gr.refl F) (bN.mpr rfl)⟩
 ·rename_i xs ys;obtain⟨hz,rfl⟩:=jy e;obtain⟨a,vs,rfl,ha,iE⟩:=bX.mp ba;obtain⟨b,ws,rfl,hb,O9⟩:=bX.mp bb;have Uq:=bL R.sub ha;have jY:=bL R.sub hb;cases xs with
  | nil =>
   rw[iE.cH]at Uq;cases rx;cases ry;obtain⟨au,r1,p1,_⟩:=I.tuple Uq;obtain⟨eZ,r2,p2,_⟩:=I.tuple jY;cases r1;exact Gd p1 p2 ⟨.ref b,H,I,rfl,k _ H F R (Gr.refl F) (bX.mpr ⟨b,ws,rfl,hb,O9⟩)⟩
  | cons x0 xr =>
   refine Kh af s σ H _ _ v u Q I rx ry ⟨a,b,vs,ws,rfl,rfl,Uq,jY,?_,by rw[<-iE.length,<-O9.length];exact hz,λz=>?_,λz q hq=>?_⟩
   ·intro z;have:=iE.length;rw[z]at this;cases this
   ·subst z;have hy:=mO O9.length;subst hy;rw[dz]at k;exact k _ H F R (Gr.refl F) (bX.mpr ⟨a,vs,rfl,ha,iE⟩)
   ·obtain⟨R2,s2⟩:=R.laid (.ak (vs++ws)) hq;exact k _ _ _ R2 s2 (bX.mpr ⟨q,_,rfl,gZ.of ay,(iE.append O9).mono s2⟩)
 ·obtain⟨xs,e1,e⟩:=aQ e;obtain⟨ys,e2,e⟩:=aQ e;obtain⟨hz,rfl⟩:=jy e;obtain⟨a,vs,rfl,ha,iE⟩:=R.at (iD e1) ba;obtain⟨b,ws,rfl,hb,O9⟩:=R.at (iD e2) bb;cases rx;cases ry;obtain⟨au,n,r,e1,z1⟩:=I.qA ha;obtain⟨eZ,n2,r2,e2,z2⟩:=I.qA hb;have hl:=r.length;have Yy:=r2.length;have hz':vs.length+ws.length<=sizeLine:=by rw[<-iE.length,<-O9.length];exact hz
  refine PySem.P.add_list e1 e2 ?_ (by grind)
  have ea:au.toArray++eZ.toArray=(au++eZ).toArray:=by simp
  rw[ea];obtain⟨R2,s2⟩:=R.laid (.lst (vs++ws)) I.fresh;exact⟨.ref _,_,I.TU (r.append r2) (by grind),rfl,k _ _ _ R2 s2 (dr.mpr ⟨_,_,rfl,iZ.of ay,(iE.append O9).mono s2⟩)⟩
def eR(ho:OpR X f (rI C h))(hc:∀i j,c i j=true->C i j)(hg:∀i j F,bB X.K F (g i j) (h i j)):oY X f (nD c g):=by
 rintro af s σ H x y v u Q I rx ry ⟨aa,ae,F,st,τ,pa,pb,p,e,R,ba,bb,k⟩
 unfold nD at e;split at e
 ·obtain⟨h1,rfl⟩:=aB e;rw[aC.mp ba]at rx;rw[aC.mp bb]at ry;exact ho af s σ H _ _ v u Q I rx ry ⟨_,_,rfl,rfl,hc _ _ h1,k _ H F R (Gr.refl F) (hg _ _ F)⟩
 ·cases e
def tu(ho:OpR X f (Jm h)):OpR X f (rI (λ_ _=>True) h):=(by rintro af s σ H x y v u Q I rx ry ⟨i,j,h1,h2,_,q⟩;exact ho af s σ H x y v u Q I rx ry ⟨i,j,h1,h2,q⟩)
end
def Pa:Operator->Option G2
 | .Add=>some cZ
 | .Sub=>some O7
 | .Mult=>some Up
 | .FloorDiv=>some gf
 | .Mod=>some cD
 | .Pow=>some O8
 | _=>none
def Ky(h:Pa op=some g):oY X (binaryOp op) g:=by
 unfold Pa at h;split at h<;>cases h
 ·exact Kx
 ·exact eR (tu Ot) (by grind) λ_ _ _=>aC.mpr rfl
 ·exact eR Ou (λi j e=>show(-oC<i/\i<oC)\/(-oC<j/\j<oC)from ip e) λ_ _ _=>aC.mpr rfl
 ·exact eR J1 (λ_ j e=>show 0<j/\j<1073741824 from ip e) λ_ _ _=>aC.mpr rfl
 ·exact eR Ov (λ_ _ e=>ip e) λ_ _ _=>aC.mpr rfl
 ·exact eR Ow (λ_ _ e=>let ⟨h1,h2,h3⟩:=ip e;⟨h1,by lia,kW h3 (by decide)⟩) λ_ _ _=>aC.mpr rfl
inductive Tr where
 | aP | bl (b:Bool) | int (i:Int) | str (x:Str) | ak (xs:List Tr) | lst (xs:List Tr)
mutual
def eqT:Tr->Tr->Bool
 | .aP,.aP=>true
 | .bl a,.bl b=>a==b
 | .bl a,.int b=>(if a then 1 else 0)==b
 | .int a,.bl b=>a==(if b then 1 else 0)
 | .int a,.int b=>a==b
 | .str a,.str b=>a==b
 | .ak xs,.ak ys=>xx xs ys
 | .lst xs,.lst ys=>xx xs ys
 | _,_=>false
def xx:List Tr->List Tr->Bool
 | [],[]=>true
 | x::xs,y::ys=>eqT x y&&xx xs ys
 | _,_=>false
end
mutual
def dep:Tr->Nat
 | .ak xs=>j9 xs+1
 | .lst xs=>j9 xs+1
 | _=>0
def j9:List Tr->Nat
 | []=>0
 | x::xs=>max (dep x) (j9 xs)
end
mutual
theorem gI:∀p:Tr,eqT p p=true
 | .aP=>rfl
 | .bl b=>iN b
 | .int b=>iN b
 | .str b=>iN b
 | .ak xs=>nE xs
 | .lst xs=>nE xs
theorem nE:∀ps:List Tr,xx ps ps=true
 | []=>rfl
 | x::xs=>pF.mpr ⟨gI x,nE xs⟩
end
theorem lX:∀{xs ys:List Tr},xs.length≠ys.length->xx xs ys=false
 | [],[],h=>absurd rfl h
 | [],_::_,_=>rfl
 | _::_,[],_=>rfl
 | x::xs,y::ys,h=>by show(eqT x y&&xx xs ys)=false;rw[lX (by simpa using h),az]
noncomputable def qD(xs ys:List Tr)(j:Nat):Bool:=match xs[j]?,ys[j]? with
 | some x,some y=>eqT x y
 | _,_=>true
theorem lY:∀{xs ys:List Tr},xs.length=ys.length->(List.range xs.length).all (qD xs ys)=xx xs ys
 | [],[],_=>rfl
 | [],_::_,h=>by cases h
 | _::_,[],h=>by cases h
 | x::xs,y::ys,h=>by
  have ih:=lY (by simpa using h)
  rw[cz,List.range_succ_eq_map,jr,List.all_map];have e0:qD (x::xs) (y::ys) 0=eqT x y:=rfl;have e1:(qD (x::xs) (y::ys) ∘ Nat.succ)=qD xs ys:=by
   funext j
   simp[qD,Function.comp]
  rw[e0,e1,ih];rfl
def BL(h1:xs.length=m)(h2:ys.length=n):((List.range (min m n)).all (qD xs ys)&&(m==n))=xx xs ys:=by
 subst h1 h2;by_cases h:xs.length=ys.length
 ·rw[<-h,Nat.min_self,lY h];simp
 ·rw[lX h];simp[h]
mutual
def di(s:Shared):Tr->Value->Prop
 | .aP,u=>u=.none
 | .bl b,u=>u=.bool b
 | .int i,u=>∃t,u=.int i t
 | .str x,u=>∃t,u=.str x t
 | .ak ts,u=>∃a au,u=.ref a/\s.heap.IsTuple a au.toArray/\cf s ts au
 | .lst ts,u=>∃a au,u=.ref a/\s.heap.IsList a au.toArray/\cf s ts au
def cf(s:Shared):List Tr->List Value->Prop
 | [],us=>us=[]
 | t::ts,us=>∃u r,us=u::r/\di s t u/\cf s ts r
end
section
variable {A:Around} {s:Shared}
theorem cf.len:∀{ts:List Tr} {us:List Value},cf s ts us->ts.length=us.length
 | [],_,h=>by simp only[cf]at h;rw[h];rfl
 | _::_,_,h=>by
  simp only[cf]at h;obtain⟨u,r,rfl,_,h⟩:=h;simp[cf.len h]
def jX(h1:s.heap.IsTuple a x)(h2:s.heap.IsTuple a y):x=y:=by
 obtain⟨o,e,_,n,d⟩:=h1;obtain⟨o',e',_,n',d'⟩:=h2;rw[e]at e';cases e';rw[d]at d';cases d';rfl
def lN(h1:s.heap.IsList a x)(h2:s.heap.IsList a y):x=y:=by
 obtain⟨o,e,_,n,d⟩:=h1;obtain⟨o',e',_,n',d'⟩:=h2;rw[e]at e';cases e';rw[d]at d';cases d';rfl
def qE(h1:s.heap.IsTuple a x)(h2:s.heap.IsList a y):False:=by
 obtain⟨o,e,c,n,d⟩:=h1;obtain⟨o',e',c',n',d'⟩:=h2;rw[e]at e';cases e';rw[c]at c';simp at c'
mutual
theorem di.inj:∀{p q:Tr} {u:Value},di s p u->di s q u->p=q
 | .aP,q,u,h,h'=>by cases q<;>simp_all [di]
 | .bl b,q,u,h,h'=>by cases q<;>simp_all [di]
 | .int b,q,u,h,h'=>by
  simp only[di]at h;obtain⟨t,rfl⟩:=h;cases q<;>simp_all [di]
 | .str b,q,u,h,h'=>by
  simp only[di]at h;obtain⟨t,rfl⟩:=h;cases q<;>simp_all [di]
 | .ak xs,q,u,h,h'=>by
  simp only[di]at h;obtain⟨a,au,rfl,h1,h2⟩:=h;cases q with
  | ak ys =>
   simp only[di]at h';obtain⟨b,Ur,e,g1,g2⟩:=h';cases e;have:=jX h1 g1;have e:au=Ur:=by simpa using this
   subst e;rw[cf.inj h2 g2]
  | lst ys =>
   simp only[di]at h';obtain⟨b,Ur,e,g1,g2⟩:=h';cases e;exact(qE h1 g1).elim
  | _=>simp[di]at h'
 | .lst xs,q,u,h,h'=>by
  simp only[di]at h;obtain⟨a,au,rfl,h1,h2⟩:=h;cases q with
  | lst ys =>
   simp only[di]at h';obtain⟨b,Ur,e,g1,g2⟩:=h';cases e;have:=lN h1 g1;have e:au=Ur:=by simpa using this
   subst e;rw[cf.inj h2 g2]
  | ak ys =>
   simp only[di]at h';obtain⟨b,Ur,e,g1,g2⟩:=h';cases e;exact(qE g1 h1).elim
  | _=>simp[di]at h'
theorem cf.inj:∀{ps qs:List Tr} {us:List Value},cf s ps us->cf s qs us->ps=qs
 | [],qs,us,h,h'=>by
  simp only[cf]at h;subst h;cases qs with
  | nil=>rfl
  | cons _ _=>simp[cf]at h'
 | p::ps,qs,us,h,h'=>by
  simp only[cf]at h;obtain⟨u,r,rfl,h1,h2⟩:=h;cases qs with
  | nil=>simp[cf]at h'
  | cons q qs =>
   simp only[cf]at h';obtain⟨u',r',e,g1,g2⟩:=h';cases e;rw[di.inj h1 g1,cf.inj h2 g2]
end
def qF(h:b=c)(r:SeqAt.RcAt A s u w b):SeqAt.RcAt A s u w c:=h▸r
def lu(h:b = !c)(r:SeqAt.RcNeAt A s u w b):SeqAt.RcNeAt A s u w (!c):=h▸r
def BM(hf:∀x t,u≠.float x t)(h:SeqAt.RcAt A s u w b)(hb:u=w->b=true):SeqAt.EqAt A s u w b:=λprog v E Q hq=>by
 unfold eqBool;refine eE ?_;refine wpAny_ite_split (λz=>?_) (λ_=>?_)
 ·rw[hb (aY z)]at hq;exact ag (k9 (ar hq))
 ·cases u with
  | float x t=>exact absurd rfl (hf x t)
  | _=>exact ag (h prog v E _ (kN hq))
def di.MQ(h:di s p u):∀y t,u≠.float y t:=λy t z=>by
 subst z;cases p<;>simp[di]at h
mutual
theorem vx:∀(p q:Tr) (A:Around) (u w:Value),di s p u->di s q w->A.units+dep p<cLine->SeqAt.RcAt A s u w (eqT p q)/\SeqAt.RcNeAt A s u w (!(eqT p q))
 | .aP,q,A,u,w,ha,hb,hu=>by
  have gJ:A.units<cLine := ‹_›;subst ha;cases q with
  | aP=>cases hb;exact⟨.none_none,.none_none⟩
  | bl=>cases hb;exact⟨(.none_bool _),(.none_bool _)⟩
  | int=>obtain⟨t,rfl⟩:=hb;exact⟨(.none_int _ _),(.none_int _ _)⟩
  | str=>obtain⟨t,rfl⟩:=hb;exact⟨(.none_str _ _),(.none_str _ _)⟩
  | ak=>obtain⟨a,au,rfl,pR,_⟩:=hb;exact⟨(.none_tuple pR gJ),(.none_tuple pR gJ)⟩
  | lst=>obtain⟨a,au,rfl,pR,_⟩:=hb;exact⟨(.none_list pR gJ),(.none_list pR gJ)⟩
 | .bl k,q,A,u,w,ha,hb,hu=>by
  have gJ:A.units<cLine := ‹_›;subst ha;cases q with
  | aP=>cases hb;exact⟨(.bool_none _),(.bool_none _)⟩
  | bl=>cases hb;exact⟨(.bool_bool _ _),(.bool_bool _ _)⟩
  | int=>obtain⟨t,rfl⟩:=hb;exact⟨(.bool_int _ _ _),(.bool_int _ _ _)⟩
  | str=>obtain⟨t,rfl⟩:=hb;exact⟨(.bool_str _ _ _),(.bool_str _ _ _)⟩
  | ak=>obtain⟨a,au,rfl,pR,_⟩:=hb;exact⟨(.bool_tuple _ pR gJ),(.bool_tuple _ pR gJ)⟩
  | lst=>obtain⟨a,au,rfl,pR,_⟩:=hb;exact⟨(.bool_list _ pR gJ),(.bool_list _ pR gJ)⟩
 | .int k,q,A,u,w,ha,hb,hu=>by
  have gJ:A.units<cLine := ‹_›;obtain⟨tk,rfl⟩:=ha;cases q with
  | aP=>cases hb;exact⟨(.int_none _ _),(.int_none _ _)⟩
  | bl=>cases hb;exact⟨(.int_bool _ _ _),(.int_bool _ _ _)⟩
  | int=>obtain⟨t,rfl⟩:=hb;exact⟨(.int_int _ _ _ _),(.int_int _ _ _ _)⟩
  | str=>obtain⟨t,rfl⟩:=hb;exact⟨(.int_str _ _ _ _),(.int_str _ _ _ _)⟩
  | ak=>obtain⟨a,au,rfl,pR,_⟩:=hb;exact⟨(.int_tuple _ _ pR gJ),(.int_tuple _ _ pR gJ)⟩
  | lst=>obtain⟨a,au,rfl,pR,_⟩:=hb;exact⟨(.int_list _ _ pR gJ),(.int_list _ _ pR gJ)⟩
 | .str k,q,A,u,w,ha,hb,hu=>by
  have gJ:A.units<cLine := ‹_›;obtain⟨tk,rfl⟩:=ha;cases q with
  | aP=>cases hb;exact⟨(.str_none _ _),(.str_none _ _)⟩
  | bl=>cases hb;exact⟨(.str_bool _ _ _),(.str_bool _ _ _)⟩
  | int=>obtain⟨t,rfl⟩:=hb;exact⟨(.str_int _ _ _ _),(.str_int _ _ _ _)⟩
  | str=>obtain⟨t,rfl⟩:=hb;exact⟨(.str_str _ _ _ _),(.str_str _ _ _ _)⟩
  | ak=>obtain⟨a,au,rfl,pR,_⟩:=hb;exact⟨(.str_tuple _ _ pR gJ),(.str_tuple _ _ pR gJ)⟩
  | lst=>obtain⟨a,au,rfl,pR,_⟩:=hb;exact⟨(.str_list _ _ pR gJ),(.str_list _ _ pR gJ)⟩
 | .ak xs,q,A,u,w,ha,hb,hu=>by
  have gJ:A.units<cLine:=by lia
  obtain⟨al,Kz,rfl,pL,tL⟩:=ha;cases q with
  | aP=>cases hb;exact⟨(.tuple_none pL gJ),(.tuple_none pL gJ)⟩
  | bl=>cases hb;exact⟨(.tuple_bool _ pL gJ),(.tuple_bool _ pL gJ)⟩
  | int=>obtain⟨t,rfl⟩:=hb;exact⟨(.tuple_int _ _ pL gJ),(.tuple_int _ _ pL gJ)⟩
  | str=>obtain⟨t,rfl⟩:=hb;exact⟨(.tuple_str _ _ pL gJ),(.tuple_str _ _ pL gJ)⟩
  | lst=>obtain⟨a,au,rfl,pR,_⟩:=hb;exact⟨(.tuple_list pL pR gJ),(.tuple_list pL pR gJ)⟩
  | ak ys =>
   obtain⟨a,KA,rfl,pR,tR⟩:=hb;have e1:xs.length=Kz.toArray.size:=by rw[cE,tL.len]
   have e2:ys.length=KA.toArray.size:=by rw[cE,tR.len]
   have el:=λj (h1:j<Kz.toArray.size) (h2:j<KA.toArray.size)=>vy xs ys A.in1 Kz KA tL tR (by rw[uP];have hu:_+(j9 _+1)<_:=hu;lia) j (by simpa using h1) (by simpa using h2)
   exact⟨qF (BL e1 e2) (.tuples pL pR gJ el),lu (by rw[BL e1 e2];rfl) (.tuples pL pR gJ el)⟩
 | .lst xs,q,A,u,w,ha,hb,hu=>by
  have gJ:A.units<cLine:=by lia
  obtain⟨al,Kz,rfl,pL,tL⟩:=ha;cases q with
  | aP=>cases hb;exact⟨(.list_none pL gJ),(.list_none pL gJ)⟩
  | bl=>cases hb;exact⟨(.list_bool _ pL gJ),(.list_bool _ pL gJ)⟩
  | int=>obtain⟨t,rfl⟩:=hb;exact⟨(.list_int _ _ pL gJ),(.list_int _ _ pL gJ)⟩
  | str=>obtain⟨t,rfl⟩:=hb;exact⟨(.list_str _ _ pL gJ),(.list_str _ _ pL gJ)⟩
  | ak=>obtain⟨a,au,rfl,pR,_⟩:=hb;exact⟨(.list_tuple pL pR gJ),(.list_tuple pL pR gJ)⟩
  | lst ys =>
   obtain⟨a,KA,rfl,pR,tR⟩:=hb;have e1:Kz.toArray.size=xs.length:=by rw[cE,tL.len]
   have e2:KA.toArray.size=ys.length:=by rw[cE,tR.len]
   by_cases hl:xs.length=ys.length
   ·have sz:Kz.toArray.size=KA.toArray.size:=by rw[e1,e2];exact hl
    have el:=λj (h1:j<Kz.toArray.size) (h2:j<KA.toArray.size)=>vy xs ys A.in1 Kz KA tL tR (by rw[uP];have hu:_+(j9 _+1)<_:=hu;lia) j (by simpa using h1) (by simpa using h2)
    exact⟨qF (by rw[e1,lY hl];rfl) (.lists pL pR sz gJ el),lu (by rw[e1,lY hl];rfl) (.lists pL pR sz gJ el)⟩
   ·have sz:(Kz.toArray.size != KA.toArray.size)=true:=by rw[e1,e2];simpa using hl
    exact⟨qF (lX hl).symm (.lists_lengths pL pR sz gJ),lu (gA not (lX hl)).symm (.lists_lengths pL pR sz gJ)⟩
theorem vy:∀(ps qs:List Tr) A (us zs:List Value),cf s ps us->cf s qs zs->A.units+j9 ps<cLine ->
  ∀j h1 (h2:j<zs.length),SeqAt.EqAt A s us[j] zs[j] (qD ps qs j)
 | [],qs,A,us,zs,b1,b2,hu=>λj h1 h2=>by
  simp only[cf]at b1;subst b1;cases h1
 | p::ps,qs,A,us,zs,b1,b2,hu=>λj h1 h2=>by
  simp only[cf]at b1;obtain⟨u,ur,rfl,c1,d1⟩:=b1;cases qs with
  | nil =>
   simp only[cf]at b2;subst b2;cases h2
  | cons q qs =>
   simp only[cf]at b2;obtain⟨z,zr,rfl,c2,d2⟩:=b2;have hm:A.units+dep p<cLine/\A.units+j9 ps<cLine:=by
    simp only[j9]at hu
    lia
   cases j with
   | zero =>
    refine BM c1.MQ (vx p q A _ _ c1 c2 hm.1).1 λe=>?_
    simp only[List.getElem_cons_zero]at e;rw[e]at c1;rw[c1.inj c2];exact gI q
   | succ j=>exact vy ps qs A _ _ d1 d2 hm.2 j (by simpa using h1) (by simpa using h2)
end
def Pb(b1:di s p u)(b2:di s q w)(hu:A.units+dep p<cLine):SeqAt.EqAt A s u w (eqT p q):=by
 refine BM b1.MQ (vx p q A _ _ b1 b2 hu).1 λz=>?_
 rw[z]at b1;rw[b1.inj b2];exact gI q
end
noncomputable def dC{α β:Type}(f:α->Option β):List α->Option (List β)
 | []=>some []
 | x::xs=>(f x).bind λy=>(dC f xs).map λys=>y::ys
noncomputable def Us:Kd->List Tr->Option Tr
 | .ak,ts=>some (.ak ts)
 | .lst,ts=>some (.lst ts)
 | _,_=>none
def toT(h:List ah):Nat->PV->Option Tr
 | 0,_=>none
 | n+1,p=>match p with
  | .aP=>some .aP
  | .bl b=>some (.bl b)
  | .int i=>some (.int i)
  | .str x=>some (.str x)
  | .fn _=>none
  | p=>(da h p).bind λq=>(dC (toT h n) q.2).bind (Us q.1)
def fF(h:dC f (x::xs)=some ys):∃y r,f x=some y/\dC f xs=some r/\ys=y::r:=by
 obtain⟨y,h1,h2⟩:=aQ h;obtain⟨r,h3,h4⟩:=aR h2;exact⟨y,r,h1,h3,h4.symm⟩
theorem vz(h:List ah):∀(n:Nat) (p:PV) (t:Tr),toT h n p=some t->dep t<=n
 | 0,_,_,e=>by cases e
 | n+1,p,t,e=>by
  have go:((da h p).bind λq=>(dC (toT h n) q.2).bind (Us q.1))=some t->dep t<=n+1:=λe=>by
   obtain⟨q,_,e⟩:=aQ e;obtain⟨ts,e1,e2⟩:=aQ e;have hd:∀ps ts,dC (toT h n) ps=some ts->j9 ts<=n:=by
    intro ps;induction ps with
    | nil=>intro ts z;cases z;simp[j9]
    | cons p ps ih =>
     intro ts z;obtain⟨y,r,h1,h2,rfl⟩:=fF z;have:=vz h n p y h1;have:=ih r h2;simp only[j9];lia
   have:=hd _ _ e1;unfold Us at e2;split at e2<;>cases e2<;>simp only[dep]<;>lia
  unfold toT at e;split at e<;>first | (cases e;simp[dep];done) | (cases e;done) | exact go e
section
variable {X:Cx} {af:List (Addr×Obj)} {σ τ:St} {s:Shared} {aa H:Hp} {ae F:Fz} {st:cq}
theorem Rep.tree(R:Rep X.K aa ae F st τ H)(I:Inv X af σ H s):∀(n:Nat) (p:PV) (t:Tr) (v:V) (u:Value),toT st.h n p=some t->bB X.K F p v->RelV v u->di s t u
 | 0,_,_,_,_,e,_,_=>by cases e
 | n+1,p,t,v,u,e,b,r=>by
  have go:((da st.h p).bind λq=>(dC (toT st.h n) q.2).bind (Us q.1))=some t->di s t u:=λe=>by
   obtain⟨⟨k,ps⟩,e0,e⟩:=aQ e;obtain⟨ts,e1,e2⟩:=aQ e;obtain⟨a,vs,rfl,h2,h3⟩:=R.at e0 b;have hd:∀ps ts vs us,dC (toT st.h n) ps=some ts->aw X.K F ps vs->Vals vs us->cf s ts us:=by
    intro ps;induction ps with
    | nil=>intro ts vs us z b r;cases z;rw[b.cH]at r;cases r;simp[cf]
    | cons p ps ih =>
     intro ts vs us z b r;obtain⟨y,q,h1,h2,rfl⟩:=fF z;obtain⟨v,w,rfl,b1,b2⟩:=b.cm;cases r with
     | cons ra rr =>
      simp only[cf];exact⟨_,_,rfl,R.tree I n p y v _ h1 b1 ra,ih q w _ h2 b2 rr⟩
   cases r
   match k,e2,h2 with
   | .ak,e2,h2 =>
    cases e2;obtain⟨au,rr,pl,_⟩:=I.tuple h2.2;simp only[di];exact⟨a,au,rfl,pl,hd _ _ _ _ e1 h3 rr⟩
   | .lst,e2,h2 =>
    cases e2;obtain⟨au,rr,pl,_⟩:=I.list (iZ.sq h2);simp only[di];exact⟨a,au,rfl,pl.isList,hd _ _ _ _ e1 h3 rr⟩
  unfold toT at e;split at e
  ·cases e;rw[cV.mp b]at r;cases r;simp[di]
  ·cases e;rw[br.mp b]at r;cases r;simp[di]
  ·cases e;rw[aC.mp b]at r;obtain⟨t,rfl⟩:=r;simp[di]
  ·cases e;rw[bN.mp b]at r;obtain⟨t,rfl⟩:=r;simp[di]
  ·cases e
  ·exact go e
end
def kd:Nat:=1000
def Yz(h:List ah)(p q:PV):Option Bool:=(toT h kd p).bind λx=>(toT h kd q).map λy=>eqT x y
def qG:G2:=λh p q=>(Yz h p q).map .bl
def MR:G2:=λh p q=>(Yz h p q).map λb=>.bl !b
noncomputable def lZ:PV->Bool
 | .aP=>true
 | _=>false
noncomputable def YA(b:Bool):PV->Option Bool
 | .bl a=>some (a==b)
 | _=>none
def xy(h:YA b p=some c):∃a,p=.bl a/\c=(a==b):=by
 cases p<;>cases h
 exact⟨_,rfl,rfl⟩
def Ut:G2:=λ_ p q=>match q with | .aP=>some (.bl (lZ p)) | .bl b=>(YA b p).map .bl | _=>none
def YB(h:List ah)(p:PV)(ps:List PV):Option Bool:=(toT h kd p).bind λx=>(dC (toT h kd) ps).map λys=>ys.any λy=>eqT y x
section
variable {X:Cx}
def xA(e:Yz h p q=some b):∃x y,toT h kd p=some x/\toT h kd q=some y/\b=eqT x y:=by
 obtain⟨x,e1,e⟩:=aQ e;obtain⟨y,e2,e3⟩:=aR e;exact⟨x,y,e1,e2,e3.symm⟩
def Pc(hu:X.A.units+1150<cLine):oY X (compareOp .Eq) qG:=by
 rintro af s σ H x y v u Q I rx ry ⟨aa,ae,F,st,τ,pa,pb,p,e,R,ba,bb,k⟩
 obtain⟨b,e',rfl⟩:=aR e;obtain⟨ta,tb,e1,e2,rfl⟩:=xA e';have hd:=vz _ _ _ _ e1;exact(vx ta tb X.A v u (R.tree I _ _ _ _ _ e1 ba rx) (R.tree I _ _ _ _ _ e2 bb ry) (by unfold kd at hd;lia)).1 X.prog X.w X.xe _ ⟨.bl _,H,I,rfl,k _ H F R (Gr.refl F) (br.mpr rfl)⟩
def Pd(hu:X.A.units+1150<cLine):oY X (compareOp .NotEq) MR:=by
 rintro af s σ H x y v u Q I rx ry ⟨aa,ae,F,st,τ,pa,pb,p,e,R,ba,bb,k⟩
 obtain⟨b,e',rfl⟩:=aR e;obtain⟨ta,tb,e1,e2,rfl⟩:=xA e';have hd:=vz _ _ _ _ e1;exact(vx ta tb X.A v u (R.tree I _ _ _ _ _ e1 ba rx) (R.tree I _ _ _ _ _ e2 bb ry) (by unfold kd at hd;lia)).2 X.prog X.w X.xe _ ⟨.bl _,H,I,rfl,k _ H F R (Gr.refl F) (br.mpr rfl)⟩
def BN{K:W.Frag}(b:bB K F p x):decide (x=.aP)=lZ p:=by
 cases p with
 | aP=>rw[cV.mp b];rfl
 | bl _=>rw[br.mp b];rfl
 | int _=>rw[aC.mp b];rfl
 | str _=>rw[bN.mp b];rfl
 | ref _=>obtain⟨_,_,rfl⟩:=dq.mp b;rfl
 | fn _=>obtain⟨_,rfl,_⟩:=qu.mp b;rfl
 | nd _ _=>obtain⟨_,_,rfl,_⟩:=iO.mp b;rfl
def Pe:oY X (compareOp .Is) Ut:=by
 rintro af s σ H x y v u Q I rx ry ⟨aa,ae,F,st,τ,pa,pb,p,e,R,ba,bb,k⟩
 unfold Ut at e;split at e
 ·cases e;exact Oy af s σ H x y v u Q I rx ry ⟨cV.mp bb,k _ H F R (Gr.refl F) (br.mpr (by rw[BN ba]))⟩
 ·rename_i b;obtain⟨c,e1,rfl⟩:=aR e;obtain⟨a,rfl,rfl⟩:=xy e1;rw[br.mp ba]at rx;rw[br.mp bb]at ry;cases rx;cases ry;exact wpAny_is_plain rfl ⟨.bl _,H,I,(by cases a<;>cases b<;>rfl),k _ H F R (Gr.refl F) (br.mpr rfl)⟩
 ·cases e
open Classical in
noncomputable def l5 (s:Shared) (p:Tr) (u:Value):Bool:=if h:∃q,di s q u then eqT h.choose p else false
def BO(b:di s q u):l5 s p u=eqT q p:=by
 have h:∃q,di s q u:=⟨q,b⟩
 unfold l5;rw[dif_pos h,di.inj h.choose_spec b]
theorem vA:∀{ts:List Tr} {us:List Value},cf s ts us->us.any (l5 s p)=ts.any λy=>eqT y p
 | [],_,b=>by simp only[cf]at b;subst b;rfl
 | q::ts,_,b=>by
  simp only[cf]at b;obtain⟨u,r,rfl,c1,d1⟩:=b;rw[mZ,mZ,BO c1,vA d1]
theorem vB(bp:di s p w):∀{ts:List Tr} {us:List Value},cf s ts us->A.units+j9 ts<cLine->∀u∈us,SeqAt.EqAt A s u w (l5 s p u)
 | [],_,b,_=>λu hu=>by simp only[cf]at b;subst b;cases hu
 | q::ts,_,b,hz=>λu hu=>by
  simp only[cf]at b;obtain⟨u',r,rfl,c1,d1⟩:=b;simp only[j9]at hz;rcases aD.mp hu with rfl | hu
  ·rw[BO c1];exact Pb c1 bp (by lia)
  ·exact vB bp d1 (by lia) u hu
theorem Rep.trees{st:cq}(R:Rep X.K aa ae F st τ H)(I:Inv X af σ H s)(n:Nat):∀(ps:List PV) (ts:List Tr) (vs:List V) (us:List Value),dC (toT st.h n) ps=some ts->aw X.K F ps vs->Vals vs us->cf s ts us/\j9 ts<=n
 | [],ts,vs,us,z,b,r=>by cases z;rw[b.cH]at r;cases r;simp[cf,j9]
 | p::ps,ts,vs,us,z,b,r=>by
  obtain⟨y,q,h1,h2,rfl⟩:=fF z;obtain⟨v,w,rfl,b1,b2⟩:=b.cm;cases r with
  | cons ra rr =>
   obtain⟨h3,h4⟩:=R.trees I n ps q w _ h2 b2 rr;have:=vz _ _ _ _ h1;simp only[j9];exact⟨⟨_,_,rfl,R.tree I n p y v _ h1 b1 ra,h3⟩,by lia⟩
def Ge(e:YB h p ps=some b):∃x ys,toT h kd p=some x/\dC (toT h kd) ps=some ys/\b=ys.any λy=>eqT y x:=by
 obtain⟨x,e1,e⟩:=aQ e;obtain⟨y,e2,e3⟩:=aR e;exact⟨x,y,e1,e2,e3.symm⟩
def Gf(hu:X.A.units+1150<cLine){st:cq}(I:Inv X af σ H s)(rx:RelV x v)(ry:RelV y u)(R:Rep X.K aa ae F st τ H)(ba:bB X.K F pa x)(bb:bB X.K F pb y)
  (es:F8 st.h pb=some ps) (eb:YB st.h pa ps=some b) :
  (Q (.bl b) H->wpAny (model X.prog X.w) X.A (compareOp .In v u) (EP X af σ Q) X.xe s)/\(Q (.bl !b) H->wpAny (model X.prog X.w) X.A (compareOp .NotIn v u) (EP X af σ Q) X.xe s):=by
 obtain⟨t,ts,e1,e2,rfl⟩:=Ge eb;obtain⟨a,vs,rfl,hs,hb⟩:=R.seq es bb;have tp:=R.tree I _ _ _ _ _ e1 ba rx;cases ry;rcases hs with hs | hs
 ·obtain⟨au,r,pl,_⟩:=I.tuple hs;obtain⟨h1,h2⟩:=R.trees I _ _ _ _ _ e2 hb r;have ml:=λw (hw:w∈au.toArray)=>vB (A:=X.A.in1) tp h1 (by rw[uP];unfold kd at h2;lia) w (by grind)
  have ea:au.toArray.any (l5 s t)=ts.any λy=>eqT y t:=by rw[show au.toArray.any (l5 s t)=au.any (l5 s t) by simp,vA h1]
  exact⟨λq=>SeqAt.in_tupleAt (l5 s t) pl ml ⟨.bl _,H,I,rfl,by grind⟩,λq=>SeqAt.notIn_tupleAt (l5 s t) pl ml ⟨.bl _,H,I,rfl,by grind⟩⟩
 ·obtain⟨au,r,pl,_⟩:=I.list hs.sq;obtain⟨h1,h2⟩:=R.trees I _ _ _ _ _ e2 hb r;have ml:=λw (hw:w∈au.toArray)=>vB (A:=X.A.in1) tp h1 (by rw[uP];unfold kd at h2;lia) w (by grind)
  have ea:au.toArray.any (l5 s t)=ts.any λy=>eqT y t:=by rw[show au.toArray.any (l5 s t)=au.any (l5 s t) by simp,vA h1]
  exact⟨λq=>SeqAt.in_listAt (l5 s t) pl.isList ml ⟨.bl _,H,I,rfl,by grind⟩,λq=>SeqAt.notIn_listAt (l5 s t) pl.isList ml ⟨.bl _,H,I,rfl,by grind⟩⟩
end
section
variable {K:W.Frag} {F:Fz}
def aw.rX{ps:List PV}{vs:List V}{i:Int}{p:PV}(h:aw K F ps vs)(e:L2.rX ps i=some p):∃v,L2.rX vs i=some v/\bB K F p v:=by
 unfold L2.rX at e ⊢;rw[<-h.length];cases z:BF ps.length i with
 | none=>rw[z]at e;cases e
 | some j =>
  rw[z]at e;exact h.get e
def iF(xs:List PV)(lo hi:Option Int):List PV:=(xs.drop (HT.d6 xs.length 0 lo)).take (HT.d6 xs.length xs.length hi-HT.d6 xs.length 0 lo)
def aw.Pf{ps:List PV}{vs:List V}(h:aw K F ps vs)(lo hi:Option Int):aw K F (iF ps lo hi) (xl vs lo hi):=by
 unfold iF xl;rw[h.length];exact(h.drop _).take _
def ek{p:PV}{vs:List V}(b:aw K F [p] vs):∃v,vs=[v]/\bB K F p v:=by
 obtain⟨v,r,rfl,c,d⟩:=b.cm;rw[d.cH];exact⟨v,rfl,c⟩
def KC{p q:PV}{vs:List V}(b:aw K F [p,q] vs):∃v w,vs=[v,w]/\bB K F p v/\bB K F q w:=by
 obtain⟨v,r,rfl,c,d⟩:=b.cm;obtain⟨w,rfl,e⟩:=ek d;exact⟨v,w,rfl,c,e⟩
end
def l6{prog:Program}{w:World}{A:Around}{E:Value->Shared->Prop}{s:Shared}{t sl:Addr}{au:Array Value}{vl vu:Value}{lo hi:Option Int}{Q:Value->Shared->Prop}(ht:IsTup s.heap t au)(hs:s.heap.IsSliceOf sl vl vu .none)(pl:IsPart vl lo)(pu:IsPart vu hi)
  (h0:HT.d6 au.size 0 lo=0) (h1:HT.d6 au.size au.size hi=au.size) (h:Q (.ref t) s):wpAny (model prog w) A (getItem (.ref t) (.ref sl)) Q E s:=by
 obtain⟨os,Jn,WM,TL⟩:=id hs;have hT:s.TypeIs (.ref sl) "slice":=⟨os,Jn,WM⟩;unfold getItem
 try with_reducible refine eE ?_
 first | refine ag (ar ?_) | skip
 refine ag (wpAny_sequenceKey ht.typeIs (by decide) ?_)
 refine ag (fS ht.typeIs mN (gw mN ht.typeIs entry_tuple_getitem ?_ (args_tuple_getitem _ _)));show wpAny _ _ (Builtin.Tuple.tupleItemsOf (.ref t) >>= _) _ _ s;refine ag (tupleItemsOf_ ht (ag (nj hT ?_)));refine ag (HT.iC hs pl pu ?_);have hc:(((HT.d6 au.size 0 lo:Nat):Int)==0&&(1:Int)==1&&(HT.d6 au.size au.size hi-HT.d6 au.size 0 lo)==au.size)=true:=by
  rw[h0,h1];simp
 show wpAny _ _ (if(((HT.d6 au.size 0 lo:Nat):Int)==0&&1==1&&(HT.d6 au.size au.size hi-HT.d6 au.size 0 lo)==au.size)=true then _ else _) _ _ s
 rw[if_pos hc];unfold Builtin.Tuple.tupleIsExact;refine ag (ag (nj ht.typeIs (ar ?_)));exact ag (k9 (ar ⟨_,rfl,ar h⟩))
def yP(h:List ah)(lo hi:Option Int)(p:PV):Option PV:=match da h p with
 | some (.lst,ps)=>some (.lst (iF ps lo hi))
 | some (.ak,ps)=>some (.ak (iF ps lo hi))
 | _=>none
section
variable {X:Cx} {aa:Hp} {ae:Fz} {a b e:Expr} {es:List Expr} {fa fb:Gx PV} {ts:Gx (List PV)} {pos p1 p2:Pos} {lo hi:Option Expr}
def rSl(K:W.Frag):V->Option Int->Option Int->Hp->VK->Prop:=λx lo hi H Q=>∃aa ae F st τ pa p,yP st.h lo hi pa=some p/\Rep K aa ae F st τ H/\bB K F pa x/\∀v H' F',Rep K aa ae F' st τ H'->Gr F F'->bB K F' p v->Q v H'
def slT:WN X (rSl X.K):=by
 rintro af s σ H x v vl vu lo hi sl Q I rx hs pl pu ⟨aa,ae,F,st,τ,pa,p,e,R,ba,k⟩
 unfold yP at e;split at e
 ·rename_i z;cases e;obtain⟨a,vs,rfl,ha,iE⟩:=R.at z ba;refine Kk af s σ H _ v vl vu lo hi sl Q I rx hs pl pu ⟨a,vs,rfl,iZ.sq ha,λq hq=>?_⟩
  obtain⟨R2,s2⟩:=R.laid (.lst (xl vs lo hi)) hq;exact k _ _ _ R2 s2 (dr.mpr ⟨q,_,rfl,iZ.of ay,(iE.Pf lo hi).mono s2⟩)
 ·rename_i ps z;cases e;cases pa with
  | nd kk pp =>
   cases z;obtain⟨a,vs,rfl,ha,iE⟩:=bX.mp ba;by_cases hw:HT.d6 vs.length 0 lo=0/\HT.d6 vs.length vs.length hi=vs.length
   ·cases rx;obtain⟨au,r,ht,hz⟩:=I.tuple (bL R.sub ha);have dX:au.toArray.size=vs.length:=by rw[cE];exact r.length.symm
    refine⟨"tuple",_,mN.lookup,ht.typeIs,?_⟩;refine l6 ht hs pl pu (by grind) (by grind) ⟨.ref a,H,I,rfl,k _ H F R (Gr.refl F) ?_⟩
    have hc:iF ps lo hi=ps:=by
     unfold iF;rw[iE.length,hw.1,hw.2,List.drop_zero,Nat.sub_zero,<-iE.length,List.take_length]
    rw[hc];exact ba
   ·refine OI af s σ H _ v vl vu lo hi sl Q I rx hs pl pu ⟨a,vs,rfl,bL R.sub ha,hw,λq hq=>?_⟩
    obtain⟨R2,s2⟩:=R.laid (.ak (xl vs lo hi)) hq;exact k _ _ _ R2 s2 (bX.mpr ⟨q,_,rfl,gZ.of ay,(iE.Pf lo hi).mono s2⟩)
  | ref n =>
   obtain⟨c,e1,e2⟩:=aQ z;obtain⟨hl,e3⟩:=aB e2;have hk:c.k=.ak:=by grind
   unfold live at hl;rw[hk]at hl;cases hl
  | _=>cases z
 ·cases e
abbrev KD(X:Cx)(aa:Hp)(ae:Fz)(f:Gx (Option Int)):TO:=tX X aa ae (λ_ a b=>a=b) f
def _root_.L2.PO.imp{X:Cx}{e:Option Expr}{t t':TO}(h:PO X e t)(hi:∀σ H Q,t' σ H Q->t σ H Q):PO X e t':=λaf s σ H Q I hw=>h af s σ H Q I (hi _ _ _ hw)
noncomputable def l7:PV->Option Int | .int i=>some i | _=>none
def fG{p:PV}{i:Int}(h:l7 p=some i):p=.int i:=by
 cases p<;>first | (cases h;rfl) | cases h
def Gg(fe:Gx PV):Gx (Option Int):=bnd fe λp=>jZ ((l7 p).map some)
def Ph:PO X none (KD X aa ae (cC none)):=Kf.imp λσ H Q h=>vw h λ_=>rfl
def Pj(h:PE X e (tE X aa ae fa)):PO X (some e) (KD X aa ae (Gg fa)):=(Kg h).imp λσ H Q ⟨F,st,R,h⟩=>⟨F,st,R,h.bnd λp v F1 st1 H1 R1 g1 b1 h1=>by
 obtain⟨o,e,z⟩:=h1.jZ;obtain⟨i,e1,rfl⟩:=aR e;rw[fG e1]at b1;exact⟨i,aC.mp b1,z _ H1 F1 R1 (Gr.refl _) rfl⟩⟩
def cutE(fa:Gx PV)(fl fh:Gx (Option Int)):Gx PV:=bnd fa λp=>bnd fl λl=>bnd fh λr=>hp λh=>yP h l r p
def Uu{fl fh:Gx (Option Int)}(ha:PE X e (tE X aa ae fa))(hl:PO X lo (KD X aa ae fl))(hh:PO X hi (KD X aa ae fh)):PE X (.Subscript e (.Slice lo hi none p2) pos) (tE X aa ae (cutE fa fl fh)):=(FO slT ha hl hh).imp λσ H Q ⟨F,st,R,h⟩ =>
 ⟨F,st,R,h.bnd λp v F1 st1 H1 R1 g1 b1 h1=>⟨F1,st1,R1,h1.bnd λl l' F2 dW H2 R2 g2 b2 h2=>⟨F2,dW,R2,h2.bnd λr r' F3 JY H3 R3 g3 b3 h3=>by
  cases b2;cases b3;obtain⟨o,e,z⟩:=h3.hp;exact⟨aa,ae,F3,JY,σ,p,o,e,R3,b1.mono (g2.trans g3),z⟩⟩⟩⟩
abbrev GC:=List ah->List PV->Option PV
def rC(K:W.Frag)(g:GC):List V->Hp->VK->Prop:=λxs H Q=>∃aa ae F st τ ps p,g st.h ps=some p/\Rep K aa ae F st τ H/\aw K F ps xs/\∀v H' F',Rep K aa ae F' st τ H'->Gr F F'->bB K F' p v->Q v H'
abbrev Gh(X:Cx)(f:Value)(g:GC):Prop:=kz X f (rC X.K g)
def KH(g:GC)(ts:Gx (List PV)):Gx PV:=bnd ts λps=>hp λh=>g h ps
def l8{g:GC}{σ:St}{H:Hp}{Q:VK}(h:tE X aa ae (KH g ts) σ H Q):Ye (rC X.K g) (tA X aa ae ts) σ H Q:=by
 obtain⟨F,st,R,h⟩:=h;refine⟨F,st,R,h.bnd λps vs F1 st1 H1 R1 g1 b1 h1=>?_⟩
 obtain⟨o,e,z⟩:=h1.hp;exact⟨aa,ae,F1,st1,σ,ps,o,e,R1,b1,z⟩
def Uv(h:List ah)(p:PV):Option Nat:=match da h p with
 | some (.ak,ps)=>some ps.length
 | some (.lst,ps)=>some ps.length
 | some (.gB _ ks,_)=>some ks.length
 | _=>none
def fE:GC:=λh ps=>match ps with
 | [.str z]=>if z.length<=gX then some (.int z.length)else none
 | [p]=>(Uv h p).map λn=>.int n
 | _=>none
def xB:GC:=λh ps=>match ps with
 | [.nd .ak qs]=>some (.ak qs)
 | [p]=>(Am h p).map λqs=>.ak qs
 | _=>none
noncomputable def Gi:GC:=λ_ ps=>match ps with
 | [.int i]=>some (.int i)
 | [.bl b]=>some (.int (if b then 1 else 0))
 | _=>none
noncomputable def KI:GC:=λ_ ps=>match ps with
 | [.int i]=>if 0<=i/\i<1000 then some (.str (toString i))else none
 | _=>none
def Gj(ps:List PV):Option (List Int):=dC l7 ps
def KJ:GC:=λh ps=>match ps with
 | [p]=>(Am h p).bind λqs=>(Gj qs).map λns=>.int ns.sum
 | _=>none
def xC{A:Around}{E:Value->Shared->Prop}{s:Shared}{d:Addr}{o:Obj}{es:Array DictEntry}{ep n:Nat}{Q:Value->Shared->Prop}(hd:(d==sysModules)=false)(ho:s.heap.get? d=some o)(hc:o.ExactDict)(An:o.data=.dict es ep)(hn:es.size=n)(Uw:(n:Int)<2^63)
  (h:Q (.int n (s.toks+1)) {s with toks:=s.toks+1+1}):wpAny (model X.prog X.w) A (call (.builtin "len") [.ref d]) Q E s:=by
 have ty:s.TypeIs (.ref d) "dict":=⟨o,ho,hc.1⟩;have hm:MeetsIn X.prog X.w (Builtin.«dict.__len__» ⟨[.ref d],[]⟩) (λ_ R s'=>s'.heap.get? d=some o/\R (.ok (.ret (.int n s'.toks))) {s' with toks:=s'.toks+1}):=.of_wp <| by
  rintro A R s' ⟨qa,hR⟩
  show wpAny _ _ (dictSize d >>= _) _ _ s';refine ag (ag (wpAny_dictEntries qa An (ar ?_)));refine ag (wpAny_pendingCount_other hd ?_);refine wpAny_ret_mkInt ?_;rw[kY,hn];exact hR
 refine Calls.call_function_entry kind_len plain_len entry_len (args_len1 _) ?_;refine ag (ar ?_);refine ag (fS ty F.slot_dict_len (call_meetsIn F.slot_dict_len ty F.entry_dict_len (F.args_dict_len_1 _) hm ⟨ho,?_⟩));show wpAny _ _ _ _ _ {s with toks:=s.toks+1}
 refine ag (eE (ar ?_));refine ag (pV ?_);show wpAny _ _ (if((n:Nat):Int)>=2^63 then _ else _) _ _ _
 rw[if_neg (by lia)]
 exact ag (wpAny_mkInt (ar ⟨_,rfl,h⟩))
def BP{n:Nat}(h:n<=sizeLine):(n:Int)<2^63:=by
 have h1:n<=2^62:=aX h (by decide)
 have h62:2^62=4611686018427387904:=by decide
 lia
def KL{af:List (Addr×Obj)}{s:Shared}{σ:St}{H:Hp}{a:Addr}{t:Bool}{ks:List (List dZ)}{vs:List V}{us:List Value}{Q:VK}{F:Hp}(I:Inv X af σ H s)(rs:Vals [V.ref a] us)(h:lb X.K F H a false (.gB t ks) vs)(q:Q (.int ks.length) H):wpAny (model X.prog X.w) X.A (call (.builtin "len") us) (λu s'=>∃v H',Inv X af σ H' s'/\RelV v u/\Q v H') X.xe s:=by
 obtain⟨u,rfl,ru⟩:=kA rs;cases ru;cases t with
 | false =>
  obtain⟨kvs,h1,h2,h3⟩:=h;obtain⟨z,y,ws,hk,o,es,ep,g1,g2,g3,g4,g5,g6⟩:=(I.hok a _ h1);have hl:ks.length=kvs.length:=by grind
  have hn:es.size=ks.length:=by rw[hl,nh hk,<-g5.length,pG]
  exact xC y g1 g2 g3 hn (BP (by grind)) ⟨.int ks.length,H,I.tok _,⟨_,rfl⟩,q⟩
 | true =>
  obtain⟨xs,h1,_,h2,_⟩:=h;obtain⟨z,y,o,es,ep,g1,g2,g3,g4,g5⟩:=(I.hok a _ h1);have hl:ks.length=xs.length:=by grind
  exact xC y g1 g2 g3 (by rw[<-pG,g4,aN,hl]) (BP (by grind)) ⟨.int ks.length,H,I.tok _,⟨_,rfl⟩,q⟩
def DB:Gh X (.builtin "len") fE:=by
 rintro af s σ H xs us Q I rs ⟨aa,ae,F,st,τ,ps,p,e,R,bs,k⟩
 unfold fE at e;split at e
 ·obtain⟨hz,rfl⟩:=aB e;obtain⟨v,rfl,b⟩:=ek bs;rw[bN.mp b]at rs;exact vq af s σ H _ us Q I rs ⟨_,rfl,eQ hz,k _ H F R (Gr.refl F) (aC.mpr rfl)⟩
 ·obtain⟨n,e1,rfl⟩:=aR e;obtain⟨v,rfl,b⟩:=ek bs;unfold Uv at e1;split at e1
  ·rename_i z;cases e1;obtain⟨a,vs,rfl,ha,iE⟩:=R.at z b;exact lR af s σ H _ us Q I rs ⟨a,vs,rfl,.inr ha.2,k _ H F R (Gr.refl F) (aC.mpr (by rw[iE.length]))⟩
  ·rename_i z;cases e1;obtain⟨a,vs,rfl,ha,iE⟩:=R.at z b;exact lR af s σ H _ us Q I rs ⟨a,vs,rfl,.inl (iZ.sq ha),k _ H F R (Gr.refl F) (aC.mpr (by rw[iE.length]))⟩
  ·rename_i z;cases e1;obtain⟨a,vs,rfl,ha,iE⟩:=R.at z b;exact KL I rs ha (k _ H F R (Gr.refl F) (aC.mpr rfl))
  ·cases e1
 ·cases e
def DC:Gh X (.type "tuple") xB:=by
 rintro af s σ H xs us Q I rs ⟨aa,ae,F,st,τ,ps,p,e,R,bs,k⟩
 unfold xB at e;split at e
 ·cases e;obtain⟨v,rfl,b⟩:=ek bs;obtain⟨a,vs,rfl,ha,iE⟩:=bX.mp b;exact kB af s σ H _ us Q I rs ⟨a,vs,rfl,.inr ⟨bL R.sub ha,k _ H F R (Gr.refl F) b⟩⟩
 ·obtain⟨qs,e1,rfl⟩:=aR e;obtain⟨v,rfl,b⟩:=ek bs;obtain⟨a,vs,rfl,ha,iE⟩:=R.at (iD e1) b;refine kB af s σ H _ us Q I rs ⟨a,vs,rfl,.inl ⟨iZ.sq ha,λq hq=>?_⟩⟩
  obtain⟨R2,s2⟩:=R.laid (.ak vs) hq;exact k _ _ _ R2 s2 (bX.mpr ⟨q,_,rfl,gZ.of ay,iE.mono s2⟩)
 ·cases e
def DD:Gh X (.type "int") Gi:=by
 rintro af s σ H xs us Q I rs ⟨aa,ae,F,st,τ,ps,p,e,R,bs,k⟩
 unfold Gi at e;split at e
 ·cases e;obtain⟨v,rfl,b⟩:=ek bs;rw[aC.mp b]at rs;exact sV af s σ H _ us Q I rs (.inl ⟨_,rfl,k _ H F R (Gr.refl F) (aC.mpr rfl)⟩)
 ·cases e;obtain⟨v,rfl,b⟩:=ek bs;rw[br.mp b]at rs;exact sV af s σ H _ us Q I rs (.inr ⟨_,rfl,k _ H F R (Gr.refl F) (aC.mpr rfl)⟩)
 ·cases e
def DE:Gh X (.type "str") KI:=by
 rintro af s σ H xs us Q I rs ⟨aa,ae,F,st,τ,ps,p,e,R,bs,k⟩
 unfold KI at e;split at e
 ·rename_i i;obtain⟨⟨h0,h1⟩,rfl⟩:=aB e;obtain⟨v,rfl,b⟩:=ek bs;rw[aC.mp b]at rs;exact vi af s σ H _ us Q I rs ⟨i,rfl,(by
   by_cases h:i.natAbs=0
   ·simp_all
   ·exact mS (Nat.log2_le_self _) (by lia)),k _ H F R (Gr.refl F) (bN.mpr rfl)⟩
 ·cases e
theorem xD{K:W.Frag}{F:Fz}:∀{ps:List PV} {ns:List Int} {vs:List V},Gj ps=some ns->aw K F ps vs->vs=ns.map V.int
 | [],ns,vs,h,b=>by cases h;exact b.cH
 | p::r,ns,vs,h,b=>by
  obtain⟨i,ms,h1,h2,rfl⟩:=fF h;obtain⟨v,vr,rfl,c,d⟩:=b.cm;rw[fG h1]at c;rw[aC.mp c,xD h2 d];rfl
def KN{af:List (Addr×Obj)}{σ:St}{H:Hp}{s:Shared}{F:Fz}(I:Inv X af σ H s){a:Addr}{vs:List V}{ps:List PV}{ns:List Int}(hn:Gj ps=some ns)(ha:iZ X.K H a vs)(iE:aw X.K F ps vs) :
  ∃xs:Array (Int×Tok),s.heap.IsList a (intItems xs)/\ns=xs.toList.map (·.1):=by
 obtain⟨au,r,pl,_⟩:=I.list ha.sq;have ev:=xD hn iE;subst ev;have hi:=Ag r;obtain⟨xs,ex⟩:=hi.allInts.items;exact⟨xs,by rw[<-ex];exact pl.isList,by rw[<-hi.numsOf,<-nums_intItems,<-ex]⟩
def DF(hc:X.A.handled=none):Gh X (.builtin "sum") KJ:=by
 rintro af s σ H xs us Q I rs ⟨aa,ae,F,st,τ,ps,p,e,R,bs,k⟩
 unfold KJ at e;split at e
 ·obtain⟨qs,e1,e⟩:=aQ e;obtain⟨ns,e2,rfl⟩:=aR e;obtain⟨v,rfl,b⟩:=ek bs;obtain⟨a,vs,rfl,ha,iE⟩:=R.at (iD e1) b;obtain⟨xs,hl,hn⟩:=KN I e2 ha iE;obtain⟨u,rfl,ru⟩:=kA rs;cases ru;refine sum_intListG hc hl λh' tk t' hk=>⟨.int ns.sum,H,I.kept hk,⟨t',?_⟩,k _ H F R (Gr.refl F) (aC.mpr rfl)⟩
  rw[preSum_eq,uF (by simp),hn]
 ·cases e
inductive Ty where
 | int | str | bool | tuple | list
noncomputable def Ty.nm:Ty->String
 | .int=>"int" | .str=>"str" | .bool=>"bool" | .tuple=>"tuple" | .list=>"list"
def Ux(h:List ah):PV->Option String
 | .aP=>some "NoneType"
 | .bl _=>some "bool"
 | .int _=>some "int"
 | .str _=>some "str"
 | p=>match da h p with
  | some (.ak,_)=>some "tuple"
  | some (.lst,_)=>some "list"
  | _=>none
def Pk(t:Ty)(y:String):Bool:=y==t.nm || (t.nm=="int"&&y=="bool")
def WU(t:Ty)(fa:Gx PV):Gx PV:=bnd fa λp=>hp λh=>(Ux h p).map λy=>.bl (Pk t y)
def rIs(K:W.Frag)(t:Ty):List V->Hp->VK->Prop:=λxs H Q=>∃aa ae F st τ p x y,xs=[x,.ty t.nm]/\Rep K aa ae F st τ H/\bB K F p x/\Ux st.h p=some y/\Q (.bl (Pk t y)) H
def KO(t:Ty):kz X (.builtin "isinstance") (rIs X.K t):=by
 rintro af s σ H xs us Q I rs ⟨aa,ae,F,st,τ,p,x,y,ex,R,b,ey,q⟩
 subst ex;obtain⟨u,w,rfl,ru,Kj⟩:=FJ rs;cases Kj;have gW:∀tk,EP X af σ Q (.bool (Pk t y)) {s with toks:=tk}:=λtk=>⟨.bl _,H,I.tok tk,rfl,q⟩
 have more:(match da st.h p with
  | some (.ak,_)=>some "tuple"
  | some (.lst,_)=>some "list"
  | _=>none)=some y->wpAny (model X.prog X.w) X.A (call (.builtin "isinstance") [u,.type t.nm]) (EP X af σ Q) X.xe s:=λey=>by
  split at ey
  ·rename_i z;cases ey;obtain⟨a,vs,rfl,h2,h3⟩:=R.at z b;cases ru;obtain⟨au,_,⟨o,h1,h2,_⟩,_⟩:=I.tuple h2.2;exact W.kia_one W.kitx_tuple I.ou ⟨o,h1,h2⟩ (by cases t<;>kernel_rfl) (λz=>nomatch z) gW
  ·rename_i z;cases ey;obtain⟨a,vs,rfl,h2,h3⟩:=R.at z b;cases ru;obtain⟨au,n,_,h1,_⟩:=I.qA h2;exact W.kia_one W.kitx_list I.ou ⟨_,h1,rfl⟩ (by cases t<;>kernel_rfl) (λz=>nomatch z) gW
  ·cases ey
 cases p with
 | aP =>
  cases ey;rw[cV.mp b]at ru;cases ru;exact W.kia_one W.kitx_none I.ou True.intro (by cases t<;>kernel_rfl) (λz=>nomatch z) gW
 | bl y =>
  cases ey;rw[br.mp b]at ru;cases ru;exact W.kia_one W.kitx_bool I.ou True.intro (by cases t<;>kernel_rfl) (λz=>nomatch z) gW
 | int i =>
  cases ey;rw[aC.mp b]at ru;obtain⟨tk,rfl⟩:=ru;exact W.kia_one W.kitx_int I.ou True.intro (by cases t<;>kernel_rfl) (λz=>nomatch z) gW
 | str y =>
  cases ey;rw[bN.mp b]at ru;obtain⟨tk,rfl⟩:=ru;exact W.kia_one W.kitx_str I.ou True.intro (by cases t<;>kernel_rfl) (λz=>nomatch z) gW
 | ref n=>exact more ey
 | fn x=>exact more ey
 | nd k ps=>exact more ey
def oE:bootBuiltins "isinstance"=some (.builtin "isinstance"):=by kernel_rfl
def l9(t:Ty):bootBuiltins (Str.ofString t.nm)=some (.type t.nm):=by cases t<;>kernel_rfl
noncomputable def tys:List Ty:=[.int,.str,.bool,.tuple,.list]
def BQ(x:Str):Option Ty:=tys.find? λt=>x==Str.ofString t.nm
def Gk{x:Str}{t:Ty}(h:BQ x=some t):x=Str.ofString t.nm:=by
 have:=List.find?_some h;exact aY this
def YC{x:Str}{t:Ty}(ht:BQ x=some t)(hg:Gl X "isinstance")(hm:X.mg "isinstance"=none)(Jp:Gl X x)(Uy:X.mg x=none)(ha:PE X a (tE X aa ae fa))(hs:∀es,starEach (a::es) X.env=(false,eval a X.env)::starEach es X.env) :
  PE X (.Call (.Name "isinstance" p1) [a,.Name x p2] [] pos) (tE X aa ae (WU t fa)):=by
 have hx:=Gk ht;subst hx;refine(qm (KO t) hg hm oE (g9 ha (g9 (JO (v:=.ty t.nm) Jp Uy (l9 t) rfl (by cases t<;>decide) (by cases t<;>decide)) qk rfl) (hs _)) (by decide) (by decide) (hs _)).imp λσ H Q ⟨F,st,R,h⟩=>?_
 refine⟨F,st,R,h.bnd λp v F1 st1 H1 R1 g1 b1 h1=>?_⟩
 obtain⟨o,e,z⟩:=h1.hp;obtain⟨y,e1,rfl⟩:=aR e;exact⟨aa,ae,F1,st1,σ,p,v,y,rfl,R1,b1,e1,z _ H1 F1 R1 (Gr.refl _) (br.mpr rfl)⟩
def Pm(fa:Gx PV):Gx PV:=bnd fa λp=>jZ ((l7 p).map λi=>.int (-i))
def Uz(ha:PE X a (tE X aa ae fa)):PE X (.UnaryOp .USub a pos) (tE X aa ae (Pm fa)):=(Tj Ox ha).imp λσ H Q ⟨F,st,R,h⟩=>⟨F,st,R,h.bnd λp v F1 st1 H1 R1 g1 b1 h1=>by
 obtain⟨o,e,z⟩:=h1.jZ;obtain⟨i,e1,rfl⟩:=aR e;rw[fG e1]at b1;exact⟨i,aC.mp b1,z _ H1 F1 R1 (Gr.refl _) (aC.mpr rfl)⟩⟩
end
noncomputable def me(a m:Int)(n:Nat):List Nat:=sliceRange (sliceBounds (some a) none (some m) n).1 (sliceBounds (some a) none (some m) n).2.1 (sliceBounds (some a) none (some m) n).2.2
def jz{α:Type}(a m:Int)(ps:List α):List α:=(me a m ps.length).filterMap (ps[·]?)
def DG(p:PV)(l m:Option Int):Option PV:=match p,l,m with
 | .nd .lst ps,some a,some b=>if(b != 0&&decide ((me a b ps.length).length<=gX))=true then some (.lst (jz a b ps))else none
 | _,_,_=>none
def Pn(fa:Gx PV)(fl fm:Gx (Option Int)):Gx PV:=bnd fa λp=>bnd fl λl=>bnd fm λm=>jZ (DG p l m)
theorem nF{xs:List V}{us:List Value}(r:Vals xs us):∀is:List Nat,Vals (is.filterMap (xs[·]?)) (is.filterMap (us[·]?))
 | []=>.nil
 | i::is=>by
  cases h:xs[i]? with
  | none =>
   rw[uD h,uD (r.none_of h)];exact nF r is
  | some x =>
   obtain⟨u,h1,h2⟩:=r.get h;rw[uC h,uC h1];exact .cons h2 (nF r is)
theorem nG{K:W.Frag}{F:Fz}{ps:List PV}{vs:List V}(r:aw K F ps vs):∀is:List Nat,aw K F (is.filterMap (ps[·]?)) (is.filterMap (vs[·]?))
 | []=>.nil
 | i::is=>by
  cases h:ps[i]? with
  | none =>
   have h2:vs[i]?=none:=by
    have:=r.length;have:=ik.mp h;exact ik.mpr (by lia)
   rw[uD h,uD h2];exact nG r is
  | some p =>
   obtain⟨v,h1,h2⟩:=r.get h;rw[uC h,uC h1];exact .cons h2 (nG r is)
section
variable {X:Cx} {aa:Hp} {ae:Fz} {e:Expr} {fa:Gx PV} {pos p2:Pos} {lo:Option Expr} {hi:Expr}
def rSp(K:W.Frag):V->Option Int->Option Int->Hp->VK->Prop:=λx l m H Q=>∃c a b vs,x=.ref c/\l=some a/\m=some b/\iZ K H c vs/\b≠0/\(me a b vs.length).length<=gX/\∀q,H q=none->Q (.ref q) (cY H q (.lst (jz a b vs)))
def Po{te:TE}{tl th:TO}(he:PE X e te)(hl:PO X lo tl)(hu:PO X (some hi) th):PE X (.Subscript e (.Slice lo none (some hi) p2) pos) (tSl (rSp X.K) te tl th):=by
 intro af s σ H Q I h;refine Subscript_ (thn (he af s σ H _ I h) λv s1 ⟨x,H1,I1,r1,q1⟩=>?_)
 refine wpAny_Slice (thn (hl af s1 σ H1 _ I1 q1) λvl s2 ⟨l,H2,I2,pl,q2⟩=>?_)
 rw[evalPart_none];refine ar ?_;refine thn (hu af s2 σ H2 _ I2 q2) λvu s3 ⟨u,H3,I3,pu,q3⟩=>?_
 have I4:Inv X af σ H3 {s3 with heap:=s3.heap.push {cls:=.type "slice",data:=.fields #[vl,.none,vu]}}:=I3.kept λb ob q=>aK _ q
 show wpAny (model X.prog X.w) X.A (subscriptTail e (.Slice lo none (some hi) p2) v (.ref s3.heap.objs.size)) (EP X af σ Q) X.xe {s3 with heap:=s3.heap.push {cls:=.type "slice",data:=.fields #[vl,.none,vu]}}
 obtain⟨c,a,b,vs,rfl,rfl,rfl,hs,hb0,qB,q⟩:=q3;cases r1;obtain⟨au,r,ht,hz⟩:=I4.list (iZ.sq hs);have dX:au.toArray.size=vs.length:=by rw[cE];exact r.length.symm
 have hg:wpAny (model X.prog X.w) X.A (getItem (.ref c) (.ref s3.heap.objs.size)) (EP X af σ Q) X.xe {s3 with heap:=s3.heap.push {cls:=.type "slice",data:=.fields #[vl,.none,vu]}}:=by
  refine wpAny_getItem_list_slice ht.isList (Heap.IsSliceOf.new ..) pl .none pu (by simpa using hb0) ?_ (by rw[dX];exact hz)
  have UA:slicePick au.toArray (some a) none (some b)=((me a b vs.length).filterMap (au[·]?)).toArray:=by
   unfold slicePick me;rw[dX];refine gA (λf=>(List.filterMap f _).toArray) (funext λi=>?_)
   rw[List.getElem?_toArray]
  rw[UA];refine⟨.ref _,_,I4.laid (o:=.lst (jz a b vs)) (λb ob q=>aK _ q) (aF _) ?_,rfl,q _ (I4.hok.fresh (aF _))⟩
  exact⟨aX (List.length_filterMap_le _ _) (aX qB (by decide)),_,0,nF r _,bP _ rfl⟩
 exact nz (ops:=[.ref c,.ref s3.heap.objs.size]) ht.isList.typeIs slot_list_getitem.lookup hg (by with_unfolding_all rfl)
def UB{fl fh:Gx (Option Int)}(ha:PE X e (tE X aa ae fa))(hl:PO X lo (KD X aa ae fl))(hh:PO X (some hi) (KD X aa ae fh)):PE X (.Subscript e (.Slice lo none (some hi) p2) pos) (tE X aa ae (Pn fa fl fh)):=(Po ha hl hh).imp λσ H Q ⟨F,st,R,h⟩ =>
 ⟨F,st,R,h.bnd λp v F1 st1 H1 R1 g1 b1 h1=>⟨F1,st1,R1,h1.bnd λl l' F2 dW H2 R2 g2 b2 h2=>⟨F2,dW,R2,h2.bnd λr r' F3 JY H3 R3 g3 b3 h3=>by
  cases b2;cases b3;obtain⟨o,e,z⟩:=h3.jZ;unfold DG at e;split at e
  ·rename_i ps a b;obtain⟨hc,rfl⟩:=aB e;simp only[aG,bne_iff_ne,uM]at hc;obtain⟨ad,vs,rfl,hs,hb⟩:=dr.mp (b1.mono (g2.trans g3));rw[hb.length]at hc;refine⟨ad,a,b,vs,rfl,rfl,rfl,jx R3.sub hs,hc.1,hc.2,λq hq=>?_⟩
   obtain⟨R4,s4⟩:=R3.laid (.lst (jz a b vs)) hq;refine z _ _ _ R4 s4 (dr.mpr ⟨q,_,rfl,iZ.of ay,?_⟩);unfold jz;rw[hb.length];exact(nG hb _).mono s4
  ·cases e⟩⟩⟩
end
noncomputable def Gn:PV->Option dZ
 | .int i=>some (.inl i)
 | .str x=>some (.inr x)
 | _=>none
def i8:Bool->PV->Option (List dZ)
 | false,p=>(Gn p).map λk=>[k]
 | true,.nd .ak ps=>if ps.length<1000 then dC Gn ps else none
 | true,_=>none
noncomputable def jA(k:List dZ)(ks:List (List dZ)):Bool:=ks.any λj=>decide (j=k)
noncomputable def d8(k:List dZ):List (List dZ)->List PV->Option PV
 | j::ks,p::ps=>if j=k then some p else d8 k ks ps
 | _,_=>none
noncomputable def nH(k:List dZ)(q:PV):List (List dZ)->List PV->List PV
 | j::ks,p::ps=>(if j=k then q else p)::nH k q ks ps
 | _,ps=>ps
def xE:nH k q [] ps=ps:=by cases ps<;>rfl
def fj(t:Bool)(k:List dZ)(q:PV)(ks:List (List dZ))(ps:List PV):ah:=if jA k ks=true then⟨.gB t ks,nH k q ks ps⟩else⟨.gB t (ks++[k]),ps++[q]⟩
section
variable {K:W.Frag} {F:Fz}
def qH(h:Gn p=some k)(b:bB K F p v):v=kV k:=by
 cases p<;>cases h
 ·exact aC.mp b
 ·exact bN.mp b
theorem tx:∀{ps:List PV} {ks:List dZ} {vs:List V},dC Gn ps=some ks->aw K F ps vs->vs=ks.map kV
 | [],_,_,h,b=>by cases h;exact b.cH
 | _::_,_,_,h,b=>by
  obtain⟨k,r,h1,h2,rfl⟩:=fF h;obtain⟨v,w,rfl,b1,b2⟩:=b.cm;rw[qH h1 b1,tx h2 b2];rfl
def mh(h:i8 false p=some k)(b:bB K F p v):∃j,k=[j]/\v=kV j:=by
 obtain⟨j,e,rfl⟩:=aR h;exact⟨j,rfl,qH e b⟩
def mi(h:i8 true p=some k)(b:bB K F p v):∃c,v=.ref c/\gZ K F.F c (k.map kV):=by
 unfold i8 at h;split at h
 ·grind
 ·obtain⟨_,h⟩:=bU h;obtain⟨c,vs,rfl,hs,hb⟩:=bX.mp b;rw[tx h hb]at hs;exact⟨c,rfl,hs⟩
 ·cases h
theorem vC(j:dZ):∀kvs:List (dZ×V),jA [j] (kvs.map λy=>[y.1])=(oA kvs j).isSome
 | []=>rfl
 | (i,v)::r=>by
  have ih:=vC j r;unfold jA at ih ⊢;rw[aO,mZ,ih];by_cases h:i=j
  ·subst h;rw[lU rfl];simp
  ·rw[lV h];simp[h]
theorem BR:∀{kvs:List (dZ×V)} {ps:List PV} {p:PV},d8 [j] (kvs.map λy=>[y.1]) ps=some p->aw K F ps (kvs.map (·.2))->∃v,oA kvs j=some v/\bB K F p v
 | [],_,_,h,_=>by cases h
 | (i,v)::r,[],_,h,_=>by cases h
 | (i,v)::r,q::ps,p,h,b=>by
  obtain⟨v',w,e,b1,b2⟩:=b.cm;cases e;have h:(if [i]=[j]then some q else d8 [j] (r.map λy=>[y.1]) ps)=some p:=h
  by_cases hi:i=j
  ·subst hi;rw[if_pos rfl]at h;cases h;exact⟨v,lU rfl,b1⟩
  ·rw[if_neg (by grind)]at h
   rw[lV hi];exact BR h b2
def Gp(bq:bB K F q v)(b:aw K F ps (kvs.map (·.2))) :
  ∃lJ wQ,fj false [j] q (kvs.map λy=>[y.1]) ps=⟨.gB false lJ,wQ⟩/\(putK kvs j v).map (λy=>[y.1])=lJ/\aw K F wQ ((putK kvs j v).map (·.2)):=by
 unfold fj putK;rw[vC,xo];cases e:(oA kvs j).isSome with
 | false=>exact⟨_,_,rfl,by simp,by simpa using b.append (.cons bq .nil)⟩
 | true =>
  refine⟨_,_,rfl,?_,?_⟩
  ·rw[if_pos rfl,kX];exact zk λy _=>by grind
  ·rw[if_pos rfl];clear e;induction kvs generalizing ps with
   | nil=>rw[dQ,xE];exact b
   | cons y r ih =>
    cases ps with
    | nil=>have:=b.length;simp at this
    | cons p ps =>
     obtain⟨v',w,e,b1,b2⟩:=b.cm;simp only[aO,zE]at e;obtain⟨rfl,rfl⟩:=e;have ih:=ih b2;by_cases hy:y.1=j
     ·simpa only[aO,nH,hy,eO]using aw.cons bq ih
     ·have:¬ [y.1]=[j]:=by grind
      simpa only[aO,nH,hy,this,dS]using aw.cons b1 ih
def Ao(k:List dZ)(xs:List (List dZ×Addr×Value)):jA k (xs.map (·.1))=(atKey xs k).isSome:=(Dy xs k).symm
theorem BS:∀{xs:List (List dZ×Addr×Value)} {ps:List PV} {vs:List V} {p:PV},d8 k (xs.map (·.1)) ps=some p->aw K F ps vs->Vals vs (xs.map (·.2.2))->∃a r v,atKey xs k=some (a,r)/\RelV v r/\bB K F p v
 | [],_,_,_,h,_,_=>by cases h
 | x::r,[],_,_,h,_,_=>by cases h
 | x::r,q::ps,vs,p,h,b,rv=>by
  obtain⟨v',w,rfl,b1,b2⟩:=b.cm;cases rv with
  | cons r1 r2 =>
   have h:(if x.1=k then some q else d8 k (r.map (·.1)) ps)=some p:=h
   by_cases hi:x.1=k
   ·rw[if_pos hi]at h;cases h;exact⟨x.2.1,x.2.2,v',by simp[atKey,hi],r1,b1⟩
   ·rw[if_neg hi]at h;obtain⟨a,r',v,h1,h2,h3⟩:=BS h b2 r2;exact⟨a,r',v,by unfold atKey at h1 ⊢;rw[pQ,cF hi];exact h1,h2,h3⟩
def Pp(bq:bB K F q v)(rq:RelV v r)(hc:gZ K F.F c (k.map kV))(hk:fY K F.F xs)(b:aw K F ps vs)(rv:Vals vs (xs.map (·.2.2))) :
  ∃lJ wQ wR,fj true k q (xs.map (·.1)) ps=⟨.gB true lJ,wQ⟩/\(storedH xs k c r).map (·.1)=lJ/\fY K F.F (storedH xs k c r)/\aw K F wQ wR/\Vals wR ((storedH xs k c r).map (·.2.2)):=by
 unfold fj storedH;rw[Ao];cases e:(atKey xs k).isSome with
 | false =>
  refine⟨_,_,vs++[v],rfl,by simp,λx hx=>?_,b.append (.cons bq .nil),by simpa using rv.append (.cons rq .nil)⟩
  simp only[fT,dS,b8,aW]at hx;rcases hx with hx | rfl
  ·exact hk x hx
  ·exact hc
 | true =>
  simp only[eO];have hm:(xs.map (putAt k r)).map (·.1)=xs.map (·.1):=by
   rw[kX];exact zk λy _=>by simp only[Function.comp,putAt];split<;>rfl
  have key:fY K F.F (xs.map (putAt k r)):=λx hx=>by
   obtain⟨y,hy,rfl⟩:=dR.mp hx;have:=hk y hy;unfold putAt;split<;>exact this
  suffices h:∃wR,aw K F (nH k q (xs.map (·.1)) ps) wR/\Vals wR ((xs.map (putAt k r)).map (·.2.2)) by
   obtain⟨wR,h1,h2⟩:=h;exact⟨_,_,wR,rfl,hm,key,h1,h2⟩
  clear e hk hm key;induction xs generalizing ps vs with
  | nil=>exact⟨vs,by rw[dQ,xE];exact b,rv⟩
  | cons x xs ih =>
   cases ps with
   | nil=>rw[b.cH]at rv;cases rv
   | cons p ps =>
    obtain⟨v',w,rfl,b1,b2⟩:=b.cm;cases rv with
    | cons r1 r2 =>
     obtain⟨wR,h1,h2⟩:=ih b2 r2;by_cases hx:x.1=k
     ·exact⟨v::wR,by simpa only[aO,nH,hx,eO]using aw.cons bq h1,by simpa only[aO,putAt,hx,eO]using Paired.cons rq h2⟩
     ·exact⟨v'::wR,by simpa only[aO,nH,hx,dS]using aw.cons b1 h1,by simpa only[aO,putAt,hx,dS]using Paired.cons r1 h2⟩
end
def aJ:G2:=λh p q=>match p with
 | .str z=>(l7 q).bind λi=>if z.length<=gX then(rX z.cps.toList i).map λc=>.str ⟨#[c]⟩else none
 | p=>match da h p with
  | some (.ak,ps)=>(l7 q).bind (rX ps)
  | some (.lst,ps)=>(l7 q).bind (rX ps)
  | some (.gB t ks,ps)=>(i8 t q).bind λk=>d8 k ks ps
  | _=>none
section
variable {X:Cx} {aa:Hp} {ae:Fz} {a b e:Expr} {fa fb:Gx PV} {pos:Pos}
def ixT(hu:X.A.units+1150<cLine):Se X (rT X.K aJ):=by
 rintro value slice af s σ H x y v u Q I rx ry ⟨aa,ae,F,st,τ,pa,pb,p,e,R,ba,bb,k⟩ hs
 have more:(match da st.h pa with
  | some (.ak,ps)=>(l7 pb).bind (rX ps)
  | some (.lst,ps)=>(l7 pb).bind (rX ps)
  | some (.gB t ks,ps)=>(i8 t pb).bind λk=>d8 k ks ps
  | _=>none)=some p->wpAny (model X.prog X.w) X.A (subscriptTail value slice v u) (EP X af σ Q) X.xe s:=λe=>by
  split at e
  ·rename_i z;obtain⟨i,e1,e2⟩:=aQ e;rw[fG e1]at bb;rw[aC.mp bb]at ry;obtain⟨a,vs,rfl,ha,iE⟩:=R.at z ba;obtain⟨w,hw,bw⟩:=iE.rX e2;exact OJ value slice af s σ H _ _ v u Q I rx ry ⟨a,vs,_,w,rfl,rfl,ha.2,hw,k _ H F R (Gr.refl F) bw⟩ hs
  ·rename_i z;obtain⟨i,e1,e2⟩:=aQ e;rw[fG e1]at bb;rw[aC.mp bb]at ry;obtain⟨a,vs,rfl,ha,iE⟩:=R.at z ba;obtain⟨w,hw,bw⟩:=iE.rX e2;exact Ki value slice af s σ H _ _ v u Q I rx ry ⟨a,vs,_,w,rfl,rfl,iZ.sq ha,hw,k _ H F R (Gr.refl F) bw⟩ hs
  ·rename_i t ks ps z;obtain⟨kk,e1,e2⟩:=aQ e;obtain⟨a,vs,rfl,ha,iE⟩:=R.at z ba;cases rx;cases t with
   | false =>
    obtain⟨kvs,g1,g2,g3⟩:=ha;obtain⟨j,rfl,rfl⟩:=mh e1 bb;subst g2 g3;obtain⟨w,hw,bw⟩:=BR e2 iE;obtain⟨_,hd,us,MS,dd⟩:=BI I.hok (.inl g1);have hr:=MS.val j;rw[hw]at hr;cases hv:valueAt us j with
    | none=>rw[hv]at hr;exact hr.elim
    | some u' =>
     rw[hv]at hr;exact nz dd.typeIs PySem.F.slot_dict_getitem.lookup (wpAny_getItem_of (tf ry) dd.mapOf hv ⟨w,H,I.tok _,hr,k _ H F R (Gr.refl F) bw⟩) hs
   | true =>
    obtain⟨xs,g1,g2,g3,g4⟩:=ha;obtain⟨c,rfl,hc⟩:=mi e1 bb;cases ry;subst g3;obtain⟨ad,r,w,hw,Kj,bw⟩:=BS e2 iE g4;obtain⟨_,hd,dd⟩:=xp I (.inl g1) (λz hz=>bL R.sub (g2 z hz))
    obtain⟨o,_,_,ho,hx,_⟩:=id dd;refine nz ⟨o,ho,hx.1⟩ PySem.F.slot_dict_getitem.lookup (T5 (by lia) I (.inl g1) (λz hz=>bL R.sub (g2 z hz)) (bL R.sub hc) hw λs' I'=>⟨w,H,I',Kj,k _ H F R (Gr.refl F) bw⟩) hs
  ·cases e
 cases pa with
 | str z =>
  obtain⟨i,e1,e2⟩:=aQ e;rw[fG e1]at bb;obtain⟨hz,e2⟩:=bU e2;obtain⟨c,e3,rfl⟩:=aR e2;rw[bN.mp ba]at rx;rw[aC.mp bb]at ry;exact OK value slice af s σ H _ _ v u Q I rx ry ⟨z,i,c,rfl,rfl,eQ hz,e3,k _ H F R (Gr.refl F) (bN.mpr rfl)⟩ hs
 | aP=>exact more e
 | bl _=>exact more e
 | int _=>exact more e
 | ref _=>exact more e
 | fn _=>exact more e
 | nd _ _=>exact more e
def YD(hu:X.A.units+1150<cLine)(ha:PE X a (tE X aa ae fa))(hb:PE X b (tE X aa ae fb))(hs:lQ b):PE X (.Subscript a b pos) (tE X aa ae (op2 aJ fa fb)):=(FP (ixT hu) ha hb hs).imp λ_ _ _ h=>oZ h
def MT(n:Bool):G2:=λh p q=>match da h q with
 | some (.gB t ks,_)=>(i8 t p).map λk=>.bl (if n=true then !jA k ks else jA k ks)
 | _=>(F8 h q).bind λqs=>(YB h p qs).map λb=>.bl (if n=true then !b else b)
def Pq(hu:X.A.units+1150<cLine):oY X (compareOp .In) (MT false):=by
 rintro af s σ H x y v u Q I rx ry ⟨aa,ae,F,st,τ,pa,pb,p,e,R,ba,bb,k⟩
 unfold MT at e;split at e
 ·rename_i t ks ps z;obtain⟨kk,e1,rfl⟩:=aR e;obtain⟨a,vs,rfl,ha,iE⟩:=R.at z bb;cases ry;cases t with
  | false =>
   obtain⟨kvs,g1,g2,g3⟩:=ha;obtain⟨j,rfl,rfl⟩:=mh e1 ba;obtain⟨_,hd,us,MS,dd⟩:=BI I.hok (.inl g1);refine wpAny_in_of (tf rx) hd dd.mapOf ⟨.bl (oA kvs j).isSome,H,I.tok _,?_,k _ H F R (Gr.refl F) (br.mpr ?_)⟩
   ·rw[(MS.val j).td];rfl
   ·rw[<-g2,vC];rfl
  | true =>
   obtain⟨xs,g1,g2,g3,g4⟩:=ha;obtain⟨c,rfl,hc⟩:=mi e1 ba;cases rx;exact T3 (by lia) I (.inl g1) (λz hz=>bL R.sub (g2 z hz)) (bL R.sub hc) λs' I'=>⟨.bl _,H,I',rfl,k _ H F R (Gr.refl F) (br.mpr (by rw[<-g3,Ao];rfl))⟩
 ·obtain⟨qs,e1,e⟩:=aQ e;obtain⟨b,e2,rfl⟩:=aR e;exact(Gf hu I rx ry R ba bb e1 e2).1 (k _ H F R (Gr.refl F) (br.mpr rfl))
def DH(hu:X.A.units+1150<cLine):oY X (compareOp .NotIn) (MT true):=by
 rintro af s σ H x y v u Q I rx ry ⟨aa,ae,F,st,τ,pa,pb,p,e,R,ba,bb,k⟩
 unfold MT at e;split at e
 ·rename_i t ks ps z;obtain⟨kk,e1,rfl⟩:=aR e;obtain⟨a,vs,rfl,ha,iE⟩:=R.at z bb;cases ry;cases t with
  | false =>
   obtain⟨kvs,g1,g2,g3⟩:=ha;obtain⟨j,rfl,rfl⟩:=mh e1 ba;obtain⟨_,hd,us,MS,dd⟩:=BI I.hok (.inl g1);refine wpAny_notIn_of (tf rx) hd dd.mapOf ⟨.bl (!(oA kvs j).isSome),H,I.tok _,?_,k _ H F R (Gr.refl F) (br.mpr ?_)⟩
   ·rw[(MS.val j).td];rfl
   ·rw[<-g2,vC];rfl
  | true =>
   obtain⟨xs,g1,g2,g3,g4⟩:=ha;obtain⟨c,rfl,hc⟩:=mi e1 ba;cases rx;exact T4 (by lia) I (.inl g1) (λz hz=>bL R.sub (g2 z hz)) (bL R.sub hc) λs' I'=>⟨.bl _,H,I',rfl,k _ H F R (Gr.refl F) (br.mpr (by rw[<-g3,Ao];rfl))⟩
 ·obtain⟨qs,e1,e⟩:=aQ e;obtain⟨b,e2,rfl⟩:=aR e;exact(Gf hu I rx ry R ba bb e1 e2).2 (k _ H F R (Gr.refl F) (br.mpr rfl))
end
def Gq:G2:=λ_ p q=>match q with | .aP=>some (.bl (!lZ p)) | .bl b=>(YA b p).map λc=>.bl (!c) | _=>none
def KP:oY X (compareOp .IsNot) Gq:=by
 rintro af s σ H x y v u Q I rx ry ⟨aa,ae,F,st,τ,pa,pb,p,e,R,ba,bb,k⟩
 unfold Gq at e;split at e
 ·cases e;exact J3 af s σ H x y v u Q I rx ry ⟨cV.mp bb,k _ H F R (Gr.refl F) (br.mpr (by rw[BN ba]))⟩
 ·rename_i b;obtain⟨c,e1,rfl⟩:=aR e;obtain⟨a,rfl,rfl⟩:=xy e1;rw[br.mp ba]at rx;rw[br.mp bb]at ry;cases rx;cases ry;exact wpAny_isNot_plain rfl ⟨.bl _,H,I,(by cases a<;>cases b<;>rfl),k _ H F R (Gr.refl F) (br.mpr rfl)⟩
 ·cases e
def gtO:G2:=nD (λ_ _=>true) λi j=>.bl (decide (j<i))
def KQ:G2:=λh p q=>match p,q with
 | .str a,.str b=>some (.bl (!(decide (b.cps.toList<a.cps.toList))))
 | p,q=>leO h p q
def Pr:oY X (compareOp .LtE) KQ:=by
 rintro af s σ H x y v u Q I rx ry ⟨aa,ae,F,st,τ,pa,pb,p,e,R,ba,bb,k⟩
 unfold KQ at e;split at e
 ·cases e;rw[bN.mp ba]at rx;rw[bN.mp bb]at ry;obtain⟨t1,rfl⟩:=rx;obtain⟨t2,rfl⟩:=ry;exact PySem.P.le_str ⟨.bl _,H,I,rfl,k _ H F R (Gr.refl F) (br.mpr rfl)⟩
 ·exact eR (tu Tq) (λ_ _ _=>trivial) (λ_ _ _=>br.mpr rfl) af s σ H x y v u Q I rx ry ⟨aa,ae,F,st,τ,pa,pb,p,e,R,ba,bb,k⟩
def Ap:CmpOp->Option G2
 | .Eq=>some qG
 | .NotEq=>some MR
 | .Lt=>some MP
 | .LtE=>some KQ
 | .Gt=>some gtO
 | .GtE=>some WT
 | .Is=>some Ut
 | .IsNot=>some Gq
 | .In=>some (MT false)
 | .NotIn=>some (MT true)
def j2(hu:X.A.units+1150<cLine)(h:Ap op=some g):oY X (compareOp op) g:=by
 have nn:∀i j:Int,(λ_ _=>true) i j=true->(λ_ _=>True) i j:=by grind
 cases op<;>cases h
 ·exact Pc hu
 ·exact Pd hu
 ·exact eR (tu To) nn λ_ _ _=>br.mpr rfl
 ·exact Pr
 ·exact eR (tu Ts) nn λ_ _ _=>br.mpr rfl
 ·exact eR (tu Tt) nn λ_ _ _=>br.mpr rfl
 ·exact Pe
 ·exact KP
 ·exact Pq hu
 ·exact DH hu
end L2.U
namespace L2
open PySem PySem.Spec PyProof.Rows
section
variable {X:Cx}
def Gu:PE X (.Dict [] [] pos) (MM (.dK [])):=λaf s σ H Q I h =>
 wpAny_Dict_empty ⟨.ref s.heap.objs.size,_,I.laid (o:=.dK []) (λ_ _ q=>aK _ q) (aF _)
  ⟨jt _,bO.mpr (cx (bF (qr I))),[],.nil,Heap.DictOf.new s.heap⟩,rfl,h _ (I.hok.fresh (aF _))⟩
def Pt(K:W.Frag):V->List V->Hp->VK->Prop:=λx vs H Q=>∃l b xs zs,x=.ref l/\vs=[.ref b]/\H l=some (.lst xs)/\(gZ K H b zs\/iZ K H b zs)/\xs.length+zs.length<=sizeLine/\Q .aP (cY H l (.lst (xs++zs)))
def vD(l:Addr)(au:Array Value)(n:Nat)(b:Addr)(more:Array Value)(n2:Nat)(dd:Option Addr)(sl:Array (Option Value))(h0:¬(!au.isEmpty&&Builtin.List.listTooLong (au.size+more.size))=true)(h1:au.size<=sizeLine)(h2:au.size+more.size<=sizeLine+1) :
  Meets (Builtin.«list.extend» ⟨[.ref l,.ref b],[]⟩) (λ_ R s=>s.heap.get? l=some {cls:=.type "list",dict:=none,data:=.seq au n,slots:=#[]}/\s.heap.get? b=some {cls:=.type "tuple",dict:=dd,data:=.seq more n2,slots:=sl} /\
   R (.ok (.ret Value.none)) {s with heap:=s.heap.update l (Obj.mapSeq λx=>x++more),toks:=s.toks}) :=
 .of_wp λprog w A R s h=>by
  obtain⟨hp,g,d,tk,os⟩:=s;obtain⟨hl,hb,h⟩:=h;have f1:=AutoSeq1.idx_int;have f2:=AutoSeq1.sub_tuple_tuple;have f3:=AutoSeq1.sub_list_list;have f4:=AutoSeq1.sub_tuple_list;have f5:=AutoSeq1.sub_list_tuple
  wp_walk using (pM hl rfl (_hz':=(by rw[Array.size_append];exact h2))),jk hl,jk hb
  exact⟨_,rfl,h⟩
def Pu:Yo X "list.extend" (Pt X.K):=by
 intro af s σ H x vs v us Q I rx rv h;obtain⟨l,b,xs,zs,rfl,rfl,hH,hB,hz,q⟩:=h;cases rx;obtain⟨u,rfl,ru⟩:=rv.one;cases ru;obtain⟨z,au,n,r,hl,e⟩:=I.dY hH;have go:∀eZ,Vals zs eZ->(¬(!au.toArray.isEmpty&&Builtin.List.listTooLong (au.toArray.size+eZ.toArray.size))=true/\au.toArray.size<=sizeLine/\au.toArray.size+eZ.toArray.size<=sizeLine+1) /\
   EP X af σ Q Value.none {s with heap:=s.heap.update l (Obj.mapSeq λx=>x++eZ.toArray),toks:=s.toks}:=λeZ r2=>by
  have Yy:=r2.length;have hsz:au.toArray.size+eZ.toArray.size<=sizeLine:=by grind
  refine⟨⟨?_,by grind,(Nat.le_add_right_of_le ‹_›)⟩,.aP,_,I.ON hH e (by simp) (r.append r2) (by grind),rfl,q⟩
  rw[xm hsz,az];exact cR
 rcases hB with hB | hB
 ·obtain⟨eZ,r2,⟨⟨cls,dd,dat,sl⟩,e2,hc,n2,hd⟩,_⟩:=I.tuple hB;simp only at hc hd;subst hc hd;obtain⟨⟨g1,g2,g3⟩,g4⟩:=go eZ r2;exact fX F.slot_list_extend ⟨_,e,rfl⟩ F.entry_list_extend (F.args_list_extend_2 _ _) (vD l au.toArray n b eZ.toArray n2 dd sl g1 g2 g3) ⟨e,e2,g4⟩
 ·obtain⟨eZ,n2,r2,e2,_⟩:=I.qA hB;obtain⟨⟨g1,g2,g3⟩,g4⟩:=go eZ r2;exact fX F.slot_list_extend ⟨_,e,rfl⟩ F.entry_list_extend (F.args_list_extend_2 _ _) (AutoSeq1.list_extend_list_list_0 l au.toArray n b eZ.toArray n2 g1 g2 g3) ⟨e,e2,g4⟩
def BU(kvs:List (dZ×V))(k:dZ)(v:V):(putK kvs k v).length<=kvs.length+1:=by
 unfold putK;split
 ·grind
 ·grind
def UC:Fu:=λo i v H Q=>∃a kvs k,o=.ref a/\i=kV k/\H a=some (.dK kvs)/\kvs.length<sizeLine/\Q (cY H a (.dK (putK kvs k v)))
def Pw:Fv X UC:=by
 rintro af s σ H o i v ov iv u Q I ro ri rv ⟨a,kvs,k,ex,ey,e1,e2,q⟩
 subst ex ey;cases ro;obtain⟨z,hd,vs,MS,dd⟩:=TZ I.hok e1;refine wpAny_setItem_pairs (tf ri) dd (λh' WQ UD=>?_) (by rw[<-MS.length];exact z)
 have YE:=MS.put k rv;have he:∃q,h'.get? a=some q:=let ⟨q,_,_,hq,_⟩:=WQ;⟨q,hq⟩
 exact⟨_,I.write (o:=.dK (putK kvs k v)) (by rw[e1];exact True.intro) (.inl rfl) (λc q' hc z=>(UD.2 c hc).trans z) he ⟨by have:=BU kvs k v;lia,hd,_,YE,WQ⟩,q⟩
def UE(K:W.Frag):Fu:=λo i v H Q=>∃a b xs k,o=.ref a/\i=.ref b/\H a=some (.dT xs)/\fY K H xs/\gZ K H b (k.map kV)/\xs.length<sizeLine/\∀r,RelV v r->Q (cY H a (.dT (storedH xs k b r)))
def Px(hu:X.A.units+1<cLine):Fv X (UE X.K):=by
 rintro af s σ H o i v ov iv u Q I ro ri rv ⟨a,b,xs,k,ex,ey,e1,e2,e3,e4,q⟩
 subst ex ey;cases ro;cases ri;exact OO hu I e1 e2 e3 e4 λs4 I4=>⟨_,I4,q u rv⟩
end
end L2
namespace L2.U
open PySem PySem.Spec PyProof.Rows
abbrev MG:=ah->List PV->Option (ah×PV)
def kf(h:List ah):PV->Option (Nat×ah)
 | .ref n=>(h[n]?).bind λc=>if live c=true then some (n,c)else none
 | _=>none
def gr(e:kf h p=some (n,c)):p=.ref n/\h[n]?=some c/\live c=true:=by
 cases p with
 | ref m =>
  obtain⟨d,e1,e2⟩:=aQ e;obtain⟨hl,e3⟩:=aB e2;cases e3;exact⟨rfl,e1,hl⟩
 | _=>cases e
def fH(g:MG)(p:PV)(as:List PV):Gx PV:=λst=>(kf st.h p).bind λc=>(g c.2 as).map λr=>(.ok r.2,⟨st.ρ,st.h.set c.1 r.1⟩)
section
variable {X:Cx} {aa H:Hp} {ae F:Fz} {st:cq} {σ:St}
def Gv(K:W.Frag)(r:V->List V->Hp->VK->Prop)(g:MG):Prop:=∀(aa H:Hp) (ae F:Fz) (st:cq) (σ:St) (n:Nat) (c c':ah) (a:Addr) (as:List PV) (ws:List V) (q:PV) (Q:VK),
 Rep K aa ae F st σ H->st.h[n]?=some c->live c=true->F.μ[n]?=some a->g c as=some (c',q)->aw K F as ws->(∀v F' H',Rep K aa ae F' ⟨st.ρ,st.h.set n c'⟩ σ H'->Gr F F'->bB K F' q v->Q v H')->r (.ref a) ws H Q
def Rep.put(R:Rep X.K aa ae F st σ H){c d:ah}(hc:st.h[n]?=some c)(hl:live c=true)(ha:F.μ[n]?=some a)(hn:lb X.K F.F (cY H a o) a true d.k vs)(hb:aw X.K F d.ps vs) :
  Rep X.K aa ae F ⟨st.ρ,st.h.set n d⟩ σ (cY H a o):=⟨R.c.write hc hl ha hn hb,R.l⟩
noncomputable def dY(f:List PV->List PV->Option (List PV)):MG:=λc as=>match c.k with
 | .lst=>(f c.ps as).map λqs=>(⟨.lst,qs⟩,.aP)
 | _=>none
def KR
  (h:∀(H:Hp) (F:Fz) (ps as qs:List PV) (vs ws:List V) (a:Addr) (Q:VK) (h:List ah),cA F.F H->f ps as=some qs->H a=some (.lst vs)->aw X.K F ps vs->aw X.K F as ws->(∀wR,aw X.K F qs wR->Q .aP (cY H a (.lst wR)))->r (.ref a) ws H Q):Gv X.K r (dY f):=by
 intro aa H ae F st σ n c c' a as ws q Q R hc hl ha hg hb k;unfold dY at hg;split at hg
 ·rename_i hk;obtain⟨qs,e1,e2⟩:=aR hg;cases e2;obtain⟨_,vs,h2,h3⟩:=R.c.cell n c a hc ha hl;rw[hk]at h2;exact h H F c.ps as qs vs ws a Q st.h R.sub e1 h2 h3 hb λwR b'=>k _ F _ (R.put hc hl ha ay b') (Gr.refl _) (cV.mpr rfl)
 ·cases hg
def eS:List PV->List PV->Option (List PV):=λps as=>match as with | [p]=>if ps.length<gX then some (ps++[p])else none | _=>none
def KS:Gv X.K BH (dY eS):=KR λH F ps as qs vs ws a Q h hs hf ha bp ba k=>by
 unfold eS at hf;split at hf
 ·obtain⟨hl,rfl⟩:=aB hf;obtain⟨v,rfl,b⟩:=ek ba;exact⟨a,vs,v,rfl,rfl,ha,by rw[<-bp.length];exact bV hl (eQ (aF _)),k _ (bp.append ba)⟩
 ·cases hf
def oF(p:PV)(as:List PV):Gx PV:=λst=>match as with
 | [q]=>(F8 st.h q).bind λrs=>fH (dY λps _=>if ps.length+rs.length<=gX then some (ps++rs)else none) p [] st
 | _=>none
def Tx.mut(hg:Gv X.K r g)(h:Tx X aa ae (bB X.K) F st (fH g p as) σ Q)(R:Rep X.K aa ae F st σ H)(bp:bB X.K F p v)(ba:aw X.K F as ws):r v ws H Q:=by
 obtain⟨q,h1,h2⟩:=h;obtain⟨⟨n,c⟩,e1,e2⟩:=aQ h1;obtain⟨⟨c',x⟩,e3,e4⟩:=aR e2;subst e4;obtain⟨rfl,hc,hl⟩:=gr e1;obtain⟨a,ha,rfl⟩:=dq.mp bp;exact hg aa H ae F st σ n c c' a as ws x Q R hc hl ha e3 ba λv F' H' R' g' b'=>h2 v H' F' R' g' b'
def Tx.ext{Q:VK}(h:Tx X aa ae (bB X.K) F st (oF p as) σ Q)(R:Rep X.K aa ae F st σ H)(bp:bB X.K F p v)(ba:aw X.K F as ws):Pt X.K v ws H Q:=by
 obtain⟨x,h1,h2⟩:=h;unfold oF at h1;split at h1
 ·rename_i q;obtain⟨rs,e0,h1⟩:=aQ h1;obtain⟨w,rfl,bw⟩:=ek ba;obtain⟨b,zs,rfl,hs,hb⟩:=R.seq e0 bw;obtain⟨⟨n,c⟩,e1,e2⟩:=aQ h1;obtain⟨⟨c',y⟩,e3,e4⟩:=aR e2;subst e4;obtain⟨rfl,hc,hl⟩:=gr e1;obtain⟨a,ha,rfl⟩:=dq.mp bp;unfold dY at e3;split at e3
  ·rename_i hk;obtain⟨qs,e5,e6⟩:=aR e3;cases e6;obtain⟨hz,rfl⟩:=aB e5;obtain⟨_,vs,g2,g3⟩:=R.c.cell n c a hc ha hl;rw[hk]at g2;exact⟨a,b,vs,zs,rfl,rfl,g2,hs,by rw[<-g3.length,<-hb.length];exact eQ hz,h2 .aP _ F (R.put hc hl ha ay (g3.append hb)) (Gr.refl _) (cV.mpr rfl)⟩
  ·cases e3
 ·cases h1
end
section
variable {prog:Program} {w:World} {A:Around} {R:Result->Shared->Prop} {s:Shared}
abbrev nb(prog:Program)(w:World)(A:Around)(env:Env)(R:Result->Shared->Prop):Value->Shared->Prop:=notedBy (model prog w) A env λe s'=>R (.error e) s'
noncomputable abbrev BV(ifs:List Expr)(env:Env):Sem Bool:=forIn ifs true λc r=>if r=true then do let ok <-isTrue c env (eval c env);pure (ForInStep.yield ok)else pure (ForInStep.yield r)
def DI(I:Nat->Shared->Prop)
  (qc:∀n s,I n s->wpAny (model prog w) A (pyNext it) (λr s1=>match r with
   | none=>R (.ok .next) s1
   | some v=>wpAny (model prog w) A (letOwnedTupleGo tg it v) (λ_ s1'=>wpAny (model prog w) A (assign tg env v) (λ_ s2=>wpAny (model prog w) A (BV ifs env) (λok s3 =>
      if ok=true then wpAny (model prog w) A (eval elt env) (λx s4=>wpAny (model prog w) A (call (.builtin "list.append") [acc,x]) (λ_ s5=>∃m,m<n/\I m s5) (nb prog w A env R) s4) (nb prog w A env R) s3
      else ∃m,m<n/\I m s3) (nb prog w A env R) s2) (nb prog w A env R) s1') (nb prog w A env R) s1) (nb prog w A env R) s)
  (n:Nat) (h:I n s):codeAny (model prog w) A (.compLoop (.ListComp elt [⟨tg,iter,ifs,0⟩] scope pos) 0 it acc env) R s:=by
 refine codeAny_loop rfl I (λn s hI=>?_) n h
 refine wpAny_noted ?_;rw[compTurn_list];refine ag (uX (ag (thn (qc n s hI) λr s1 h1=>?_)))
 cases r with
 | none=>exact ar h1
 | some v =>
  refine ag (thn h1 λ_ s1' YF=>ag (thn YF λ_ s2 h2=>ag (thn h2 λok s3 h3=>?_)))
  cases ok with
  | false=>exact ar ⟨rfl,h3⟩
  | true=>exact ag (ag (thn h3 λx s4 h4=>ag (thn h4 λ_ s5 h5=>ar (ar ⟨rfl,h5⟩))))
end
noncomputable def nI(env:Env):List (Str×NameKind)->List (Str×Addr)->List (Str×Addr)
 | [],cs=>cs
 | (n,k)::r,cs=>nI env r (if k==.free then(match env.cells.lookup n with | some c=>(n,c)::cs | none=>cs)else cs)
def Aq(h:∀y∈scope.names,y.2=.free->∃c,env.cells.lookup y.1=some c):closureFor scope env=pure (nI env scope.names []):=by
 have all:∀(l:List (Str×NameKind)) (cs:List (Str×Addr)),(∀y∈l,y.2=.free->∃c,env.cells.lookup y.1=some c) ->
   (forIn l cs λx r=>(match x with | (name,kind)=>if(kind==NameKind.free)=true then do let a <-cellOf env name;pure (ForInStep.yield ((name,a)::r))else pure (ForInStep.yield r):Sem (ForInStep (List (Str×Addr)))))=pure (nI env l cs):=by
  intro l;induction l with
  | nil=>intro cs _;rfl
  | cons y l ih =>
   intro cs hl;obtain⟨n,k⟩:=y;rw[pS];by_cases hk:k=.free
   ·subst hk;obtain⟨c,hc⟩:=hl (n,.free) dy rfl;have zS:=hc;have e1:cellOf env n=pure c:=by unfold cellOf;rw[zS]
    simp only[e1,nI,zS];exact ih _ λy hy=>hl y (cW _ hy)
   ·have hb:(k==NameKind.free)=false:=by simpa using hk
    simp only[hb,nI];exact ih _ λy hy=>hl y (cW _ hy)
 unfold closureFor;have:=all scope.names [] h;simp only[bind_pure]at this ⊢;exact this
theorem xF:∀(l:List (Str×NameKind)) (cs:List (Str×Addr)) (p:Str×Addr),p∈nI env l cs->p∈cs\/env.cells.lookup p.1=some p.2
 | [],_,_,h=>.inl h
 | (n,k)::r,cs,p,h=>by
  unfold nI at h;rcases xF r _ p h with q | q
  ·grind
  ·grind
def dD(h:(nI env l []).lookup x=some c):env.cells.lookup x=some c:=by
 rcases xF l [] (x,c) (fy h)with q | q
 ·cases q
 ·exact q
theorem tD:∀(l:List (Str×NameKind)) (cs:List (Str×Addr)),(∃c,(x,c)∈cs)->∃c,(x,c)∈nI env l cs
 | [],_,h=>h
 | (n,k)::r,cs,⟨c,h⟩=>by
  unfold nI;refine tD r _ ⟨c,?_⟩;split
  ·grind
  ·exact h
theorem qI:∀(l:List (Str×NameKind)) (cs:List (Str×Addr)),(x,NameKind.free)∈l->(∃c,env.cells.lookup x=some c)->∃c,(x,c)∈nI env l cs
 | [],_,h,_=>by cases h
 | (n,k)::r,cs,h,hc=>by
  unfold nI;rcases aD.mp h with z | z
  ·cases z;obtain⟨c,e⟩:=hc;refine tD r _ ⟨c,?_⟩;simp[e]
  ·exact qI r _ z hc
theorem iw:∀{l:List (Str×Addr)},(x,c)∈l->∃c',l.lookup x=some c'
 | [],h=>by cases h
 | (n,d)::r,h=>by
  rw[eN];cases hx:x==n with
  | true=>exact⟨d,rfl⟩
  | false =>
   rcases aD.mp h with z | z
   ·grind
   ·exact iw z
def cy(X:Cx)(N:List Str)(scope:Scope)(C:Addr)(s:Shared)(H:Hp)(fp:List Addr):Cx where
 prog:=X.prog
 w:=X.w
 K:=X.K
 mg:=X.mg
 base:=X.base
 A:=X.A
 N:=N
 s₀:=s
 aa:=H
 env:=compEnvC scope (nI X.env scope.names []) C X.env
 ax:=X.stack
 stack:=X.stack
 ex:=fp
 fn:=λ_=>false
 calm:=X.calm
 pn:=[]
 xe:=λ_ _=>False
theorem gK{env:Env}:∀(names:List (Str×NameKind)) (x:Str),(names.map fun(n,k)=>if(k==NameKind.free&&env.scope.kind==.function&&env.kindOf n==some .cell)then(n,NameKind.cell)else(n,k)).lookup x =
  (names.lookup x).map λk=>if(k==NameKind.free&&env.scope.kind==.function&&env.kindOf x==some .cell)then NameKind.cell else k
 | [],_=>rfl
 | (n,j)::r,x=>by
  have e:(if(j==NameKind.free&&env.scope.kind==.function&&env.kindOf n==some .cell)=true then(n,NameKind.cell)else(n,j))=(n,if(j==NameKind.free&&env.scope.kind==.function&&env.kindOf n==some .cell)=true then NameKind.cell else j):=by split<;>rfl
  show List.lookup x ((if(j==NameKind.free&&env.scope.kind==.function&&env.kindOf n==some .cell)=true then(n,NameKind.cell)else(n,j))::_)=_
  rw[e,eN,eN];cases hx:x==n with
  | true =>
   have Ar:=aY hx;subst Ar;rfl
  | false=>exact gK r x
def mj{env:Env}{names:List (Str×NameKind)}(h:(names.map fun(n,k)=>if(k==NameKind.free&&env.scope.kind==.function&&env.kindOf n==some .cell)then(n,NameKind.cell)else(n,k)).lookup x=some k) :
  names.lookup x=some k\/(k=.cell/\names.lookup x=some .free):=by
 rw[gK]at h;cases z:names.lookup x with
 | none=>rw[z]at h;cases h
 | some j =>
  rw[z]at h;have h:(if(j==NameKind.free&&env.scope.kind==.function&&env.kindOf x==some .cell)=true then NameKind.cell else j)=k:=by grind
  split at h
  ·grind
  ·grind
def vE{env:Env}{names:List (Str×NameKind)}(h:names.lookup x=some .free) :
  (names.map fun(n,k)=>if(k==NameKind.free&&env.scope.kind==.function&&env.kindOf n==some .cell)then(n,NameKind.cell)else(n,k)).lookup x=some .cell \/
  (names.map fun(n,k)=>if(k==NameKind.free&&env.scope.kind==.function&&env.kindOf n==some .cell)then(n,NameKind.cell)else(n,k)).lookup x=some .free:=by
 rw[gK,h];show some (if _ then _ else _)=_\/some (if _ then _ else _)=_
 split
 ·grind
 ·grind
structure iG (X:Cx) (N:List Str) (link:List (Option Nat)) (scope:Scope):Prop where
 kind:scope.kind=.function
 cell:∀y∈scope.names,y.2≠.cell
 names:∀y∈scope.names,y.2=.local->scope.names.lookup y.1=some .local
 free:∀y∈scope.names,y.2=.free->(X.env.kindOf y.1=some .cell\/X.env.kindOf y.1=some .free)
 len:link.length=N.length
 link:∀(i j:Nat) (x:Str),link[i]?=some (some j)->N[i]?=some x->X.N[j]?=some x/\scope.names.lookup x=some .free
noncomputable def i9(link:List (Option Nat))(σ:St):St:=link.map λo=>o.bind λj=>(σ[j]?).join
section
variable {X:Cx} {af:List (Addr×Obj)} {σ:St} {H:Hp} {s:Shared}
def Inv.adopt(I:Inv X af σ H s)(hn:H D=none)(h1:X.s₀.heap.objs.size<=D)(h2:D≠X.env.locals)(h3:∀x c,X.env.cells.lookup x=some c->c≠D)(h4:∀p∈X.pn++af,p.1≠D)
  (ho:fJ X.prog X.w (cY H D o) s.heap D o):Inv X af σ (cY H D o) s:=by
 have ne:∀b u,H b=some u->b≠D:=λb u e z=>by rw[z,hn]at e;cases e
 refine I.step (ch:=[D]) (λb hb=>?_) (λb u _ _ _ e _=>e) (λb u _ _ _ e _=>⟨u.slots,e⟩) (λb u hc _ n=>?_) (λb u _ e=>⟨u,e⟩)
  (λb xs e=>by rw[aM (ne b _ e)];exact e) (λb u xs e=>by rw[aM (ne b _ e)];exact e) (λb ps e=>by rw[aM (ne b _ e)];exact e) (λm hm=>hm) (λb u e=>?_) I.bare
 ·have e:b=D:=by simpa using hb
  subst e;exact⟨.inr h1,h2,h3,h4⟩
 ·rw[aM (λz=>hc (by simp[z]))];exact n
 ·by_cases hb:b=D
  ·subst hb;rw[ay]at e;cases e;exact ho
  ·rw[aM hb]at e;exact(I.hok b u e).w6 (λ_ _ _ q=>q) (λc q=>by rw[aM (ne c _ q)];exact q) (λc xs q=>by rw[aM (ne c _ q)];exact q) λc ob v q=>by rw[aM (ne c _ q)];exact q
def As{N:List Str}{link:List (Option Nat)}(S:iG X N link scope)(I:Inv X af σ H s)(WV:∀b∈fp,qd X af H b)
  (hC:s.heap.objs.size<=C) (ns:h.Ns C λ_=>none) (hk:∀b o,s.heap.get? b=some o->h.get? b=some o) (hex:∀b∈fp,∃o,s.heap.get? b=some o) :
  Inv (cy X N scope C s H fp) [] (i9 link σ) H {s with heap:=h,toks:=tk}:=by
 have xb:∀y∈scope.names,y.2=.free->∃c,X.env.cells.lookup y.1=some c:=λy hy hf=>I.ok.has y.1 (S.free y hy hf)
 have YG:∀x c,X.env.cells.lookup x=some c->c<s.heap.objs.size:=λx c e=>let ⟨v,o,ho,_⟩:=I.cell x c e;aH ho
 refine⟨⟨I.ok.mod,S.kind,I.ok.glob,I.ok.blt,hC,λx y c h1 h2=>I.ok.inj x y c (dD h1) (dD h2),λx hx=>?_,λx c hx=>(by cases hx),I.ok.hd,I.ok.frames,.inl rfl,λb hb=>⟨?_,λx c e=>(WV b hb).2.2.2.2.1 x c (dD e)⟩,I.bs,aX I.ok.bsz I.sz,
  λb o e hb=>?_,λb hb z=>?_,I.stack,I.vd,I.tabs⟩,rfl,I.bare,Un.kept hk,⟨_,ns,λi x v e1 e2 e3=>?_⟩,λx c e=>?_,I.hok.fresh hC,λx c e=>I.freeC x c (dD e),λp hp=>(by cases hp),I.hok.kept hk,by unfold i9;rw[aN];exact S.len⟩
 ·-- JA cells Xs there
  have Ar:=hx;have hf:scope.names.lookup x=some .free:=by
   rcases Ar with h1 | h1
   ·rcases mj h1 with q | ⟨_,q⟩
    ·exact absurd rfl (S.cell _ (fy q))
    ·exact q
   ·rcases mj h1 with q | ⟨z,_⟩
    ·exact q
    ·cases z
  have hm:=fy hf;obtain⟨c,hc⟩:=qI scope.names [] hm (xb _ hm rfl);exact iw hc
 ·intro z;obtain⟨o,ho⟩:=hex b hb;exact absurd (bV (aH ho) (aX hC (js z.symm))) (fB _)
 ·rcases(WV b hb).2.2.2.1 with z | z
  ·exact I.ok.noex b o e z
  ·exact absurd (bV (aH e) (aX I.ok.bsz z)) (fB _)
 ·rcases aD.mp (I.vc b z)with q | q
  ·exact(WV b hb).2.1 q
  ·exact(WV b hb).2.2.1 q
 ·-- a slot: aa7 adl from JA YH
  have hi:i<link.length:=by
   have:=(de.mp e2).1;unfold i9 at this
   rwa [aN]at this
  unfold i9 at e2;rw[bK,eu hi]at e2;have e2:=bE e2;cases z:link[i]with
  | none=>rw[z]at e2;cases e2
  | some j =>
   rw[z]at e2;have e2:(σ[j]?).join=some v:=e2;obtain⟨hX,hf⟩:=S.link i j x (by rw[eu hi,z]) e1
   have hm:=fy hf;have hk2:=S.free _ hm rfl;obtain⟨m,hn,hl⟩:=I.loc;obtain⟨u,r,l⟩:=hl j x v hX (by
    cases q:σ[j]? with
    | none=>rw[q]at e2;cases e2
    | some q'=>rw[q]at e2;cases q' with
     | none=>cases e2
     | some v'=>cases e2;rfl) (by rcases hk2 with q | q;exact .inr (.inl q);exact .inr (.inr q))
   refine⟨u,r,.inr ⟨vE hf,?_⟩⟩;obtain⟨c,hc⟩:=qI scope.names [] hm (xb _ hm rfl);obtain⟨c',zS⟩:=iw hc;refine⟨c',zS,?_⟩;rcases l with⟨lk,_⟩ | ⟨_,d,hd,sU⟩
   ·rcases hk2 with q | q<;>(rw[show X.env.kindOf x=some .local from lk]at q;cases q)
   ·have:=dD zS;rw[hd]at this;cases this;exact sU.keeps hk
 ·obtain⟨v,o,ho,hd⟩:=I.cell x c (dD e);exact⟨v,o,hk _ _ ho,hd⟩
end
abbrev TB:=V->St->Hp->(Option V->St->Hp->Prop)->Prop
def PB(X:Cx)(tg:Expr)(ifs:List Expr)(elt:Expr)(tb:TB):Prop :=
 ∀(af:List (Addr×Obj)) (s:Shared) (σ:St) (H:Hp) (v:V) (u:Value) (Q:Option V->St->Hp->Prop),Inv X af σ H s->RelV v u->tb v σ H Q ->
  wpAny (model X.prog X.w) X.A (assign tg X.env u) (λ_ s2=>wpAny (model X.prog X.w) X.A (BV ifs X.env) (λok s3 =>
   if ok=true then wpAny (model X.prog X.w) X.A (eval elt X.env) (λy s4=>∃v' bC H',Inv X af bC H' s4/\RelV v' y/\Q (some v') bC H') X.xe s3
   else ∃bC H',Inv X af bC H' s3/\Q none bC H') X.xe s2) X.xe s
def Gw(hg:PG X tg g)(he:PE X elt te):PB X tg [] elt (λv σ H Q=>g v σ H λiP H1=>te iP H1 λy H2=>Q (some y) iP H2):=by
 intro af s σ H v u Q I r h;refine thn (hg af s σ H v u _ I r h) λ_ s2 ⟨iP,H1,I1,q1⟩=>ar ?_
 rw[if_pos rfl];exact thn (he af s2 iP H1 _ I1 q1) (by rintro y s4 ⟨v',H2,I2,r2,q2⟩;exact⟨v',iP,H2,I2,r2,q2⟩)
def KU(hg:PG X tg g)(hc:PT X c tc)(he:PE X elt te) :
  PB X tg [c] elt (λv σ H Q=>g v σ H λiP H1=>tc iP H1 λb H2=>if b=true then te iP H2 λy H3=>Q (some y) iP H3 else Q none iP H2):=by
 intro af s σ H v u Q I r h;refine thn (hg af s σ H v u _ I r h) λ_ s2 ⟨iP,H1,I1,q1⟩=>?_
 refine wpAny_tests_one (thn (hc af s2 iP H1 _ I1 q1) λb s3 ⟨H2,I2,q2⟩=>?_)
 cases b with
 | true =>
  rw[if_pos rfl]at q2 ⊢;exact thn (he af s3 iP H2 _ I2 q2) (by rintro y s4 ⟨v',H3,I3,r3,q3⟩;exact⟨v',iP,H3,I3,r3,q3⟩)
 | false =>
  rw[if_neg cR]at q2 ⊢;exact⟨iP,H2,I2,q2⟩
def tF(link:List (Option Nat))(wi:TI)(tb:TB):TE:=λσ H Q=>wi σ H λJ H1=>∃W:Nat->Nat->List V->St->Hp->Prop,(∃m,W 0 m [] (i9 link σ) H1)/\∀i m acc bC H',W i m acc bC H' ->
 (J.stop i H'/\acc.length<=sizeLine/\∀D,H' D=none->Q (.ref D) (cY H' D (.lst acc))) \/
 (J.go i H'/\acc.length<sizeLine/\∀x H2,J.yld i H' x H2->tb x bC H2 λo ox H3=>∃m',m'<m/\W (i+1) m' (acc++o.toList) ox H3)
structure YI (X:Cx) (af:List (Addr×Obj)) (H:Hp) (C:Addr):Prop where
 free:H C=none
 above:X.s₀.heap.objs.size<=C
 loc:C≠X.env.locals
 cell:∀x c,X.env.cells.lookup x=some c->c≠C
 pin:∀p∈X.pn++af,p.1≠C
def tH(hc:X.calm=true)(S:iG X N link scope)(hi:PI X tg iter wi)
  (hb:∀(C:Addr) (s:Shared) (H:Hp) (fp:List Addr),PB (cy X N scope C s H fp) tg ifs elt tb) (hs:∀x,foldedSetIterable iter X.env x=pure x) (I:Inv X af σ H s) (h:tF link wi tb σ H Q)
  (YJ:∀(s5:Shared) (D C:Addr) (H5:Hp) (m:Str->Option Value),Inv X af σ H5 s5->Q (.ref D) H5->s5.heap.Ns C m->YI X af H5 C->compPost (model X.prog X.w) X.A X.xe use Q' (.ref D) C (.ok .next) s5) :
  wpAny (model X.prog X.w) X.A (comprehension (.ListComp elt [⟨tg,iter,ifs,0⟩] scope pos) scope X.env ow (newList []) false (eval iter X.env) use) Q' X.xe s:=by
 have xb:∀y∈scope.names,y.2=.free->∃c,X.env.cells.lookup y.1=some c:=λy hy hf=>I.ok.has y.1 (S.free y hy hf)
 refine wpAny_comprehension_free rfl hs (Aq xb) S.kind S.names (thn (hi af s σ H _ I h) λv s1 h1=>thn h1 λX0 s2 h2=>?_)
 obtain⟨it,fp,tn,J,H2,rfl,I2,T,dW,f2,W,⟨m0,w0⟩,qc⟩:=h2;refine kM (wpAny_newFunctionEnv S.cell (by grind) (λgL ns sb=>?_) S.kind)
 dsimp only at ns sb ⊢
 generalize hD:s2.heap.push {cls:=.type "list",dict:=none,data:=.seq [].toArray}=HD at ns sb ⊢
 have hC:HD.objs.size=s2.heap.objs.size+1:=by rw[<-hD,eA]
 have WW:s2.heap.objs.size≠HD.objs.size:=by grind
 have Gy:s2.heap.objs.size<=HD.objs.size:=by grind
 have old:∀b o,s2.heap.get? b=some o->gL.get? b=some o:=λb o e=>by
  have vF:=aH e;exact sb.extBut b o (bF (bV vF Gy)) (aK _ (by rw[<-hD];exact aK _ e))
 have YK:gL.get? s2.heap.objs.size=some {cls:=.type "list",data:=.seq [].toArray} :=
  sb.extBut _ _ WW (aK _ (by rw[<-hD];exact bP _ rfl))
 generalize eD:s2.heap.objs.size=D at *
 generalize eC:HD.objs.size=C at *
 have exO:∀b∈fp,∃o,s2.heap.get? b=some o:=λb jY=>let ⟨o,e,_⟩:=T.obj _ _ dW b jY;⟨o,e⟩
 have I3:∀tk,Inv (cy X N scope C s2 H2 fp) [] (i9 link σ) H2 {s2 with heap:=gL,toks:=tk}:=λtk =>
  As S I2 f2 (by rw[eD];exact Gy) ns old exO
 have fpD:∀b∈fp,b≠D:=λb jY z=>by
  obtain⟨o,e⟩:=exO b jY;have:=aH e;rw[z,<-eD]at this;exact fB _ this
 have zW:∀{H':Hp} {pl:List (Addr×Obj)},(∀b∈fp,H' b=none)->(∀p∈pl,p.1=D)->∀b∈fp,qd (cy X N scope C s2 H2 fp) pl H' b:=λ{H' pl} hn hp b jY=>by
  have K0:=(I3 0).ok.exf b jY;exact⟨hn b jY,K0.1,(I3 0).ok.exfs b jY,.inl jY,K0.2,λp DJ z=>fpD b jY (z▸hp p (by simpa[cy]using DJ))⟩
 have UG:∀x c,(cy X N scope C s2 H2 fp).env.cells.lookup x=some c->c≠D:=λx c e z=>by
  obtain⟨v,o,ho,_⟩:=I2.cell x c (dD e);have:=aH ho;rw[z,<-eD]at this;exact fB _ this
 have fsD:D∉(cy X N scope C s2 H2 fp).fs:=λz=>by
  obtain⟨_,o,ho,_⟩:=I2.stack.mem z;have:=aH ho;rw[<-eD]at this;exact fB _ this
 have loop:∀s3:Shared,s3={s2 with heap:=gL,toks:=s2.toks+([]:List (Str×Value)).length} ->
   codeAny (model X.prog X.w) X.A (.compLoop (.ListComp elt [⟨tg,iter,ifs,0⟩] scope pos) 0 (.ref it) (.ref D) (cy X N scope C s2 H2 fp).env) (compPost (model X.prog X.w) X.A X.xe use Q' (.ref D) C) s3:=by
  rintro s3 rfl
  refine DI (λn s'=>∃i acc bC H' au nn,Inv (cy X N scope C s2 H2 fp) [] bC H' s'/\tn i s'.heap/\(∀b∈fp,H' b=none)/\H' D=none/\s'.heap.get? D=some {cls:=.type "list",data:=.seq au.toArray nn}/\Vals acc au/\W i n acc bC H') ?_ m0
   ⟨0,[],_,H2,[],0,I3 _,T.keep _ _ _ dW λb jY o e=>old b o e,λb jY=>(f2 b jY).1,I2.hok.fresh (js eD),YK,.nil,w0⟩
  rintro n s4 ⟨i,acc,MO,H4,au,nn,I4,Jo,fr4,hD4,FW,hv,w4⟩
  have UH:Inv (cy X N scope C s2 H2 fp) [(D,{cls:=.type "list",data:=.seq au.toArray nn})] MO H4 s4:=I4.lM λp hp=>by
   have e:p=(D,{cls:=.type "list",data:=.seq au.toArray nn}):=by simpa using hp
   subst e;exact⟨FW,hD4,WW,fsD,λv=>by simp⟩
  have Gz:∀p∈[(D,({cls:=.type "list",data:=.seq au.toArray nn}:Obj))],p.1=D:=λp hp=>by
   have e:p=(D,{cls:=.type "list",data:=.seq au.toArray nn}):=by simpa using hp
   rw[e]
  rcases qc i n acc MO H4 w4 with⟨stop,hz,q⟩ | ⟨go,hz,step⟩
  ·refine thn (T.done (cy X N scope C s2 H2 fp) rfl rfl rfl hc i _ s4 MO H4 _ UH (zW fr4 Gz) Jo stop) λr s5 ⟨hr,I5⟩=>?_
   subst hr;obtain⟨m,hn,_⟩:=I5.loc;have pD:=I5.pin (D,{cls:=.type "list",data:=.seq au.toArray nn}) (fx _ (aW.mpr rfl))
   have GA:∀b o,s2.heap.get? b=some o->b≠D/\b≠C:=λb o e=>by
    have:=aH e;rw[eD]at this;exact⟨bF this,bF (bV this Gy)⟩
   have MU:X.env.locals≠D/\X.env.locals≠C:=by
    have:=I2.lt;rw[eD]at this;exact⟨bF this,bF (bV this Gy)⟩
   have I6:=I2.MC I5.os I5.base I5.hok I5.bare λb jY=>⟨(f2 b jY).2.2.2.1,(f2 b jY).2.1,(f2 b jY).2.2.2.2.1,(f2 b jY).2.2.2.2.2⟩
   have I7:=Inv.adopt (o:=.lst acc) I6 pD.2.1 (aX I2.sz (js eD)) (cx MU.1) (λx c e=>let ⟨v,o,ho,_⟩:=I2.cell x c e;(GA c o ho).1)
    (λp hp=>(GA p.1 p.2 (I2.pin p hp).1).1) ⟨hz,au,nn,hv,pD.1⟩
   exact YJ s5 D C _ m I7 (q D pD.2.1) hn ⟨by rw[aM (cx WW)];exact I5.free,aX (aX I2.sz (js eD)) Gy,cx MU.2,λx c e=>let ⟨v,o,ho,_⟩:=I2.cell x c e;(GA c o ho).2,λp hp=>(GA p.1 p.2 (I2.pin p hp).1).2⟩
  ·refine thn (T.item (cy X N scope C s2 H2 fp) rfl rfl rfl hc i _ s4 MO H4 _ UH (zW fr4 Gz) Jo go) λr s5 ⟨u,hr,h5⟩=>?_
   subst hr;refine thn h5 λ_ s5' z9=>?_
   obtain⟨x,H5,I5,r5,y5,Ol,X4⟩:=z9;have X5:=I5.pinned (zW X4 Gz) (T.obj _ _ Ol);have gW:∀{o:Option V} {WK:St} {H6:Hp} {s6:Shared},Inv (cy X N scope C s2 H2 fp) ([(D,{cls:=.type "list",data:=.seq au.toArray nn})]++qe fp s5'.heap) WK H6 s6 ->
     tn (i+1) s6.heap/\(∀b∈fp,H6 b=none)/\H6 D=none/\s6.heap.get? D=some {cls:=.type "list",data:=.seq au.toArray nn}:=λ{o WK H6 s6} I6=>by
    have pD:=I6.pin (D,_) (fx _ (mQ _ (aW.mpr rfl)));refine⟨T.keep _ _ _ Ol λb jY o e=>(I6.pin (b,o) (fx _ (fx _ (iQ jY e)))).1,λb jY=>?_,pD.2.1,pD.1⟩
    obtain⟨o,e,d⟩:=T.obj _ _ Ol b jY;exact(I6.pin (b,o) (fx _ (fx _ (iQ jY e)))).2.1
   refine ny (hb C s2 H2 fp _ s5' MO H5 x u _ X5 r5 (step x H5 y5)) (λ_ s6 h6=>ny h6 (λok s7 h7=>?_) λ_ _ z=>False.elim z) λ_ _ z=>False.elim z
   cases ok with
   | false =>
    rw[if_neg cR]at h7 ⊢;obtain⟨WX,H8,I8,m',Sj,w8⟩:=h7;obtain⟨a1,a2,a3,a4⟩:=gW (o:=none) I8;exact⟨m',Sj,i+1,_,WX,H8,au,nn,I8.lM (λp hp=>by cases hp),a1,a2,a3,a4,by simpa using hv,w8⟩
   | true =>
    rw[if_pos rfl]at h7 ⊢;refine ny h7 (λy s8 z9=>?_) λ_ _ z=>False.elim z
    obtain⟨v8,WX,H8,I8,r8,m',Sj,w8⟩:=z9;obtain⟨a1,a2,a3,a4⟩:=gW (o:=some v8) I8;have hl:=hv.length;refine fX F.slot_list_append ⟨_,a4,rfl⟩ F.entry_list_append (F.args_list_append_2 _ _) (PySem.list_append D au.toArray nn y (by rw[cE];lia)) ⟨a4,?_⟩
    have I9:Inv (cy X N scope C s2 H2 fp) [] WX H8 s8:=I8.lM (λp hp=>by cases hp)
    have qq:=PySem.IsL.update a4 λz=>z.push y
    have hp:au.toArray.push y=(au++[y]).toArray:=by simp
    rw[hp]at qq;refine⟨m',Sj,i+1,_,WX,H8,au++[y],_,I9.turned (λb o fZ e=>(jl _ _ (cx fZ)).trans e) a3 WW (.inr (js eD)) UG (λp hp=>by simp[cy]at hp),T.keep _ _ _ a1 λb jY o e=>(jl _ _ (cx (fpD b jY))).trans e,a2,a3,qq,hv.append (.cons r8 .nil),w8⟩
 exact codeAny_compStart_list (loop _ rfl) (T.self _ 0 _ _ _ (T.keep _ _ _ dW λb jY o e=>old b o e) (loop _ rfl))
def BW(hc:X.calm=true)(S:iG X N link scope)(hi:PI X tg iter wi)
  (hb:∀(C:Addr) (s:Shared) (H:Hp) (fp:List Addr),PB (cy X N scope C s H fp) tg ifs elt tb) (hs:∀x,foldedSetIterable iter X.env x=pure x:=by intro _;rfl) :
  PE X (.ListComp elt [⟨tg,iter,ifs,0⟩] scope pos) (tF link wi tb):=by
 intro af s σ H Q I h;rw[eval_ListComp];refine tH hc S hi hb hs I h λs5 D C H5 m I5 q hn L=>⟨m,hn,λh' sb=>?_⟩
 exact⟨.ref D,H5,I5.turned (λb o fZ e=>(sb.2 b fZ).trans e) L.free L.loc (.inr L.above) L.cell L.pin,rfl,q⟩
def BX(hc:X.calm=true)(hN:X.N.Nodup)(hx:X.N[i]?=some x)(hl:X.env.scope.names.lookup x=some .local)(S:iG X N link scope)(hi:PI X tg iter wi)
  (hb:∀(C:Addr) (s:Shared) (H:Hp) (fp:List Addr),PB (cy X N scope C s H fp) tg ifs elt tb) (hw:swapsWith (.ListComp elt [⟨tg,iter,ifs,0⟩] scope pos) (some (.Name x ow)) DK.line X.env=pure true) (hs:∀x,foldedSetIterable iter X.env x=pure x:=by intro _;rfl) :
  PS X (.Assign [.Name x ow] (.ListComp elt [⟨tg,iter,ifs,0⟩] scope pos) DK) (JX (tF link wi tb) (gName i)):=by
 intro af s σ H D I h;rw[exec_Assign_Name_used _ _ _ _ hw];refine ag (uX (ag ?_));refine ag (thn (tH hc S hi hb hs I h λs5 a C H5 m I5 q hn L=>?_) λ_ s' q=>ar (ar q))
 refine wpAny_assign_Name (store_ok2 (v:=.ref a) I5 hN hx (.inl hl) rfl (λs6 I6 k=>?_) (.inr hl))
 refine⟨m,?_,λh' sb=>?_⟩
 ·obtain⟨o,es,ep,ho,r⟩:=hn;obtain⟨b,sb1,hor⟩:=k;have ne:C≠b:=λz=>by
   rcases hor with w | w
   ·exact L.loc (z.trans w)
   ·exact L.cell x b w z.symm
  exact⟨o,es,ep,(sb1.2 C ne).trans ho,r⟩
 ·exact⟨_,H5,I6.turned (λb o fZ e=>(sb.2 b fZ).trans e) L.free L.loc (.inr L.above) L.cell L.pin,q⟩
noncomputable def dj(link:List (Option Nat))(ρ:List (Option PV)):List (Option PV):=link.map λo=>o.bind λj=>(ρ[j]?).join
def KG(L:List Nat)(g:Tg):Prop:=∀p st st1,g p st=some st1->st1.ρ.length=st.ρ.length/\∀j:Nat,j∉L->st1.ρ[j]?=st.ρ[j]?
def UI(L:List Nat)(g:Si):Prop:=∀p st st1,g p st=some st1->st1.ρ.length=st.ρ.length/\∀j:Nat,j∉L->st1.ρ[j]?=st.ρ[j]?
def KW(i:Nat):KG [i] (cS i):=λp st st1 h=>by
 obtain⟨_,rfl⟩:=aB h;exact⟨iq,λj hj=>aL (λz=>hj (by simp[z]))⟩
def KY:UI [] DA:=λp st st1 h=>by
 cases p with
 | nil=>cases h;exact⟨rfl,λ_ _=>rfl⟩
 | cons _ _=>cases h
def GB(h1:KG L g)(h2:UI M r):UI (L++M) (qz g r):=λp st st1 h=>by
 cases p with
 | nil=>cases h
 | cons p ps =>
  obtain⟨dW,e1,e2⟩:=aQ h;obtain⟨l1,k1⟩:=h1 p st dW e1;obtain⟨l2,k2⟩:=h2 ps dW st1 e2;exact⟨l2.trans l1,λj hj=>(k2 j λz=>hj (fx _ z)).trans (k1 j λz=>hj (mQ _ z))⟩
def Py(h:UI L r):KG L (Ak n r):=λp st st1 e=>by
 unfold Ak at e;split at e
 ·obtain⟨_,e⟩:=bU e;exact h _ st st1 e
 ·obtain⟨_,e⟩:=bU e;exact h _ st st1 e
 ·cases e
section
variable {K:W.Frag} {F:Fz} {ρ:List (Option PV)} {σ:St}
def Lc.i9(L:Lc K F ρ σ)(link:List (Option Nat)):Lc K F (dj link ρ) (i9 link σ) where
 av:=λi p e=>by
  unfold dj at e;rw[bK]at e;cases z:link[i]? with
  | none=>rw[z]at e;cases e
  | some o =>
   rw[z]at e;cases o with
   | none=>cases e
   | some j =>
    have e:(ρ[j]?).join=some p:=bE e;cases w:ρ[j]? with
    | none=>rw[w]at e;cases e
    | some q =>
     rw[w]at e;cases e;obtain⟨v,h1,h2⟩:=L.av j p w;refine⟨v,?_,h2⟩;unfold L2.U.i9;rw[bK,z];show some ((σ[j]?).join)=_;rw[h1];rfl
 len:=by unfold dj L2.U.i9;rw[aN,aN]
def Lc.back{L:List Nat}(R:Lc K F MV σ)(hl:YL.length=σ.length)(h0:YL=dj link ρ)(hk:∀j:Nat,j∉L->MV[j]?=YL[j]?)(hL:∀i∈L,link[i]?=some none):Lc K F YL σ where
 av:=λi p e=>by
  refine R.av i p ?_;rw[hk i λhi=>?_]
  ·exact e
  ·rw[h0]at e;unfold dj at e;rw[bK,hL i hi]at e;cases e
 len:=hl
end
noncomputable def YM{α:Type}:Rs α×cq->Option (α×List ah)
 | (.ok a,st)=>some (a,st.h)
 | _=>none
abbrev Bd:=List (Option PV)->PV->List ah->Option (Option PV×List ah)
def oG(g:Tg)(fe:Gx PV):Bd:=λρ p h=>(g p ⟨ρ,h⟩).bind λst1=>(fe st1).bind λr=>(YM r).map λx=>(some x.1,x.2)
def xG(g:Tg)(ft:Gx Bool)(fe:Gx PV):Bd:=λρ p h=>(g p ⟨ρ,h⟩).bind λst1=>(ft st1).bind λr=>match r with
 | (.ok b,dW)=>if b=true then(fe dW).bind λr=>(YM r).map λx=>(some x.1,x.2)else some (none,dW.h)
 | _=>none
noncomputable def fu(bd:PV->List ah->Option (Option PV×List ah)):List PV->List ah->Option (List PV×List ah)
 | [],h=>some ([],h)
 | p::ps,h=>(bd p h).bind λr=>(fu bd ps r.2).map λs=>(r.1.toList++s.1,s.2)
section
variable {X:Cx} {aa:Hp} {ae:Fz} {N:List Str} {link:List (Option Nat)} {scope:Scope} {tg iter elt c:Expr} {pos:Pos} {fi:Gx (List PV)} {g:Tg} {fe:Gx PV} {ft:Gx Bool} {L:List Nat} {cl:Bool}
def xH(e:YM r=some (a,h)):∃st,r=(.ok a,st)/\st.h=h:=by
 obtain⟨r,st⟩:=r;cases r with
 | ok x=>cases e;exact⟨st,rfl,rfl⟩
 | ex m C=>cases e
def _root_.L2.U.PB.imp(h:PB Y tg ifs elt tb)(i:∀v σ H Q,tb' v σ H Q->tb v σ H Q):PB Y tg ifs elt tb':=λaf s σ H v u Q I r w=>h af s σ H v u Q I r (i _ _ _ _ w)
def tb1(X:Cx)(aa:Hp)(ae:Fz)(g:Tg)(fe:Gx PV):TB:=λv σ H Q=>tG X.K aa ae g v σ H λiP H1=>∀Y:Cx,Y.K=X.K->tE Y aa ae fe iP H1 λy H2=>Q (some y) iP H2
def tb2(X:Cx)(aa:Hp)(ae:Fz)(g:Tg)(ft:Gx Bool)(fe:Gx PV):TB:=λv σ H Q=>tG X.K aa ae g v σ H λiP H1=>∀Y:Cx,Y.K=X.K->tT Y aa ae ft iP H1 λt H2=>if t=true then tE Y aa ae fe iP H2 λy H3=>Q (some y) iP H3 else Q none iP H2
section
variable (ht:∀(C:Addr) (s:Shared) (H:Hp) (fp:List Addr),PG (cy X N scope C s H fp) tg (tG X.K aa ae g)) (he:∀(C:Addr) (s:Shared) (H:Hp) (fp:List Addr),PE (cy X N scope C s H fp) elt (tE (cy X N scope C s H fp) aa ae fe))
include ht he
def pb1(C:Addr)(s:Shared)(H:Hp)(fp:List Addr):PB (cy X N scope C s H fp) tg [] elt (tb1 X aa ae g fe) :=
 (Gw (ht C s H fp) (he C s H fp)).imp (by rintro v σ H Q ⟨F,st,p,st',R,b,e,q⟩;exact⟨F,st,p,st',R,b,e,λbC H' F' R' g'=>q bC H' F' R' g' _ rfl⟩)
def pb2(hw:∀(C:Addr) (s:Shared) (H:Hp) (fp:List Addr),PT (cy X N scope C s H fp) c (tT (cy X N scope C s H fp) aa ae ft))(C:Addr)(s:Shared)(H:Hp)(fp:List Addr):PB (cy X N scope C s H fp) tg [c] elt (tb2 X aa ae g ft fe) :=
 (KU (ht C s H fp) (hw C s H fp) (he C s H fp)).imp (by rintro v σ H Q ⟨F,st,p,st',R,b,e,q⟩;exact⟨F,st,p,st',R,b,e,λbC H' F' R' g'=>q bC H' F' R' g' _ rfl⟩)
end
def o6(h:tS X aa ae (lW fe (cS i)) D σ H):tE X aa ae fe σ H λv H1=>D.nx (σ.set i (some v)) H1:=by
 obtain⟨F,st,R,h⟩:=h;refine⟨F,st,R,h.bnd λp v F1 st1 H1 R1 g1 b1 h1=>?_⟩
 obtain⟨st',e,z⟩:=h1.stp;obtain⟨hi,rfl⟩:=aB e;exact z F1 _ H1 ⟨R1.c,R1.l.set hi b1⟩ (Gr.refl _)
end
def SI(h:Heap)(it l:Addr)(k:Nat)(xs:Array Value):Prop:=(h.IsListIter it l k/\h.IsList l xs)\/(h.IsTupleIter it l k/\h.IsTuple l xs)
def SI.at{h h':Heap}{it l:Addr}{k:Nat}{xs:Array Value}(x:SI h it l k xs)(h1:∀o,h.get? it=some o->h'.get? it=some o)(h2:∀o,h.get? l=some o->h'.get? l=some o):SI h' it l k xs:=by
 rcases x with⟨⟨o,e,r⟩,⟨o',e',r'⟩⟩ | ⟨⟨o,e,r⟩,⟨o',e',r'⟩⟩
 ·exact .inl ⟨⟨o,h1 o e,r⟩,⟨o',h2 o' e',r'⟩⟩
 ·exact .inr ⟨⟨o,h1 o e,r⟩,⟨o',h2 o' e',r'⟩⟩
def SI.MW{h:Heap}{it l:Addr}{k:Nat}{xs:Array Value}(x:SI h it l k xs):∃o,h.get? it=some o/\∃vs,o.data=.fields vs:=by
 rcases x with⟨⟨o,e,_,d⟩,_⟩ | ⟨⟨o,e,_,d⟩,_⟩
 ·grind
 ·grind
def SI.sq{h:Heap}{it l:Addr}{k:Nat}{xs:Array Value}(x:SI h it l k xs):∃o n,h.get? l=some o/\o.data=.seq xs n:=by
 rcases x with⟨_,⟨o,e,_,n,d⟩⟩ | ⟨_,⟨o,e,_,n,d⟩⟩
 ·grind
 ·grind
def SI.ne{h:Heap}{it l:Addr}{k:Nat}{xs:Array Value}(x:SI h it l k xs):l≠it:=λz=>by
 obtain⟨o,e,vs,d⟩:=x.MW;obtain⟨o',n,e',d'⟩:=x.sq;subst z;rw[e]at e';cases e';rw[d]at d';cases d'
section
variable {prog:Program} {w:World} {A:Around} {E:Value->Shared->Prop} {s:Shared}
def Au{it t:Addr}{i:Nat}{au:Array Value}{x:Value}{Q:Value->Shared->Prop}(Pz:s.heap.IsTupleIter it t i)(ht:s.heap.IsTuple t au)(hx:au[i]?=some x)
  (hQ:∀h',h'.IsTupleIter it t (i+1)->Heap.SameBut it s.heap h'->Q x {s with heap:=h'}):wpAny (model prog w) A (Builtin.SmallTypes.nextOf (.ref it)) Q E s:=by
 obtain⟨o,ho,hc,hd⟩:=id Pz;obtain⟨ol,YN,_,nl,PC⟩:=ht;refine ag (fS Pz.typeIs uB (gw uB Pz.typeIs EM (by
  show wpAny _ _ (field (.ref it) 0 >>= _) _ _ s;refine ag (cJ ho hd rfl ?_);show wpAny _ _ (if(Value.ref t==Value.none)=true then _ else _) _ _ s
  rw[if_neg (show ¬((Value.ref t==Value.none)=true)from cR)]
  show wpAny _ _ (field (.ref it) 1 >>= _) _ _ s;refine ag (cJ ho hd (x:=.int i 0) rfl ?_);show wpAny _ _ (seqItems? (.ref t) >>= _) _ _ s;refine ag (gz YN PC ?_);simp only[kO,hx];refine ag (wpAny_setField ho hd (by simp) (ar ⟨x,rfl,ar (hQ _ ⟨_,mP _ ho (Obj.isFreed_of_fields (Obj.data_mapFields hd _)),(Obj.cls_mapFields ..).trans hc,by rw[Obj.data_mapFields hd];simp[rawInt]⟩ (Heap.SameBut.update ..))⟩))) (EL _)))
def Av{it t:Addr}{i:Nat}{au:Array Value}{Q:Value->Shared->Prop}(hh:A.handled=none)(Pz:s.heap.IsTupleIter it t i)(ht:s.heap.IsTuple t au)(hx:au[i]?=none)
  (hE:∀h' e,Heap.ExtBut it s.heap h'->(∃o,h'.get? e=some o/\o.cls=.type "StopIteration")->E (.ref e) {s with heap:=h'}):wpAny (model prog w) A (Builtin.SmallTypes.nextOf (.ref it)) Q E s:=by
 obtain⟨o,ho,hc,hd⟩:=id Pz;obtain⟨ol,YN,_,nl,PC⟩:=ht;refine ag (fS Pz.typeIs uB (gw uB Pz.typeIs EM (by
  show wpAny _ _ (field (.ref it) 0 >>= _) _ _ s;refine ag (cJ ho hd rfl ?_);refine ag (cJ ho hd (x:=.int i 0) rfl ?_);show wpAny _ _ (seqItems? (.ref t) >>= _) _ _ s;refine ag (gz YN PC ?_);simp only[kO,hx];refine ag (k9 (ag (wpAny_setField ho hd (by simp) ?_)))
  show wpAny _ _ (newExc (.type "StopIteration") [] >>= _) _ _ _;refine ag ?_;simp only[newExc,newTuple];refine ag (kM ?_ (by size_fits))
  refine ag (m:=firstArgMember _ _) (wpAny_of_eq (a:=Value.none) (by first | rfl | (simp only[firstArgMember];rfl)) ?_)
  refine kM ?_ (by size_fits)
  simp only[raiseNew];refine ag (wpAny_handled ?_)
  first | rw[show A.in1.handled=none from hh] | rw[hh]
  exact ag (ar (wpAny_throw (hE _ _ (((Heap.SameBut.update ..).extBut.push _).push _) ⟨_,bP _ rfl,rfl⟩)))) (EL _)))
def SI.next{it l:Addr}{k:Nat}{xs:Array Value}{x:Value}{Q:Value->Shared->Prop}(hi:SI s.heap it l k xs)(hx:xs[k]?=some x)(hQ:∀h',SI h' it l (k+1) xs->Heap.SameBut it s.heap h'->Q x {s with heap:=h'}) :
  wpAny (model prog w) A (Builtin.SmallTypes.nextOf (.ref it)) Q E s:=by
 have ne:=hi.ne;rcases hi with⟨h1,h2⟩ | ⟨h1,h2⟩
 ·exact wpAny_nextOf_list_item h1 h2 hx λh' a b=>hQ h' (.inl ⟨a,h2.extBut b.extBut ne⟩) b
 ·exact Au h1 h2 hx λh' a b=>hQ h' (.inr ⟨a,h2.extBut b.extBut ne⟩) b
def SI.stop{it l:Addr}{k:Nat}{xs:Array Value}{Q:Value->Shared->Prop}(hh:A.handled=none)(hi:SI s.heap it l k xs)(hx:xs[k]?=none)
  (hE:∀h' e,Heap.ExtBut it s.heap h'->(∃o,h'.get? e=some o/\o.cls=.type "StopIteration")->E (.ref e) {s with heap:=h'}):wpAny (model prog w) A (Builtin.SmallTypes.nextOf (.ref it)) Q E s:=by
 rcases hi with⟨h1,h2⟩ | ⟨h1,h2⟩
 ·exact wpAny_nextOf_list_end hh h1 h2 hx hE
 ·exact Av hh h1 h2 hx hE
end
def nl{a b:Nat}(h:a<b):@Ne Addr a b:=bF h
section
variable {prog:Program} {w:World} {A:Around} {E:Value->Shared->Prop} {s:Shared} {z TI TO i1 i2 l1 l2:Nat} {k:Nat} {xs ys:Array Value}
def iH(h:Heap)(l:Addr)(xs:Array Value)(c:String):Prop:=(c="list_iterator"/\h.IsList l xs)\/(c="tuple_iterator"/\h.IsTuple l xs)
def j3{l:Addr}{xs:Array Value}{c:String}{Q:Value->Shared->Prop}(h:iH s.heap l xs c)(hQ:Q (.ref s.heap.objs.size) {s with heap:=s.heap.push {cls:=.type c,data:=.fields #[.ref l,.int 0 0]}}):wpAny (model prog w) A (pyIter (.ref l)) Q E s:=by
 rcases h with⟨rfl,h⟩ | ⟨rfl,h⟩
 ·exact zl h hQ
 ·exact wpAny_pyIter_tuple h hQ
end
def rY(K:W.Frag)(H:Hp)(c:Bool)(l:Addr)(vs:List V):Prop:=if c=true then vf K H l vs else gZ K H l vs
def EB(h:Heap)(c:Bool)(it l:Addr)(k:Nat):Prop:=if c=true then h.IsListIter it l k else h.IsTupleIter it l k
noncomputable def kh(c:Bool):String:=if c=true then "list_iterator" else "tuple_iterator"
section
variable {X:Cx} {af:List (Addr×Obj)} {σ:St} {H:Hp} {s:Shared}
def rY.get(I:Inv X af σ H s){c:Bool}{l:Addr}{vs:List V}(h:rY X.K H c l vs):∃au:List Value,Vals vs au/\iH s.heap l au.toArray (kh c):=by
 unfold kh;cases c with
 | true =>
  obtain⟨au,r,pl,_⟩:=I.list (h);exact⟨au,r,.inl ⟨rfl,pl.isList⟩⟩
 | false =>
  obtain⟨au,r,pl,_⟩:=I.tuple (h);exact⟨au,r,.inr ⟨rfl,pl⟩⟩
def rY.inj(I:Inv X af σ H s){c:Bool}{l:Addr}{vs ws:List V}(h:rY X.K H c l vs)(h':rY X.K H c l ws):vs=ws:=by
 cases c with
 | true=>exact I.lN h h'
 | false=>exact I.jX h h'
def tJ{h:Heap}{c:Bool}{it l:Addr}{k:Nat}{xs:Array Value}(h1:EB h c it l k)(h2:iH h l xs (kh c)):SI h it l k xs:=by
 cases c with
 | true =>
  rcases h2 with⟨_,q⟩ | ⟨q,_⟩
  ·exact .inl ⟨h1,q⟩
  ·exact absurd q (by decide)
 | false =>
  rcases h2 with⟨q,_⟩ | ⟨_,q⟩
  ·exact absurd q (by decide)
  ·exact .inr ⟨h1,q⟩
def vG{h:Heap}{c:Bool}{it l:Addr}{k k':Nat}{xs:Array Value}{h0:Heap}(h1:SI h it l k xs)(h2:iH h0 l xs (kh c))(kp:∀o,h0.get? l=some o->h.get? l=some o):EB h c it l k:=by
 cases c with
 | true =>
  rcases h2 with⟨_,⟨o,e,hc,_⟩⟩ | ⟨q,_⟩
  ·rcases h1 with⟨a,_⟩ | ⟨_,⟨o',e',zS,_⟩⟩
   ·exact a
   ·grind
  ·exact absurd q (by decide)
 | false =>
  rcases h2 with⟨q,_⟩ | ⟨_,⟨o,e,hc,_⟩⟩
  ·exact absurd q (by decide)
  ·rcases h1 with⟨_,⟨o',e',zS,_⟩⟩ | ⟨a,_⟩
   ·grind
   ·exact a
def Inv.turns{t':Nat}{h':Heap}{ch:List Addr}(I:Inv X af σ H s)(hf:∀b∈ch,qd X af H b)(kp:∀b o,b∉ch->s.heap.get? b=some o->h'.get? b=some o):Inv X af σ H {s with heap:=h',toks:=t'}:=by
 have S0:∀b u,H b=some u->b∉ch:=λb u e z=>by rw[(hf b z).1]at e;cases e
 refine I.step (λb hb=>⟨(hf b hb).2.2.2.1,(hf b hb).2.1,(hf b hb).2.2.2.2.1,(hf b hb).2.2.2.2.2⟩) (λb o _ _ hc e _=>kp b o hc e) (λb o _ _ hc e _=>⟨o.slots,kp b o hc e⟩) (λ_ _ _ _ n=>n)
  (λb o hc e=>⟨o,kp b o hc e⟩) (λ_ _ e=>e) (λ_ _ _ e=>e) (λ_ _ e=>e) (λm hm=>?_) (λb u e=>?_) I.bare
 ·obtain⟨o,es,ep,ho,r⟩:=hm;exact⟨o,es,ep,kp _ o (λz=>(hf _ z).2.1 rfl) ho,r⟩
 ·refine(I.hok b u e).w6 (λc v hc q=>kp c v ?_ q) (λ_ q=>q) (λ_ _ q=>q) λ_ _ _ q=>q
  rcases hc with z | z
  ·rw[z];exact S0 b u e
  ·exact S0 c _ z
end
def EB.at{h h':Heap}{c:Bool}{it l:Addr}{k:Nat}(x:EB h c it l k)(h1:∀o,h.get? it=some o->h'.get? it=some o):EB h' c it l k:=by
 cases c with
 | true =>
  obtain⟨o,e,r⟩:=(x);exact(⟨o,h1 o e,r⟩)
 | false =>
  obtain⟨o,e,r⟩:=(x);exact(⟨o,h1 o e,r⟩)
def EB.obj{h:Heap}{c:Bool}{it l:Addr}{k:Nat}(x:EB h c it l k):∃o,h.get? it=some o/\∀v,o.data≠.cell v:=by
 unfold EB at x;split at x
 ·obtain⟨o,e,_,d⟩:=x;exact⟨o,e,λv=>by grind⟩
 ·obtain⟨o,e,_,d⟩:=x;exact⟨o,e,λv=>by grind⟩
def GD{prog:Program}{w:World}{A:Around}{it l:Addr}{xs:Array Value}(hh:A.handled=none):Draws prog w A it [it,l] xs.size (λi x=>xs[i]?=some x) (λi h=>SI h it l i xs) where
 live:=λi h st=>by
  obtain⟨o,e,_⟩:=st.MW;exact⟨o,e⟩
 frame:=λi h h' st k=>st.at (λo e=>k it (by simp) o e) (λo e=>k l (by simp) o e)
 item:=λi s Q E hi st hQ=>SI.next st (pC hi) λh' a b=>hQ _ h' s.toks (pC hi) a b
 done:=λs Q E st hE=>SI.stop hh st (kK (aF _)) hE
set_option maxHeartbeats 2000000 in
theorem GF(l:Addr)(xs:Array Value)(c:String)(part:Obj) :
  Meets (Builtin.«enumerate.__new__» ⟨[.type "enumerate",.ref l],[]⟩) (λ_ R s=>iH s.heap l xs c/\s.heap.get? l=some part /\
   ∀h1 h2:Heap,h1=s.heap.push {cls:=.type c,data:=.fields #[.ref l,.int 0 0]}->h2=h1.push {cls:=.type "enumerate",data:=.fields #[.none,.bool false,.ref s.heap.objs.size,rawInt 0,.none,.none]}->R (.ok (.ret (.ref h1.objs.size))) {s with heap:=h2}) :=
 .of_wp λprog w A R s h=>by
  obtain⟨hp,g,d,tk,os⟩:=s;obtain⟨hl,hpt,h⟩:=h;have hL:iH (Shared.heap ⟨hp,g,d,tk,os⟩) l xs c:=hl;have KZ:=sub_enumerate;rcases hl with⟨rfl,⟨o,e,hc,n,hd⟩⟩ | ⟨rfl,⟨o,e,hc,n,hd⟩⟩
  ·obtain⟨oc,od,YO,TC⟩:=o;replace hc:oc=.type "list":=hc;replace hd:YO=.seq xs n:=hd
   wp_walk using jk e
   refine wpAny_stack_any λst=>ar ?_
   split
   ·rename_i c' _ _ _ _ _;cases(c'==Value.type "enumerate")<;>(wp_walk using jk e,j3 hL)<;>exact⟨_,rfl,h _ _ rfl rfl⟩
   ·wp_walk using jk e,j3 hL
    exact⟨_,rfl,h _ _ rfl rfl⟩
  ·obtain⟨oc,od,YO,TC⟩:=o;replace hc:oc=.type "tuple":=hc;replace hd:YO=.seq xs n:=hd
   wp_walk using jk e
   refine wpAny_stack_any λst=>ar ?_
   split
   ·rename_i c' _ _ _ _ _;cases(c'==Value.type "enumerate")<;>(wp_walk using jk e,j3 hL)<;>exact⟨_,rfl,h _ _ rfl rfl⟩
   ·wp_walk using jk e,j3 hL
    exact⟨_,rfl,h _ _ rfl rfl⟩
def K1{prog:Program}{w:World}{A:Around}{E:Value->Shared->Prop}{s:Shared}{e it l:Addr}{k:Nat}{i:Int}{xs:Array Value}{old:Value}{Q:Option Value->Shared->Prop}(hh:A.handled=none)(a1:IsEnum s.heap e it i old)(st:SI s.heap it l k xs)(hx:xs[k]?=none)(hQ:∀h',Heap.ExtBut it s.heap h'->Q none {s with heap:=h'}):wpAny (model prog w) A (pyNext (.ref e)) Q E s:=by
 have ty:s.TypeIs (.ref e) "enumerate":=⟨_,a1,rfl⟩;unfold pyNext;refine ag (kU (fS ty F.slot_enumerate_next (gw F.slot_enumerate_next ty F.entry_enumerate_next (by
  show wpAny _ _ (field (.ref e) 2 >>= _) _ _ _;refine ag (cJ a1 rfl rfl (ag (SI.stop hh st hx λh' y sb ⟨o,ho,hc⟩=>?_)))
  exact ag (uN ⟨o,ho,hc⟩ uU (ar (hQ _ sb)))) (F.args_enumerate_next_1 _))))
def Ien(K:W.Frag)(c:Bool)(l:Addr):It where
 go:=λi H=>∃vs v,rY K H c l vs/\vs[i]?=some v
 yld:=λi H x H'=>∃T v,H T=none/\x=.ref T/\H'=cY H T (.ak [.int i,v])/\∀vs,rY K H c l vs->vs[i]?=some v
 stop:=λi H=>∃vs,rY K H c l vs/\vs.length<=i
def eTn(e it l:Nat)(c:Bool)(i:Nat)(h:Heap):Prop:=(∃old,IsEnum h e it i old)/\EB h c it l i
def K2{P:Program}{w:World}{K:W.Frag}{elts:List Expr}{x1:Nat}{qj:Pos}{e it l:Nat}{c:Bool}(ord:it<e)(o1:l<it) :
  Turn P w K (.Tuple elts x1 qj) (Ien K c l) [e,it] e (eTn e it l c) where
 mem:=dy
 obj:=by
  rintro i h ⟨⟨_,a1⟩,a2⟩ b hb
  simp only[aD,bu,bz]at hb;rcases hb with rfl | rfl
  ·exact⟨_,a1,λv=>by simp⟩
  ·exact a2.obj
 keep:=(by rintro i h h' ⟨⟨old,a1⟩,a2⟩ k;exact⟨⟨old,k e (by simp) _ a1⟩,a2.at λo x=>k it (by simp) o x⟩)
 item:=by
  rintro X hP hw hK hc i af s σ H E I hf ⟨⟨old,a1⟩,a2⟩ ⟨vs,v,hv,ev⟩
  subst hP hw hK;obtain⟨au,r1,k1⟩:=hv.get I;obtain⟨x,ex,rx⟩:=r1.get ev;have ne:e≠it:=pU ord;have nel:e≠l:=pU (kW o1 ord);have PC:X.A.in1.handled=none:=I.ok.hd hc;refine wpAny_pyNext_enum_itemD (GD (xs:=au.toArray) (l:=l) PC) a1 (tJ a2 k1) (by
   have:=(de.mp ex).1;simpa using this) ne (by simp[ne,nel]) λx' h' tk Ar hO st hT UD kp=>⟨_,rfl,?_⟩
  have xe:x'=x:=by
   have e1:au.toArray[i]?=some x:=by simpa using ex
   rw[e1]at Ar;cases Ar;rfl
  subst xe;refine wpAny_letOwnedTupleGo_enum hO λJq YQ sb=>?_
  have UJ:∀b∈[e,it],b<s.heap.objs.size:=λb hb=>by
   simp only[aD,bu,bz]at hb;have h1:e<s.heap.objs.size:=aH a1;rcases hb with rfl | rfl<;>lia
  have eT:e≠s.heap.objs.size:=bF (UJ e (by simp))
  have UK:∀b o,b∉[e,it]->s.heap.get? b=some o->Jq.get? b=some o:=λb o hb z=>by
   simp only[aD,bu,bz,not_or]at hb;exact sb.extBut _ _ hb.1 (kp b o hb.1 hb.2 z)
  have I1:Inv X af σ H {s with heap:=Jq,toks:=tk+1}:=Inv.turns I hf UK
  have hn:H s.heap.objs.size=none:=I.fresh;have K3:=I.vh (H':=H) (aF _) hn;have pr:Jq.get? s.heap.objs.size=some {cls:=.type "tuple",data:=.seq #[.int i tk,x']}:=sb.extBut _ _ (cx eT) hT
  have I2:=Inv.adopt (D:=s.heap.objs.size) (o:=.ak [.int i,v]) I1 hn (by
    rcases K3.2.2.2.1 with q | q
    ·exact I.sz
    ·exact q) K3.2.1 K3.2.2.2.2.1 K3.2.2.2.2.2 ⟨(by show 2<=sizeLine;decide),[.int i tk,x'],.cons ⟨tk,rfl⟩ (.cons rx .nil),⟨_,pr,rfl,⟨0,rfl⟩,rfl⟩⟩
  refine⟨.ref s.heap.objs.size,_,I2,rfl,⟨s.heap.objs.size,v,hn,rfl,rfl,λwR h1=>?_⟩,⟨⟨_,YQ⟩,?_⟩,λb hb=>?_⟩
  ·rw[<-rY.inj I hv h1];exact ev
  ·have nli:l≠it:=bF o1;have q:=vG (k':=i) st k1 λo z=>kp l o (cx nel) nli z
   exact q.at λo z=>sb.extBut _ _ (cx ne) z
  ·rw[aM (bF (UJ b hb))];exact(hf b hb).1
 done:=by
  rintro X hP hw hK hc i af s σ H E I hf ⟨⟨old,a1⟩,a2⟩ ⟨vs,hv,he⟩
  subst hP hw hK;obtain⟨au,r1,k1⟩:=hv.get I;have hz:au.toArray[i]?=none:=kK (by rw[cE,<-r1.length];exact he)
  refine K1 (I.ok.hd hc) a1 (tJ a2 k1) hz λh' sb=>⟨rfl,?_⟩
  exact Inv.turns (t':=s.toks) I hf λb o hb z=>by
   simp only[aD,bu,bz,not_or]at hb;exact sb b o hb.2 z
 self:=(by rintro A i s Q E ⟨⟨_,a1⟩,_⟩ q;exact wpAny_pyIter_enum a1 q)
noncomputable def BY:Expr->Bool
 | .Tuple _ _ _=>true
 | _=>false
noncomputable def oH:PV->Option (List PV)
 | .nd .ak ps=>some ps
 | .nd .lst ps=>some ps
 | _=>none
def fL(p q:PV):PV:=.ak [p,q]
def jB{K:W.Frag}(h:oH p=some ps)(b:bB K F p x):∃c l vs,x=.ref l/\rY K F.F c l vs/\aw K F ps vs/\∀F',cA F.F F'->rY K F' c l vs:=by
 unfold oH at h;split at h
 ·cases h;obtain⟨l,vs,rfl,h1,h2⟩:=bX.mp b;exact⟨false,l,vs,rfl,h1,h2,λF' s=>bL s h1⟩
 ·cases h;obtain⟨l,vs,rfl,h1,h2⟩:=dr.mp b;exact⟨true,l,vs,rfl,h1.sq,h2,λF' s=>(jx s h1).sq⟩
 ·cases h
def DL{K:W.Frag}(hs:vf K F.F a vs)(hb:aw K F ps vs):Walk K F ps (WI K a):=by
 intro aa ae F' st σ H R s i;have hq:=(s.s.trans R.sub).seq hs;refine⟨λp e=>?_,λe=>?_⟩
 ·obtain⟨v,e1,b1⟩:=hb.get e;refine⟨⟨vs,v,hq,e1⟩,λx H' ⟨hH,y⟩=>?_⟩
  subst hH;have:=y vs hq;rw[e1]at this;cases this;exact⟨F',R,Gr.refl _,b1.mono s⟩
 ·refine⟨vs,hq,?_⟩;rw[<-hb.length];exact ik.mp e
def GG{K:W.Frag}(hs:gZ K F.F a vs)(hb:aw K F ps vs):Walk K F ps (X1 K a):=by
 intro aa ae F' st σ H R s i;have hq:=bL (s.s.trans R.sub) hs;refine⟨λp e=>?_,λe=>?_⟩
 ·obtain⟨v,e1,b1⟩:=hb.get e;refine⟨⟨vs,v,hq,e1⟩,λx H' ⟨hH,y⟩=>?_⟩
  subst hH;have:=y vs hq;rw[e1]at this;cases this;exact⟨F',R,Gr.refl _,b1.mono s⟩
 ·refine⟨vs,hq,?_⟩;rw[<-hb.length];exact ik.mp e
noncomputable def GH(lo:Int)(n:Nat):List PV:=(List.range n).map fun(i:Nat)=>.int (lo+i)
def Aw{K:W.Frag}(lo:Int)(n:Nat):Walk K F (GH lo n) (WJ lo n):=by
 intro aa ae F' st σ H R s i;unfold GH;refine⟨λp e=>?_,λe=>?_⟩
 ·rw[bK]at e;by_cases hi:i<n
  ·rw[zj hi]at e;cases e;exact⟨hi,λx H' ⟨hH,y⟩=>by subst hH y;exact⟨F',R,Gr.refl _,aC.mpr rfl⟩⟩
  ·rw[uH (by simpa using hi)]at e;cases e
 ·rw[bK]at e;by_cases hi:i<n
  ·rw[zj hi]at e;cases e
  ·exact zw hi
def ja:Nat->List PV->List PV
 | _,[]=>[]
 | k,p::r=>fL (.int k) p::ja (k+1) r
theorem nJ:∀(ps:List PV) (k i:Nat),(ja k ps)[i]?=ps[i]?.map λp=>fL (.int ((k+i:Nat):Int)) p
 | [],k,i=>by simp[ja]
 | p::r,k,0=>by simp[ja]
 | p::r,k,i+1=>by
  simp only[ja,List.getElem?_cons_succ];rw[nJ r (k+1) i,show k+1+i=k+(i+1) by lia]
def K4{K:W.Frag}(k1:∀F',cA F.F F'->rY K F' c l vs)(b1:aw K F ps vs):Walk K F (ja 0 ps) (Ien K c l):=by
 intro aa ae F' st σ H R s i;have h1:=k1 H (s.s.trans R.sub);refine⟨λp e=>?_,λe=>?_⟩
 ·rw[nJ]at e;cases z1:ps[i]? with
  | none=>rw[z1]at e;cases e
  | some p1 =>
   rw[z1]at e;cases e;obtain⟨v,e1,YR⟩:=b1.get z1;refine⟨⟨vs,v,h1,e1⟩,λx H' z9=>?_⟩
   obtain⟨T,v',hn,hx,hH,FU⟩:=z9;have g1:=FU vs h1;rw[e1]at g1;cases g1;subst hx hH;obtain⟨R2,s2⟩:=R.laid (.ak [.int i,v]) hn;refine⟨_,R2,s2,bX.mpr ⟨T,[.int i,v],rfl,gZ.of ay,.cons ?_ (.cons (YR.mono (s.trans s2)) .nil)⟩⟩;rw[u4];exact aC.mpr rfl
 ·refine⟨vs,h1,?_⟩;rw[nJ]at e;cases z1:ps[i]? with
  | none =>
   have:=ik.mp z1;rw[b1.length]at this;exact this
  | some p1=>rw[z1]at e;cases e
section
variable {X:Cx} {aa:Hp} {ae:Fz} {a b e tg:Expr} {fa fb:Gx PV} {ts:Gx (List PV)} {pos p:Pos}
noncomputable def PD(i j:Int):Bool:=decide (-(2^62)<=i/\i<2^62 /\ -(2^62)<=j/\j<2^62)
def oI:List PV->Option (List PV)
 | [.int j]=>if PD 0 j=true then some (GH 0 j.toNat)else none
 | _=>none
def PF(g:List PV->Option (List PV))(ts:Gx (List PV)):Gx (List PV):=bnd ts λps=>jZ (g ps)
def GI(hg:Gl X "range")(hm:X.mg "range"=none)(ha:PA X [a] (tA X aa ae ts))(hs:starEach [a] X.env=[(false,eval a X.env)]:=by rfl):PI X tg (.Call (.Name "range" p) [a] [] pos) (tI X aa ae (PF oI ts)) :=
 (Dn hg hm ha hs).imp λσ H Rr ⟨F,st,R,h⟩=>⟨F,st,R,h.bnd λps vs F1 st1 H1 R1 g1 b1 h1=>by
  obtain⟨o,e,z⟩:=h1.jZ;unfold oI at e;split at e
  ·obtain⟨hr,rfl⟩:=aB e;obtain⟨v,rfl,b⟩:=ek b1;obtain⟨_,_,h3,h4⟩:=ip hr;rw[aC.mp b];exact⟨_,rfl,h3,h4,z _ H1 F1 R1 (Gr.refl _) (Aw 0 _)⟩
  ·cases e⟩
def BZ(fa:Gx PV):Gx (List PV):=bnd fa λp=>jZ ((oH p).map λps=>ja 0 ps)
def YS(ht:BY tg=true)(hg:Gl X "enumerate")(hm:X.mg "enumerate"=none)(ha:PE X a (tE X aa ae fa))(hs:starEach [a] X.env=[(false,eval a X.env)]) :
  PI X tg (.Call (.Name "enumerate" p) [a] [] pos) (tI X aa ae (BZ fa)):=by
 rintro af s σ H R I ⟨F,st,Rp,h⟩
 have hA:=g9 ha qk hs pos af s σ H (λvs H'=>∃F' st' x pa ps,vs=[x]/\Rep X.K aa ae F' st' σ H'/\bB X.K F' pa x/\oH pa=some ps/\∀b UL Gb,Rep X.K aa ae Gb st' σ UL->Gr F' Gb->Walk X.K Gb (ja 0 ps) b->R b UL) I
  ⟨F,st,Rp,h.bnd λp v F1 st1 H1 R1 g1 b1 h1=>by
   obtain⟨o,e,z⟩:=h1.jZ;obtain⟨ps,e1,rfl⟩:=aR e;exact⟨F1,st1,v,p,ps,rfl,R1,b1,e1,z⟩⟩
 refine Call_ (ld_blt I hg hm boot_enumerate (kG (thn hA λus s1 z9=>?_) hs rfl))
 obtain⟨vs,H1,I1,r1,F1,st1,x,pa,ps,ev,R1,b1,f3,q⟩:=z9;subst ev;obtain⟨u1,rfl,UM⟩:=kA r1;obtain⟨c1,l1,vs1,rfl,q1,Sk,k1⟩:=jB f3 b1;cases UM;obtain⟨au,v1,K5⟩:=(k1 H1 R1.sub).get I1;obtain⟨part,MX⟩:∃o,s1.heap.get? l1=some o:=by
  rcases K5 with⟨_,⟨o,e,_⟩⟩ | ⟨_,⟨o,e,_⟩⟩
  ·grind
  ·grind
 have UN:=aH MX;refine callType_new PySem.F.called_enumerate (by decide) (PySem.F.typeCall_enumerate_1 _) (PySem.F.newCall_enumerate_1 _) (λobj=>PySem.F.args_object_init_2 obj _) PySem.F.entry_enumerate_new (GF l1 au.toArray (kh c1) part) ⟨K5,MX,λh1 h2 e1 e2=>?_⟩
 have z1:h1.objs.size=s1.heap.objs.size+1:=by simp_all
 have p1:∀b o,s1.heap.get? b=some o->h1.get? b=some o:=λb o e=>by rw[e1];exact aK _ e
 have p2:∀b o,h1.get? b=some o->h2.get? b=some o:=λb o e=>by rw[e2];exact aK _ e
 have g2:IsEnum h2 h1.objs.size s1.heap.objs.size 0 .none:=by rw[e2];exact bP _ rfl
 have g1:=p2 _ _ (by rw[e1];exact bP _ rfl)
 have I2:Inv X af σ H1 {s1 with heap:=h2,toks:=s1.toks}:=I1.kept λb o e=>p2 _ _ (p1 _ _ e)
 have fD:∀b,s1.heap.objs.size<=b->H1 b=none:=λb hb=>I1.hok.fresh hb
 refine⟨⟨_,g2,rfl⟩,?_⟩;show wpAny _ _ (pyIter (.ref h1.objs.size)) _ _ {s1 with heap:=h2,toks:=s1.toks}
 refine wpAny_pyIter_enum g2 ?_;cases tg with
 | Tuple elts x1 qj =>
  refine⟨h1.objs.size,[h1.objs.size,s1.heap.objs.size],_,_,H1,rfl,I2,K2 (by lia) UN,⟨⟨_,g2⟩,(by
   cases c1 with
   | true=>exact(⟨_,g1,rfl,rfl⟩)
   | false=>exact(⟨_,g1,rfl,rfl⟩))⟩,λb hb=>?_,q _ H1 F1 R1 (Gr.refl _) (K4 k1 Sk)⟩
  simp only[aD,bu,bz]at hb;have UO:s1.heap.objs.size<=b:=by rcases hb with rfl | rfl<;>lia
  exact I1.vh UO (fD b UO)
 | _=>cases ht
end
end L2.U
namespace L2
open PySem PySem.Spec PyProof.Rows
noncomputable def YT(z:Str):It:=⟨λi _=>i<z.cps.size,λi H x H'=>H'=H/\∃c,z.cps[i]?=some c/\x=.str ⟨#[c]⟩,λi _=>z.cps.size<=i⟩
def GJ{P:Program}{w:World}{K:W.Frag}{tg:Expr}(z:Str)(t:Tok)(it:Addr):Turn P w K tg (YT z) [it] it (λi h=>h.IsStrIter it "str_ascii_iterator" z t i) where
 mem:=by simp
 obj:=λi h st b hb=>by
  have e:b=it:=by grind
  subst e;obtain⟨o,e,c,d⟩:=st;exact⟨o,e,λv z=>by grind⟩
 keep:=λi h h' st k=>let ⟨o,ho,r⟩:=st;⟨o,k it (by simp) o ho,r⟩
 item:=by
  intro X hP hw hK hc i af s σ H E I hf st hg;subst hP hw hK;have hx:z.cps[i]?=some z.cps[i]:=pC hg;obtain⟨f0,f1,f2,f3,f4,f5⟩:=hf it (by simp)
  refine wpAny_pyNext_ascii_item st hx λh' st' sb=>?_
  have I1:=I.turned (t':=s.toks+1) (λb o hb e=>(sb.2 b hb).trans e) f0 f1 f3 f4 f5
  obtain⟨o,e,c,d⟩:=id st';exact⟨_,rfl,Bz e c d (by decide) ⟨.str ⟨#[z.cps[i]]⟩,H,I1,⟨_,rfl⟩,⟨rfl,_,hx,rfl⟩,st',λb hb=>(hf b hb).1⟩⟩
 done:=by
  intro X hP hw hK hc i af s σ H E I hf st hg;subst hP hw hK;obtain⟨f0,f1,f2,f3,f4,f5⟩:=hf it (by simp)
  exact wpAny_pyNext_ascii_end (I.ok.hd hc) st (kK hg) λh' eb=>⟨rfl,I.turned (λb o hb e=>eb b o hb e) f0 f1 f3 f4 f5⟩
 self:=λ_ _ _ _ _ st h=>wpAny_pyIter_striter_ascii st h
def YU(tl:TE):TI:=λσ H R=>tl σ H λx H1=>∃z,x=.str z/\z.cps.all (· < 128)=true/\R (YT z) H1
def PH{X:Cx}{tg l:Expr}{tl:TE}(hl:PE X l tl):PI X tg l (YU tl):=by
 intro af s σ H R I h;refine thn (hl af s σ H _ I h) λv s1 ⟨x,H1,I1,r1,q1⟩=>?_
 obtain⟨z,e,hz,q⟩:=q1;subst e;obtain⟨t,rfl⟩:=r1;refine wpAny_pyIter_ascii hz ?_;refine⟨s1.heap.objs.size,[s1.heap.objs.size],_,_,H1,rfl,I1.kept λb o e=>aK _ e,GJ z t _,⟨_,bP _ rfl,rfl,rfl⟩,λb hb=>?_,q⟩
 have e:b=s1.heap.objs.size:=by grind
 subst e;exact I1.vh (aF _) (I1.hok.fresh (aF _))
end L2
namespace L2.U
open PySem PySem.Spec PyProof.Rows
noncomputable def K6(z:Str):List PV:=z.cps.toList.map λc=>.str ⟨#[c]⟩
def GL{K:W.Frag}{F:Fz}(z:Str):Walk K F (K6 z) (YT z):=by
 intro aa ae F' st σ H R s i;refine⟨λp e=>?_,λe=>?_⟩
 ·unfold K6 at e;rw[bK,zf]at e;obtain⟨c,e1,rfl⟩:=aR e;have hi:i<z.cps.size:=(Array.getElem?_eq_some_iff.mp e1).1;refine⟨hi,λx H' ⟨hH,c',e2,e3⟩=>?_⟩
  subst hH e3;cases bE (e1.symm.trans e2);exact⟨F',R,Gr.refl _,bN.mpr rfl⟩
 ·unfold K6 at e;rw[bK,zf]at e;show z.cps.size<=i
  grind
inductive B3 where
 | sq (ps:List PV) | cl (n:Nat)
def UP(K:W.Frag)(F:Fz):B3->It->Prop
 | .sq ps,J=>Walk K F ps J
 | .cl n,J=>∃a,F.μ[n]?=some a/\J=WI K a
abbrev EC(X:Cx)(aa:Hp)(ae:Fz)(f:Gx B3):TI:=tX X aa ae (UP X.K) f
def Sl(f:Gx (List PV)):Gx B3:=bnd f λps=>cC (.sq ps)
def MY(n:Nat)(h:List ah)(i:Nat):Option (Option PV):=match da h (.ref n)with
 | some (.lst,ps)=>some ps[i]?
 | _=>none
def UQ(h:List ah)(p:PV):Option B3:=match oH p with
 | some ps=>some (.sq ps)
 | none=>match p with
  | .ref n=>match da h (.ref n)with
   | some (.lst,_)=>some (.cl n)
   | _=>none
  | .str z=>if z.cps.all (· < 128)=true then some (.sq (K6 z))else none
  | _=>none
def Ax(fe:Gx PV):Gx B3:=bnd fe λp=>hp λh=>UQ h p
def GN(g:Tg)(body:Gx dw)(n:Nat):Nat->Nat->Gx dw
 | 0,_=>λ_=>none
 | f+1,i=>λst=>match MY n st.h i with
  | some (some p)=>bnd (stp (g p)) (λ_=>bnd body (qC (GN g body n f (i+1)))) st
  | some none=>some (.ok .nx,st)
  | none=>none
def YV(g:Tg)(body:Gx dw):B3->Gx dw
 | .sq ps=>fg g body ps
 | .cl n=>GN g body n gX 0
def K7(fi:Gx B3)(g:Tg)(body:Gx dw):Gx dw:=bnd fi (YV g body)
section
variable {X:Cx} {aa:Hp} {ae:Fz} {e tg iter:Expr} {fa:Gx PV} {fb:Gx dw} {body:List Stmt} {pos:Pos}
def PJ(h:PI X tg e (tI X aa ae f)):PI X tg e (EC X aa ae (Sl f)):=(by rintro af s σ H R I ⟨F,st,Rp,hh⟩;exact h af s σ H R I ⟨F,st,Rp,hh.bnd λps J F1 st1 H1 R1 g1 b1 h1=>h1.cC J H1 F1 R1 (Gr.refl _) b1⟩)
def GO{K:W.Frag}{st:cq}(R:Rep K aa ae F st σ H)(ha:F.μ[n]?=some a)(e:MY n st.h i=some o):∃ps vs,o=ps[i]?/\vf K H a vs/\aw K F ps vs:=by
 unfold MY at e;split at e
 ·rename_i ps z;cases e;obtain⟨a',vs,e1,h1,h2⟩:=R.at z (dq.mpr ⟨a,ha,rfl⟩);cases e1;exact⟨ps,vs,rfl,iZ.sq h1,h2⟩
 ·cases e
def GP(he:PE X e (tE X aa ae fa)):PI X tg e (EC X aa ae (Ax fa)):=by
 rintro af s σ H R I ⟨F,st,Rp,h⟩
 obtain⟨r,e1,e2⟩:=At.bnd h
 match r,e2 with
 | (.ex m C,st1),e2 =>
  exact FA he af s σ H R I ⟨F,st,Rp,_,e1,e2⟩
 | (.ok p,st1),e2 =>
  obtain⟨ps,e3,q⟩:=At.hp e2;unfold UQ at e3;split at e3
  ·rename_i qs e4;cases e3;unfold oH at e4;split at e4
   ·cases e4;refine FA he af s σ H R I ⟨F,st,Rp,_,e1,λv H1 F1 R1 s1 b1=>?_⟩
    obtain⟨a,vs,rfl,hs,hb⟩:=bX.mp b1;exact⟨a,rfl,⟨vs,bL R1.sub hs⟩,q _ H1 F1 R1 s1 (GG hs hb)⟩
   ·cases e4;refine BA he af s σ H R I ⟨F,st,Rp,_,e1,λv H1 F1 R1 s1 b1=>?_⟩
    obtain⟨a,vs,rfl,hs,hb⟩:=dr.mp b1;exact⟨a,rfl,⟨vs,(jx R1.sub hs).sq⟩,q _ H1 F1 R1 s1 (DL hs.sq hb)⟩
   ·cases e4
  ·split at e3
   ·rename_i n _;split at e3
    ·rename_i qs z;cases e3;refine BA he af s σ H R I ⟨F,st,Rp,_,e1,λv H1 F1 R1 s1 b1=>?_⟩
     obtain⟨a,vs,rfl,hs,hb⟩:=R1.at z b1;obtain⟨a',ha,e5⟩:=dq.mp b1;cases e5;exact⟨a,rfl,⟨vs,iZ.sq hs⟩,q _ H1 F1 R1 s1 ⟨a,ha,rfl⟩⟩
    ·cases e3
   ·obtain⟨hz,rfl⟩:=aB e3;refine PH he af s σ H R I ⟨F,st,Rp,_,e1,λv H1 F1 R1 s1 b1=>?_⟩
    exact⟨_,bN.mp b1,hz,q _ H1 F1 R1 s1 (GL _)⟩
   ·cases e3
def PK{fi:Gx B3}(hp:PassesOwn (model X.prog X.w) X.A X.env X.xe)(hc:X.calm=true)(hi:PI X tg iter (EC X aa ae fi))(hg:PG X tg (tG X.K aa ae g))(hb:PSs X body (tS X aa ae fb))
  (hs:∀x,foldedSetIterable iter X.env x=pure x:=by intro _;rfl):PS X (.For tg iter body [] pos) (tS X aa ae (K7 fi g fb)):=(Oj hp hc hi hg hb hs).imp <| by
 rintro D σ H ⟨F,st,R,h⟩
 refine⟨F,st,R,h.bnd λsr J F1 st1 H1 R1 g1 wk h1=>?_⟩
 cases sr with
 | sq ps =>
  refine⟨λi m bC H'=>m=ps.length-i/\i<=ps.length/\∃F' st',Rep X.K aa ae F' st' bC H'/\Gr F1 F'/\Sa X aa ae F' D st' (fg g fb (ps.drop i)),⟨ps.length,by simp,jt _,F1,st1,R1,Gr.refl _,h1⟩,?_⟩
  rintro i m bC H' ⟨rfl,hi,F',st',R',s',hr⟩
  obtain⟨wg,YW⟩:=wk aa ae F' st' bC H' R' s' i;by_cases vF:i<ps.length
  ·obtain⟨go,wy⟩:=wg ps[i] (eu vF);rw[yW vF]at hr;refine .inr ⟨go,λBB H2=>∃F2 dW,Rep X.K aa ae F2 dW BB H2/\Gr F1 F2/\Sa X aa ae F2 D dW (fg g fb (ps.drop (i+1))),λBB H2 n2=>⟨ps.length-(i+1),by lia,rfl,vF,n2⟩,λx H2 y=>?_⟩
   obtain⟨F2,R2,s2,b2⟩:=wy x H2 y;obtain⟨r,e1,e2⟩:=At.bnd hr;obtain⟨UR,e3,e4⟩:=aR e1;subst e4;refine⟨F2,st',ps[i],UR,R2,b2,e3,λox H3 F3 R3 s3=>⟨F3,UR,R3,?_⟩⟩
   exact Sa.qc _ (λF4 Jo MO H4 R4 g4 z=>⟨F4,Jo,R4,(s'.trans (s2.trans s3)).trans g4,z⟩) (Sa.mono (e2) (s2.trans s3))
  ·have e:i=ps.length:=by lia
   subst e;rw[List.drop_length]at hr;exact .inl ⟨YW (uH (aF _)),At.cC hr F' bC H' R' (Gr.refl _)⟩
 | cl n =>
  obtain⟨a,ha,rfl⟩:=wk;refine⟨λi m bC H'=>∃F' st',Rep X.K aa ae F' st' bC H'/\Gr F1 F'/\Sa X aa ae F' D st' (GN g fb n m i),⟨gX,F1,st1,R1,Gr.refl _,h1⟩,?_⟩
  rintro i m bC H' ⟨F',st',R',s',hr⟩
  cases m with
  | zero=>obtain⟨r,e,_⟩:=hr;cases e
  | succ m =>
   obtain⟨r,e1,e2⟩:=hr;have e1:(match MY n st'.h i with
    | some (some p)=>bnd (stp (g p)) (λ_=>bnd fb (qC (GN g fb n m (i+1)))) st'
    | some none=>some (.ok .nx,st')
    | none=>none)=some r:=e1
   cases z:MY n st'.h i with
   | none=>rw[z]at e1;cases e1
   | some o =>
    obtain⟨ps,vs,ho,hq,qB⟩:=GO R' (s'.m n a ha) z;cases o with
    | none =>
     rw[z]at e1;cases e1;refine .inl ⟨⟨vs,hq,?_⟩,e2 F' bC H' R' (Gr.refl _)⟩;rw[<-qB.length];exact ik.mp ho.symm
    | some p =>
     rw[z]at e1;obtain⟨v,hv,bv⟩:=qB.get ho.symm;refine .inr ⟨⟨vs,v,hq,hv⟩,λBB H2=>∃F2 dW,Rep X.K aa ae F2 dW BB H2/\Gr F1 F2/\Sa X aa ae F2 D dW (GN g fb n m (i+1)),λBB H2 n2=>⟨m,pK m,n2⟩,λx H2 ⟨hH,y⟩=>?_⟩
     subst hH;have:=y vs hq;rw[hv]at this;cases this;obtain⟨r',q1,q2⟩:=At.bnd (⟨r,e1,e2⟩);obtain⟨UR,e3,e4⟩:=aR q1;subst e4;refine⟨F',st',p,UR,R',bv,e3,λox H3 F3 R3 s3=>⟨F3,UR,R3,?_⟩⟩
     exact Sa.qc _ (λF4 Jo MO H4 R4 g4 z=>⟨F4,Jo,R4,(s'.trans s3).trans g4,z⟩) (Sa.mono (q2) s3)
end
def B4(bd:PV->List ah->Option (Option PV×List ah))(n:Nat):Nat->Nat->List ah->Option (List PV×List ah)
 | 0,_,_=>none
 | f+1,i,h=>match MY n h i with
  | some (some p)=>(bd p h).bind λr=>(B4 bd n f (i+1) r.2).map λs=>(r.1.toList++s.1,s.2)
  | some none=>some ([],h)
  | none=>none
def B5(bd:PV->List ah->Option (Option PV×List ah))(h:List ah):B3->Option (List PV×List ah)
 | .sq ps=>if ps.length<=gX then fu bd ps h else none
 | .cl n=>B4 bd n gX 0 h
def B6(c:Bool)(ρ:List (Option PV))(r:List PV×List ah):Option (Rs PV×cq):=if c=true then j8 ⟨.lst,r.1⟩ ⟨ρ,r.2⟩else some (.ok (.lst r.1),⟨ρ,r.2⟩)
def jC(c:Bool)(link:List (Option Nat))(fi:Gx B3)(bd:Bd):Gx PV:=bnd fi λs st=>(B5 (bd (dj link st.ρ)) st.h s).bind (B6 c st.ρ)
section
variable {X:Cx} {aa:Hp} {ae:Fz} {N:List Str} {link:List (Option Nat)} {scope:Scope} {tg iter elt c:Expr} {pos:Pos} {fi:Gx B3} {g:Tg} {fe:Gx PV} {ft:Gx Bool} {L:List Nat} {cl:Bool}
def xI{st1:cq}{Q:VK}(R':lI X.K aa ae F' hf H')(L1:Lc X.K F1 st1.ρ σ)(g':Gr F1 F')(qB:aw X.K F' done acc)(hn:H' D=none)(e4:B6 cl st1.ρ (done,hf)=some r)(e2:F6 X aa ae F1 (λa st'=>∀b H' F',Rep X.K aa ae F' st' σ H'->Gr F1 F'->bB X.K F' a b->Q b H') r):Q (.ref D) (cY H' D (.lst acc)):=by
 have Ro:Rep X.K aa ae F' ⟨st1.ρ,hf⟩ σ H':=⟨R',L1.mono g'⟩;cases cl with
 | true =>
  have e4:=e4;exact Tx.j8 (Tx.mono ⟨r,e4,e2⟩ g' λ_ _ z=>z) Ro hn ay qB
 | false =>
  have e4:=e4;cases e4;obtain⟨R2,s2⟩:=Ro.laid (.lst acc) hn;exact e2 _ _ _ R2 (g'.trans s2) (dr.mpr ⟨D,acc,rfl,iZ.of ay,qB.mono s2⟩)
def tK{Q:VK}
  (hb:∀(F2:Fz) (ρ:List (Option PV)) (p:PV) (h h':List ah) (o:Option PV) (x:V) (bC:St) (H2:Hp) (Q':Option V->St->Hp->Prop),bd (dj link ρ) p h=some (o,h')->Rep X.K aa ae F2 ⟨dj link ρ,h⟩ bC H2->bB X.K F2 p x ->
   (∀o' ox H3 F3,Rep X.K aa ae F3 ⟨dj link ρ,h'⟩ ox H3->Gr F2 F3->aw X.K F3 o.toList (Option.toList o')->Q' o' ox H3)->tb x bC H2 Q')
  (h:tE X aa ae (jC cl link fi bd) σ H Q):tF link (EC X aa ae fi) tb σ H Q:=by
 obtain⟨F,st,R,h⟩:=h;refine⟨F,st,R,h.bnd λsr J F1 st1 H1 R1 g1 wk h1=>?_⟩
 obtain⟨r,e1,e2⟩:=h1;obtain⟨⟨rs,hf⟩,e3,e4⟩:=aQ e1;cases sr with
 | sq ps =>
  obtain⟨dX,e3⟩:=bU e3;refine⟨λi m acc bC H'=>m=ps.length-i/\i<=ps.length/\acc.length<=i/\∃F' h' done rest,Rep X.K aa ae F' ⟨dj link st1.ρ,h'⟩ bC H'/\Gr F1 F'/\fu (bd (dj link st1.ρ)) (ps.drop i) h'=some (rest,hf)/\done++rest=rs/\aw X.K F' done acc,
   ⟨ps.length,rfl,jt _,aF _,F1,st1.h,[],rs,⟨R1.c,R1.l.i9 link⟩,Gr.refl _,e3,rfl,.nil⟩,?_⟩
  rintro i m acc bC H' ⟨rfl,hi,ha,F',h',done,rest,R',g',hr,hd,qB⟩
  obtain⟨wg,YW⟩:=wk aa ae F' _ bC H' R' g' i;by_cases vF:i<ps.length
  ·rw[yW vF]at hr;obtain⟨⟨o,h2⟩,e5,e6⟩:=aQ hr;obtain⟨⟨r2,h3⟩,e7,e8⟩:=aR e6;cases e8;obtain⟨go,wy⟩:=wg ps[i] (eu vF);refine .inr ⟨go,mS (aX ha hi) (mS dX (by decide)),λx H2 y=>?_⟩
   obtain⟨F2,R2,s2,b2⟩:=wy x H2 y;refine hb F2 st1.ρ ps[i] h' h2 o x bC H2 _ e5 R2 b2 λo' ox H3 F3 R3 s3 b3=>⟨ps.length-(i+1),by lia,rfl,vF,?_,F3,h2,done++o.toList,r2,R3,g'.trans (s2.trans s3),e7,by rw[<-hd,jn],(qB.mono (s2.trans s3)).append b3⟩
   rw[bR];cases o'<;>simp <;> lia
  ·have e:i=ps.length:=by lia
   subst e;rw[List.drop_length]at hr;cases hr;rw[dz]at hd;subst hd;exact .inl ⟨YW (uH (aF _)),aX ha (eQ dX),λD hn=>xI R'.c R1.l g' qB hn e4 e2⟩
 | cl n =>
  obtain⟨a,hna,rfl⟩:=wk;refine⟨λi m acc bC H'=>i+m=gX/\acc.length<=i/\∃F' h' done rest,Rep X.K aa ae F' ⟨dj link st1.ρ,h'⟩ bC H'/\Gr F1 F'/\B4 (bd (dj link st1.ρ)) n m i h'=some (rest,hf)/\done++rest=rs/\aw X.K F' done acc,
   ⟨gX,u4 _,aF _,F1,st1.h,[],rs,⟨R1.c,R1.l.i9 link⟩,Gr.refl _,e3,rfl,.nil⟩,?_⟩
  rintro i m acc bC H' ⟨hm,ha,F',h',done,rest,R',g',hr,hd,qB⟩
  cases m with
  | zero=>cases hr
  | succ m =>
   have hr:(match MY n h' i with
    | some (some p)=>(bd (dj link st1.ρ) p h').bind λr=>(B4 (bd (dj link st1.ρ)) n m (i+1) r.2).map λs=>(r.1.toList++s.1,s.2)
    | some none=>some ([],h')
    | none=>none)=some (rest,hf):=hr
   have Ai:i<=gX:=by lia
   cases z:MY n h' i with
   | none=>rw[z]at hr;cases hr
   | some o =>
    obtain⟨ps,vs,ho,hq,hbq⟩:=GO R' (g'.m n a hna) z;rw[z]at hr;cases o with
    | none =>
     cases hr;rw[dz]at hd;subst hd;refine .inl ⟨⟨vs,hq,?_⟩,aX ha (eQ Ai),λD hn=>xI R'.c R1.l g' qB hn e4 e2⟩
     rw[<-hbq.length];exact ik.mp ho.symm
    | some p =>
     obtain⟨⟨o,h2⟩,e5,e6⟩:=aQ hr;obtain⟨⟨r2,h3⟩,e7,e8⟩:=aR e6;cases e8;obtain⟨v,hv,bv⟩:=hbq.get ho.symm;refine .inr ⟨⟨vs,v,hq,hv⟩,mS (aX ha Ai) (by decide),λx H2 ⟨hH,y⟩=>?_⟩
     subst hH;have:=y vs hq;rw[hv]at this;cases this;refine hb F' st1.ρ p h' h2 o v bC H2 _ e5 R' bv λo' ox H3 F3 R3 s3 b3=>⟨m,pK m,by lia,?_,F3,h2,done++o.toList,r2,R3,g'.trans s3,e7,by rw[<-hd,jn],(qB.mono s3).append b3⟩
     rw[bR];cases o'<;>simp <;> lia
def GQ(hg:KG L g)(hL:∀i∈L,link[i]?=some none)(h:tE X aa ae (jC cl link fi (oG g fe)) σ H Q):tF link (EC X aa ae fi) (tb1 X aa ae g fe) σ H Q :=
 tK (λF2 ρ p h h' o x bC H2 Q' e R2 b2 k=>by
  obtain⟨st1,e1,e⟩:=aQ e;obtain⟨r,e2,e⟩:=aQ e;obtain⟨⟨a,hh⟩,e3,e4⟩:=aR e;cases e4;obtain⟨JY,rfl,rfl⟩:=xH e3;obtain⟨l1,k1⟩:=hg _ _ _ e1;refine⟨F2,_,p,st1,R2,b2,e1,λox H3 F3 R3 s3 Y hY=>⟨F3,st1,by grind,_,e2,λv H4 F4 R4 s4 b4=>?_⟩⟩
  rw[hY]at R4 b4;exact k (some v) ox H4 F4 ⟨R4.c,(R3.l.mono s4).back (l1.symm.trans R3.l.len) rfl k1 hL⟩ (s3.trans s4) (.cons b4 .nil)) h
def GR(hg:KG L g)(hL:∀i∈L,link[i]?=some none)(h:tE X aa ae (jC cl link fi (xG g ft fe)) σ H Q):tF link (EC X aa ae fi) (tb2 X aa ae g ft fe) σ H Q :=
 tK (λF2 ρ p h h' o x bC H2 Q' e R2 b2 k=>by
  obtain⟨st1,e1,e⟩:=aQ e;obtain⟨r,e2,e⟩:=aQ e;obtain⟨l1,k1⟩:=hg _ _ _ e1;refine⟨F2,_,p,st1,R2,b2,e1,λox H3 F3 R3 s3 Y hY=>⟨F3,st1,by grind,r,e2,?_⟩⟩
  match r,e with
  | (.ok b,dW),e =>
   intro b' H4 F4 R4 s4 eb;cases eb;cases b with
   | true =>
    have e:=e;obtain⟨r,e5,e⟩:=aQ e;obtain⟨⟨a,hh⟩,e6,e7⟩:=aR e;cases e7;obtain⟨JY,rfl,rfl⟩:=xH e6;rw[if_pos rfl];refine⟨F4,dW,R4,_,e5,λv H5 F5 R5 s5 b5=>?_⟩
    rw[hY]at R5 b5;exact k (some v) ox H5 F5 ⟨R5.c,(R3.l.mono (s4.trans s5)).back (l1.symm.trans R3.l.len) rfl k1 hL⟩ (s3.trans (s4.trans s5)) (.cons b5 .nil)
   | false =>
    have e:=e;cases e;rw[hY]at R4;exact k none ox H4 F4 ⟨R4.c,(R3.l.mono s4).back (l1.symm.trans R3.l.len) rfl k1 hL⟩ (s3.trans s4) .nil) h
end
noncomputable def Ay:ah:=⟨.ak,[]⟩
section
variable {K:W.Frag} {aa H:Hp} {ae F F':Fz} {st:cq} {σ:St} {a:Addr} {n:Nat} {c:ah}
def US{μ:List Addr}(hd:μ.Nodup)(h1:μ[n]?=some a)(h2:μ[m]?=some b)(hm:m≠n):b≠a:=λz=>by
 subst z;exact hm ((List.getElem?_inj (de.mp h2).1 hd).mp (h2.trans h1.symm))
def Rep.lock(R:Rep K aa ae F st σ H)(ha:F.μ[n]?=some a)(hf:F.F a=none)(u:HO):Rep K aa ae ⟨cY F.F a u,F.μ⟩ ⟨st.ρ,st.h.set n Ay⟩ σ (cY H a u)/\Gr F ⟨cY F.F a u,F.μ⟩:=by
 have g:Gr F ⟨cY F.F a u,F.μ⟩:=⟨fK hf,λ_ _ h=>h⟩
 have h0:=(R.c.new n a ha).1;refine⟨⟨⟨λb o e=>?_,λb o e=>?_,R.c.base.trans g,λb o e=>?_,λm b e=>?_,by simp[R.c.hl],R.c.nd,λm d b hd hb hl=>?_⟩,R.l.mono g⟩,g⟩
 ·have e:cY F.F a u b=some o:=e;by_cases hb:b=a
  ·subst hb;rw[ay]at e ⊢;exact e
  ·rw[aM hb]at e ⊢;exact R.c.sub _ _ e
 ·rw[aM (dh e h0)];exact R.c.keep _ _ e
 ·have e:cY F.F a u b=some o:=e;by_cases hb:b=a
  ·subst hb;exact .inr h0
  ·rw[aM hb]at e;exact R.c.fresh _ _ e
 ·obtain⟨h1,o,h2⟩:=R.c.new m b e;by_cases hb:b=a
  ·subst hb;exact⟨h1,u,ay⟩
  ·exact⟨h1,o,by rw[aM hb];exact h2⟩
 ·by_cases hm:m=n
  ·subst hm;rw[List.getElem?_set_self' ]at hd;cases z:st.h[m]? with
   | none=>rw[z]at hd;cases hd
   | some d'=>rw[z]at hd;cases hd;cases hl
  ·rw[aL (cx hm)]at hd;have jY:=US R.c.nd ha hb hm;obtain⟨h1,vs,h2,h3⟩:=R.c.cell m d b hd hb hl;exact⟨(aM jY).trans h1,vs,h2.to g.s (λo e=>by rw[aM jY];exact e) (λz=>z),h3.mono g⟩
end
noncomputable def oJ:dZ->PV
 | .inl i=>.int i
 | .inr x=>.str x
noncomputable def Az:PV->Option (List PV)
 | .nd .lst qs=>some qs
 | _=>none
def adv(n:Nat)(ks:List (List dZ))(ps:List PV)(p q:PV):Option (List PV):=match p with
 | .ref m=>if m=n then(i8 true q).bind λk=>(d8 k ks ps).bind Az else none
 | _=>none
section
variable {X:Cx} {aa:Hp} {ae:Fz} {tg iter va vb:Expr} {fe fa fb:Gx PV} {f:Gx dw} {body:List Stmt} {pos adw:Pos} {D:xc} {g:Tg}
def PL(fe:Gx PV):Gx PV:=bnd fe λp st=>match p with
 | .ref n=>(kf st.h (.ref n)).bind λq=>match q.2.k with
  | .lst=>some (.ok (.lst q.2.ps),⟨st.ρ,st.h.set n Ay⟩)
  | _=>none
 | p=>some (.ok p,st)
def UT{e:Expr}(he:PE X e (tE X aa ae fe)):PE X e (tE X aa ae (PL fe)):=he.imp λσ H Q h=>by
 obtain⟨F,st,R,h⟩:=h;refine⟨F,st,R,h.bnd λp v F1 st1 H1 R1 g1 b1 h1=>?_⟩
 have keep:(∀n,p≠.ref n)->Q v H1:=λhp=>by
  obtain⟨r,e1,e2⟩:=h1;cases p with
  | ref n=>exact absurd rfl (hp n)
  | _=>cases e1;exact e2 _ _ F1 R1 (Gr.refl _) b1
 cases p with
 | ref n =>
  obtain⟨r,e1,e2⟩:=h1;obtain⟨⟨m,c⟩,d1,e3⟩:=aQ (show(kf st1.h (.ref n)).bind _=some r from e1)
  obtain⟨z,YX,hl⟩:=gr d1;cases z;obtain⟨a,ha,rfl⟩:=dq.mp b1;obtain⟨ck,cp⟩:=c;cases ck with
  | lst =>
   cases e3;obtain⟨hf,ws,k1,hv⟩:=R1.c.cell n _ a YX ha hl;have k1:H1 a=some (.lst ws):=k1;obtain⟨R2,g2⟩:=R1.lock ha hf (.lst ws);have eH:cY H1 a (.lst ws)=H1:=by
    funext b
    by_cases hb:b=a
    ·subst hb;rw[ay,k1]
    ·rw[aM hb]
   rw[eH]at R2;exact e2 _ _ _ R2 g2 (dr.mpr ⟨a,ws,rfl,iZ.of ay,hv.mono g2⟩)
  | _=>cases e3
 | _=>exact keep λ_ z=>nomatch z
end
def B7{P:Program}{w:World}{H':Hp}{h1 h5 B:Heap}(x:lH P w H' h1)(hB:∀b o,H' b=some o->∃ob,B.get? b=some ob)(k1:B.StaysIn h1)(k5:B.StaysIn h5):lH P w H' h5:=λa o e=>by
 have keep:∀b u o',H' b=some o'->h1.get? b=some u->h5.get? b=some u:=λb u o' eb q=>by
  obtain⟨ob,WY⟩:=hB b o' eb;have:=k1 b ob WY;rw[q]at this;cases this;exact k5 b _ WY
 refine(x a o e).w6 (λb u hb q=>?_) (λ_ q=>q) (λ_ _ q=>q) λ_ _ _ q=>q
 rcases hb with rfl | hb
 ·exact keep _ _ _ e q
 ·exact keep _ _ _ hb q
def GS{l:List Env}{H H':Hp}{h h1 h5 B B':Heap}(u:Un (fD l) [] H H' h h1)(sm:Dm H H')(hB:∀b o,H' b=some o->∃ob,B.get? b=some ob)(hU:∀b ob,h.get? b=some ob->H b=none->b∉fD l->B.get? b=some ob)
  (k5:B.StaysIn h5) (fr:h1.FunFrames B' l) (up:h1.UpToSlots h5):Un (fD l) [] H H' h h5:=by
 have slot:∀b o,h.get? b=some o->H b=none->b∈fD l->∃sl,h5.get? b=some {o with slots:=sl}:=λb o q n hb=>by
  obtain⟨sl,e⟩:=u.slot b o q n hb (by simp)
  obtain⟨_,o',qa,hd⟩:=fr.mem hb;rw[e]at qa;cases qa;obtain⟨SV,e'⟩:=up b _ e hd;exact⟨SV,e'⟩
 refine⟨λb o q n hb _=>k5 b o (hU b o q n hb),λb o q n hb _=>slot b o q n hb,u.free,λb o q hx=>?_,u.tups,u.frzs,u.tbls⟩
 cases z:H b with
 | none =>
  by_cases hb:b∈fD l
  ·grind
  ·exact⟨o,k5 b o (hU b o q z hb)⟩
 | some v =>
  obtain⟨v',z'⟩:=sm b v z;obtain⟨ob,WY⟩:=hB b v' z';exact⟨ob,k5 b ob WY⟩
def DM{P:Program}{w:World}{H:Hp}{h:Heap}{a:Addr}{o:HO}(x:fJ P w H h a o):∃ob,h.get? a=some ob:=by
 cases o with
 | lst xs=>obtain⟨_,_,_,_,e⟩:=x;exact⟨_,e⟩
 | ak xs=>obtain⟨_,_,_,ob,e,_⟩:=x;exact⟨_,e⟩
 | dK kvs=>obtain⟨_,_,_,_,o,_,_,e,_⟩:=x;exact⟨_,e⟩
 | dT kvs=>obtain⟨_,_,o,_,_,e,_⟩:=x;exact⟨_,e⟩
 | set S n=>obtain⟨o,_,_,_,e,_⟩:=x;exact⟨_,e⟩
 | ins C dx fs=>obtain⟨_,_,_,e,_⟩:=x;exact⟨_,e⟩
 | own y=>obtain⟨_,e⟩:=x;exact⟨_,e⟩
 | xd fs=>obtain⟨_,⟨_,_,_,e,_⟩,_⟩:=x;exact⟨_,e⟩
 | WB lo hi=>obtain⟨_,_,_,e⟩:=x;exact⟨_,e⟩
 | wV ob u=>obtain⟨e,_⟩:=x;exact⟨_,e⟩
 | zI q=>obtain⟨_,e,_⟩:=x;exact⟨_,e⟩
 | WA f y=>exact⟨_,show h.get? a=some _ from x⟩
 | ext φ=>obtain⟨_,⟨_,e⟩,_⟩:=x;exact⟨_,e⟩
section
variable {P:Program} {w:World} {K:W.Frag} {mg:Str->Option Value} {base:Heap} {N:List Str} {qual:Str} {scope:Scope} {f:Addr} {cd:Value} {A:Around} {ax:List Env} {s:Shared} {H:Hp} {E E1:XK} {af:List (Addr×Obj)} {σ:St} {H1:Hp} {s1 s':Shared} {e:Value}
def B8(I:Inv (eY (iA P w) P w K mg base N qual scope f cd A ax s H E) af σ H1 s1){b:Addr}{ob:Obj}(q:s.heap.get? b=some ob)(hb:b∉fD ax):b∉fD (envOfC qual scope s.heap.objs.size f cd::ax):=λhm=>by
 rcases aD.mp (I.vc b hm)with z | z
 ·exact absurd (aH q) (by rw[z];exact fB _)
 ·exact hb z
def xJ(I:Inv (eY (iA P w) P w K mg base N qual scope f cd A ax s H E) af σ H1 s1)(h:iA P w (envOfC qual scope s.heap.objs.size f cd::ax) H1 s1 E1 e s')(hE:∀cls H2,E1 cls none H2->Dm H H2/\E cls none H2) :
  (eY (iA P w) P w K mg base N qual scope f cd A ax s H E).xe e s':=by
 obtain⟨a,cls,a0,B,H2,rfl,Jn,hb,un,hok,sm,he,PM,hB,hU⟩:=h;obtain⟨UU,hE⟩:=hE cls H2 he;have I2:=I.MC Jn un hok hb (λb z=>absurd z (by simp))
 refine wpAny_leaves_onW I.ok.frames rfl PM λh' PN up=>?_
 have hU':∀b ob,s.heap.get? b=some ob->H b=none->b∉fD ax->B.get? b=some ob:=λb ob q n hb=>hU b ob (I.base.keep b ob q n hb (by simp[eY])) (I.base.free b ob q n (by simp[eY])) (B8 I q hb)
 exact⟨a,cls,a0,B,H2,rfl,Jn.trans I.os,hb,GS I2.base UU hB hU' PN.1 PM.2.2.1.2.2 up,B7 hok hB PM.1 PN.1,UU,hE,PN,hB,hU'⟩
def B9{h1:Heap}{a:Addr}{cls:Value}{vs:List Value}(I:Inv (eY (iA P w) P w K mg base N qual scope f cd A ax s H E) af σ H1 s1)(hm:Heap.MadeExcOf s1.heap h1 a cls vs)(UU:Dm H H1)(hE:E cls none H1) :
  (eY (iA P w) P w K mg base N qual scope f cd A ax s H E).xe (.ref a) {s1 with heap:=h1}:=by
 have hB:∀b o,H1 b=some o->∃ob,(W.hideAll s1.heap (fD (envOfC qual scope s.heap.objs.size f cd::ax))).get? b=some ob:=λb o e=>by
  obtain⟨ob,q⟩:=DM (I.hok b o e);exact⟨ob,W.hideAll_get _ q λhb=>by
   have:=I.vd b hb;rw[e]at this;cases this⟩
 have hU:∀b ob,s.heap.get? b=some ob->H b=none->b∉fD ax->(W.hideAll s1.heap (fD (envOfC qual scope s.heap.objs.size f cd::ax))).get? b=some ob:=λb ob q n hb =>
  W.hideAll_get _ (I.base.keep b ob q n hb (by simp[eY])) (B8 I q hb)
 refine wpAny_leaves_madeW I.ok.frames rfl (λb o q=>W.of_hideAll _ q) (W.funFrames_hide I.stack λenv he b hb=>pH.mpr ⟨env,he,hb⟩) hm λh' t PM ak tn up=>?_
 refine⟨a,cls,.ref t,_,H1,rfl,I.os,I.bare,GS (I.base.trans (Un.kept hm.keeps)) UU hB hU PM.1 (I.funs.of_keeps λb o q _=>⟨o,hm.keeps b o q,rfl⟩) up,B7 (I.hok.kept hm.keeps) hB (λb o q=>hm.keeps b o (W.of_hideAll _ q)) PM.1,UU,hE,PM,hB,hU⟩
end
def vH(K:W.Frag)(f:Addr)(cU:Value):Prop:=∃oc od fd pX,K.lookup f=some ⟨oc,od,.func fd,pX⟩/\fd.code=cU
def K8{P:Program}{w:World}{K:W.Frag}{mg:Str->Option Value}{base:Heap}{x qual:Str}{st:Stmt}{f:Addr}{fd:FuncData}{N ps:List Str}{k:Nat}{sp:Sp}(F:Mu K x qual st f fd)(S:cL N ps (ao st))(len:∀vs H Q E,sp vs H Q E->vs.length=ps.length)
  (hbody:∀(cU:Value) (A:Around) (ax:List Env) (s:Shared) (H:Hp) (vs:List V) (Q:VK) (E:XK),vH K f cU->c7 k (A.deeper (envOfC qual (ao st) s.heap.objs.size f cU))->sp vs H Q E ->
   ∃t,PSs (eY (iA P w) P w K mg base N qual (ao st) f cU A ax s H E) (cj st) t/\t {nx:=λ_ H'=>Q .aP H',rt:=Q} (start N vs) H):FnOk P w K mg base (iA P w) (k+1) f fd ps sp:=by
 obtain⟨oc,od,kV,doc,pm,an,cU,ct,pX,rfl,lk,yO⟩:=F.ex;exact MI lk yO S len λA ax s H vs Q E hr MJ=>hbody cU A ax s H vs Q E ⟨oc,od,_,pX,lk,rfl⟩ hr MJ
noncomputable def sv(H:Hp)(μ:List Addr):Hp:=λb=>if b∈μ then none else H b
section
variable {K:W.Frag} {aa H H':Hp} {ae F F':Fz} {h h':List ah}
def DN{μ:List Addr}{b:Addr}{o:HO}(e:sv H μ b=some o):H b=some o/\b∉μ:=by
 unfold sv at e;split at e
 ·cases e
 ·grind
def DO{μ:List Addr}{b:Addr}(e:sv H μ b=none):H b=none\/b∈μ:=by
 unfold sv at e;split at e
 ·grind
 ·grind
def lI.enter(C:lI K aa ae F h H):lI K (sv H F.μ) F F h H/\∀b o,H b=some o->sv H F.μ b=some o\/∃n:Nat,F.μ[n]?=some b:=by
 refine⟨⟨C.sub,λb o e=>(DN e).1,Gr.refl F,λa o e=>.inl e,λn a e=>⟨if_pos (cX e),(C.new n a e).2⟩,C.hl,C.nd,C.cell⟩,λb o e=>?_⟩
 by_cases hb:b∈F.μ
 ·obtain⟨n,hn⟩:=uG.mp hb;exact .inr ⟨n,hn⟩
 ·exact .inl (by unfold sv;rw[if_neg hb];exact e)
def lI.leave(C:lI K aa ae F h H)(D:lI K (sv H F.μ) F F' h' H'):lI K aa ae F' h' H':=by
 have none_of:∀a,sv H F.μ a=none->aa a=none:=λa e=>by
  rcases DO e with z | z
  ·exact C.keep.free z
  ·obtain⟨n,hn⟩:=uG.mp z;exact(C.new n a hn).1
 refine⟨D.sub,λb o e=>D.keep b o ?_,C.base.trans D.base,λa o e=>?_,λn a e=>⟨none_of a (D.new n a e).1,(D.new n a e).2⟩,D.hl,D.nd,D.cell⟩
 ·unfold sv;rw[if_neg λhb=>?_]
  ·exact C.keep b o e
  ·obtain⟨n,hn⟩:=uG.mp hb;rw[(C.new n b hn).1]at e;cases e
 ·rcases D.fresh a o e with z | z
  ·exact C.fresh a o z
  ·grind
end
abbrev jD:=List PV->List ah->Option (Rs PV×List ah)
def YY(K:W.Frag)(aa:Hp)(F:Fz)(h':List ah)(Q:VK)(E:XK):Rs PV->Prop
 | .ok p=>∀v F' H',lI K aa F F' h' H'->bB K F' p v->Q v H'
 | .ex _ C=>∀cls F' H',lI K aa F F' h' H'->ClsAt K C cls->E cls none H'
def tM(K:W.Frag)(n:Nat)(f:jD):Sp:=λvs H Q E=>∃aa F h ps r h',lI K aa F F h H/\(∀b o,H b=some o->aa b=some o\/∃n:Nat,F.μ[n]?=some b)/\aw K F ps vs/\ps.length=n/\f ps h=some (r,h')/\YY K aa F h' Q E r
noncomputable def ix(n:Nat)(ps:List PV):List (Option PV):=ps.map some++List.replicate (n-ps.length) none
noncomputable def UW:Rs dw×cq->Option (Rs PV×List ah)
 | (.ok (.rt p),st)=>some (.ok p,st.h)
 | (.ok .nx,st)=>some (.ok .aP,st.h)
 | (.ex m C,st)=>some (.ex m C,st.h)
 | _=>none
def iI(fb:Gx dw)(n:Nat):jD:=λps h=>(fb ⟨ix n ps,h⟩).bind UW
def xK{K:W.Frag}{F:Fz}{ps:List PV}{vs:List V}{N:List Str}(b:aw K F ps vs):Lc K F (ix N.length ps) (start N vs) where
 av:=λi p e=>by
  unfold ix at e;unfold start;by_cases hi:i<ps.length
  ·rw[fw (by simpa using hi),bK]at e
   cases z:ps[i]? with
   | none=>rw[z]at e;cases e
   | some q =>
    rw[z]at e;cases e;obtain⟨v,h1,h2⟩:=b.get z;refine⟨v,?_,h2⟩;rw[fw (by simpa using (b.length▸hi)),bK,h1]
    rfl
  ·rw[jj (by simpa using hi),List.getElem?_replicate]at e
   split at e<;>cases e
 len:=by unfold ix start;simp[b.length]
def Cd{K:W.Frag}{aa H H':Hp}{F F':Fz}{h':List ah}(full:∀b o,H b=some o->aa b=some o\/∃n:Nat,F.μ[n]?=some b)(D:lI K aa F F' h' H'):Dm H H':=λb o e=>by
 rcases full b o e with z | ⟨n,hn⟩
 ·exact⟨o,D.keep b o z⟩
 ·exact(D.new n b (D.base.m n b hn)).2
def PQ{P:Program}{w:World}{K:W.Frag}{mg:Str->Option Value}{base:Heap}{x qual:Str}{st:Stmt}{f:Addr}{fd:FuncData}{N ps:List Str}{k:Nat}{fb:Gx dw}(F:Mu K x qual st f fd)(S:cL N ps (ao st))
  (hbody:∀(cU:Value) (A:Around) (ax:List Env) (s:Shared) (H:Hp) (E:XK),vH K f cU->c7 k (A.deeper (envOfC qual (ao st) s.heap.objs.size f cU))->∀(aa:Hp) (ae:Fz),
   PSs (eY (iA P w) P w K mg base N qual (ao st) f cU A ax s H E) (cj st) (tS (eY (iA P w) P w K mg base N qual (ao st) f cU A ax s H E) aa ae fb)):FnOk P w K mg base (iA P w) (k+1) f fd ps (tM K ps.length (iI fb N.length)):=by
 refine K8 F S (by rintro vs H Q E ⟨_,_,_,_,_,_,_,_,b,hl,_⟩;rw[<-b.length];exact hl) λcU A ax s H vs Q E WZ hr z9=>?_
 obtain⟨aa,F,h,as,r,h',C,full,b,hl,hf,res⟩:=z9;refine⟨_,hbody cU A ax s H E WZ hr aa F,F,⟨ix N.length as,h⟩,⟨C,xK b⟩,?_⟩;obtain⟨q,e1,e2⟩:=aQ hf;refine⟨q,e1,?_⟩;rcases q with⟨f | ⟨m,c⟩,st⟩
 ·cases f with
  | rt=>cases e2;exact λv F' H' C' g b'=>res v F' H' C' b'
  | nx=>cases e2;exact λF' bC H' R g=>res .aP F' H' R.c (cV.mpr rfl)
  | _=>cases e2
 ·cases e2;cases m with
  | true=>exact λF' bC H' af s1 h1 a cls vs R sf I hc hm=>B9 I hm (Cd full R.c) (res cls F' H' R.c hc)
  | false=>exact λbC af H1 s1 e s' I h=>xJ I h (by rintro cls H2 ⟨hc,F',R,sf⟩;exact⟨Cd full R.c,res cls F' H2 R.c hc⟩)
mutual
def noRef:PV->Bool
 | .ref _=>false
 | .nd _ ps=>aj ps
 | _=>true
def aj:List PV->Bool
 | []=>true
 | p::ps=>noRef p&&aj ps
end
section
variable {K:W.Frag} {F:Fz} {μ:List Addr}
mutual
theorem bB.any:∀{p:PV} {v:V},noRef p=true->bB K F p v->bB K ⟨F.F,μ⟩ p v
 | .aP,_,_,b=>cV.mpr (cV.mp b)
 | .bl _,_,_,b=>br.mpr (br.mp b)
 | .int _,_,_,b=>aC.mpr (aC.mp b)
 | .str _,_,_,b=>bN.mpr (bN.mp b)
 | .fn _,_,_,b=>qu.mpr (qu.mp b)
 | .ref _,_,h,_=>by simp[noRef]at h
 | .nd k ps,_,h,b=>by
  obtain⟨a,vs,h1,h2,h3⟩:=iO.mp b;exact iO.mpr ⟨a,vs,h1,h2,aw.any h h3⟩
theorem aw.any:∀{ps:List PV} {vs:List V},aj ps=true->aw K F ps vs->aw K ⟨F.F,μ⟩ ps vs
 | [],_,_,b=>by rw[b.cH];exact .nil
 | _::_,_,h,b=>by
  simp only[aj,aG]at h;obtain⟨v,r,rfl,b1,b2⟩:=b.cm;exact .cons (b1.any h.1) (aw.any h.2 b2)
end
end
def lx(h:List ah):Nat->PV->Option PV
 | 0,p=>if noRef p=true then some p else none
 | n+1,p=>if noRef p=true then some p else match p with
  | .ref m=>(h[m]?).bind λc=>if live c=true then(dC (lx h n) c.ps).map (.nd c.k)else none
  | .nd k ps=>(dC (lx h n) ps).map (.nd k)
  | _=>none
open Classical in
noncomputable def ki (F:Fz) (h:List ah) (H:Hp):Hp:=λa=>match F.F a with
 | some o=>some o
 | none=>if(∃(n:Nat) (c:ah),F.μ[n]?=some a/\h[n]?=some c/\live c=true)then H a else none
section
variable {K:W.Frag} {aa H:Hp} {ae F:Fz} {h:List ah}
def iJ{a:Addr}{o:HO}(e:F.F a=some o):ki F h H a=some o:=by unfold ki;rw[e]
def DP{a:Addr}{n:Nat}{c:ah}(e:F.F a=none)(h1:F.μ[n]?=some a)(h2:h[n]?=some c)(h3:live c=true):ki F h H a=H a:=by
 unfold ki;rw[e];exact if_pos ⟨n,c,h1,h2,h3⟩
def xM{a:Addr}{o:HO}(e:ki F h H a=some o):F.F a=some o\/(H a=some o/\∃n:Nat,F.μ[n]?=some a):=by
 unfold ki at e;split at e
 ·grind
 ·split at e
  ·grind
  ·cases e
def lI.lx(C:lI K aa ae F h H)(μ:List Addr):∀(n:Nat) (p q:PV) (v:V),lx h n p=some q->bB K F p v->bB K ⟨ki F h H,μ⟩ q v:=by
 have keep:∀{p:PV} {v:V},noRef p=true->bB K F p v->bB K ⟨ki F h H,μ⟩ p v:=λhn b =>
  bB.mono (F:=⟨F.F,μ⟩) (F':=⟨ki F h H,μ⟩) ⟨λb o e=>iJ e,λ_ _ e=>e⟩ (b.any hn)
 intro n;induction n with
 | zero =>
  intro p q v e b;obtain⟨hn,rfl⟩:=aB e;exact keep hn b
 | succ n ih =>
  intro p q v e b;unfold U.lx at e;split at e
  ·grind
  ·have list:∀(ps qs:List PV) vs,dC (U.lx h n) ps=some qs->aw K F ps vs->aw K ⟨ki F h H,μ⟩ qs vs:=by
    intro ps;induction ps with
    | nil=>intro qs vs e b;cases e;rw[b.cH];exact .nil
    | cons p ps ih2 =>
     intro qs vs e b;obtain⟨y,r,e1,e2,rfl⟩:=fF e;obtain⟨v,w,rfl,b1,b2⟩:=b.cm;exact .cons (ih p y v e1 b1) (ih2 r w e2 b2)
   split at e
   ·obtain⟨c,e1,e⟩:=aQ e;obtain⟨hl,e⟩:=bU e;obtain⟨qs,e2,rfl⟩:=aR e;obtain⟨a,h1,h2⟩:=dq.mp b;obtain⟨hF,vs,h3,h4⟩:=C.cell _ c a e1 h1 hl;exact iO.mpr ⟨a,vs,h2,h3.to (λb o e=>iJ e) (λo e=>by rw[show(Fz.mk (ki F h H) μ).F a=ki F h H a from rfl,DP hF h1 e1 hl];exact e) (λz=>by cases z),list _ _ _ e2 h4⟩
   ·obtain⟨qs,e2,rfl⟩:=aR e;obtain⟨a,vs,h1,h2,h3⟩:=iO.mp b;exact iO.mpr ⟨a,vs,h1,h2.to (λb o e=>iJ e) (λo e=>iJ e) id,list _ _ _ e2 h3⟩
   ·cases e
end
section
variable {X:Cx} {aa:Hp} {ae:Fz} {e:Expr} {es:List Expr} {ts:Gx (List PV)} {pos p:Pos} {k n:Nat} {f:Addr} {fd:FuncData} {ps:List Str} {x:Str} {g:jD}
def o7{CX:C8}{sp:Sp}{E:XK}{af:List (Addr×Obj)}{σ:St}{H:Hp}{s:Shared}{Q:VK}{us:List Value}{vs:List V}(F:FnOk X.prog X.w X.K X.mg X.base CX k f fd ps sp)(hr:c7 k X.A)(hb:cK X.K fd ps [])(hx:∀e s',CX X.stack H s E e s'->X.xe e s')
  (I:Inv X af σ H s) (r:Vals vs us) (h:sp vs H Q E):wpAny (model X.prog X.w) X.A (call (.ref f) us) (EP X af σ Q) X.xe s:=by
 have Sh:=hb s us I.ou (by rw[dz,<-r.length];exact F.len _ _ _ _ h)
 rw[dz]at Sh;refine wpAny_call (pT (F.run X.A X.stack s H ⟨us,[]⟩ us vs Q E hr I.OE Sh r h) λr s' hq=>?_)
 cases r with
 | error e=>exact hx e s' hq
 | ok fl =>
  cases fl with
  | ret u=>exact I.after hq
  | next=>exact False.elim hq
  | brk=>exact False.elim hq
  | cont=>exact False.elim hq
noncomputable def UX:Rs PV->Rs PV
 | .ok p=>.ok p
 | .ex _ C=>.ex false C
def eF(h:List ah)(p:PV):Option PV:=if h.isEmpty=true then some p else lx h 4 p
def PR(st:cq):Rs PV×List ah->Option (Rs PV×cq)
 | (.ok p,h)=>(eF h p).map λq=>(.ok q,st)
 | (.ex _ C,_)=>some (.ex false C,st)
def iy(n:Nat)(g:jD)(as:List PV):Gx PV:=λst=>if as.length=n then(g as st.h).map λr=>(UX r.1,⟨st.ρ,r.2⟩)else none
def jE(n:Nat)(g:jD)(as:List PV):Gx PV:=λst=>if as.length=n/\(st.h.isEmpty || aj as)=true then(g as []).bind (PR st)else none
def MZ(n:Nat)(g:jD)(ts:Gx (List PV)):Gx PV:=bnd ts (jE n g)
def AA(X:Cx)(f:Addr)(w:List PV->Gx PV):Prop:=∀(aa H:Hp) (ae F:Fz) (st:cq) (σ:St) (af:List (Addr×Obj)) (s:Shared) (Q:VK) (as:List PV) (us:List Value) (vs:List V),Inv X af σ H s->Rep X.K aa ae F st σ H->aw X.K F as vs->Vals vs us->Tx X aa ae (bB X.K) F st (w as) σ Q ->
 wpAny (model X.prog X.w) X.A (call (.ref f) us) (EP X af σ Q) X.xe s
def PU(G:FnOk X.prog X.w X.K X.mg X.base (iA X.prog X.w) k f fd ps (tM X.K n g))(hr:c7 k X.A)(hb:cK X.K fd ps []):AA X f (iy n g):=by
 rintro aa H ae F st σ af s Q as us vs I R b r ⟨q,e1,e2⟩
 obtain⟨hl,e1⟩:=bU e1;obtain⟨⟨rs,h'⟩,e3,e4⟩:=aR e1;subst e4;obtain⟨C,full⟩:=R.c.enter;cases rs with
 | ok p'=>exact o7 G hr hb (λe s' hx=>tm af σ H s e s' I hx) I r ⟨_,F,st.h,as,_,h',C,full,b,hl,e3,λv F' H' D b'=>e2 v H' F' ⟨R.c.leave D,R.l.mono D.base⟩ D.base b'⟩
 | ex m c=>exact thn (o7 (Q:=λ_ _=>False) G hr hb (λe s' hx=>e2 σ af H s e s' I hx) I r ⟨_,F,st.h,as,_,h',C,full,b,hl,e3,λcls F' H' D hc=>⟨hc,F',⟨R.c.leave D,R.l.mono D.base⟩,D.base⟩⟩) (by rintro v s3 ⟨_,_,_,_,z⟩;exact z.elim)
def Rep.back{K:W.Frag}{aa H H1 H':Hp}{ae F F':Fz}{μ:List Addr}{st:cq}{σ:St}{h':List ah}(R:Rep K aa ae F st σ H)(hH:cA H H1)(D:lI K H1 ⟨F.F,μ⟩ F' h' H'):Rep K aa ae ⟨ki F' h' H',F.μ⟩ st σ H'/\Gr F ⟨ki F' h' H',F.μ⟩:=by
 have g:cA F.F (ki F' h' H'):=λb o e=>iJ (D.base.s b o e)
 refine⟨R.after (hH.trans D.keep) g rfl (λb o e=>?_) (λa o e=>?_),g,λ_ _ z=>z⟩
 ·rcases xM e with z | ⟨z,_⟩
  ·exact D.sub b o z
  ·exact z
 ·rcases xM e with z | ⟨_,n,z⟩
  ·exact(D.fresh a o z).imp_right hH.free
  ·exact .inr (hH.free (D.new n a z).1)
def lI.pure{K:W.Frag}{aa H:Hp}{ae F:Fz}{h:List ah}(C:lI K aa ae F h H):lI K H ⟨F.F,[]⟩ ⟨F.F,[]⟩ [] H :=
 ⟨C.sub,cA.refl H,Gr.refl _,λa o e=>.inl e,λn a e=>by simp at e,rfl,uR,λn c a e=>by simp at e⟩
def xN{K:W.Frag}{H H':Hp}{G F':Fz}{h':List ah}{p q:PV}{v:V}(μ:List Addr)(D:lI K H G F' h' H')(e:eF h' p=some q)(b:bB K F' p v):bB K ⟨ki F' h' H',μ⟩ q v:=by
 unfold eF at e;split at e
 ·rename_i z;cases e;have e0:F'.μ=[]:=mO (by rw[<-D.hl,zy.mp z];rfl)
  exact b.mono ⟨λb o e=>iJ e,λn a e=>by rw[e0]at e;simp at e⟩
 ·exact D.lx μ _ _ _ _ e b
def tN{K:W.Frag}{aa H:Hp}{ae F:Fz}{st:cq}{σ:St}{as:List PV}{vs:List V}(R:Rep K aa ae F st σ H)(hn:(st.h.isEmpty || aj as)=true)(b:aw K F as vs)(μ:List Addr):aw K ⟨F.F,μ⟩ as vs:=by
 rcases Bool.or_eq_true _ _▸hn with z | z
 ·have e0:F.μ=[]:=mO (by rw[<-R.c.hl,zy.mp z];rfl)
  exact aw.mono (F:=F) (F':=⟨F.F,μ⟩) ⟨cA.refl _,λn a e=>by rw[e0]at e;simp at e⟩ b
 ·exact b.any z
def UY(G:FnOk X.prog X.w X.K X.mg X.base (iA X.prog X.w) k f fd ps (tM X.K n g))(hr:c7 k X.A)(hb:cK X.K fd ps []):AA X f (jE n g):=by
 rintro aa H ae F st σ af s Q as us vs I R b r ⟨q,e1,e2⟩
 obtain⟨⟨hl,hn⟩,e1⟩:=bU e1;obtain⟨⟨rs,h'⟩,e3,e4⟩:=aQ e1;have full:∀b o,H b=some o->H b=some o\/∃n:Nat,(Fz.mk F.F []).μ[n]?=some b:=by grind
 have b3:=tN R hn b [];cases rs with
 | ok p' =>
  obtain⟨p2,e5,e6⟩:=aR e4;subst e6;refine o7 G hr hb (λe s' hx=>tm af σ H s e s' I hx) I r ⟨H,⟨F.F,[]⟩,[],as,_,h',R.c.pure,full,b3,hl,e3,λv F' H' D b'=>?_⟩
  obtain⟨R3,g3⟩:=R.back (cA.refl _) D;exact e2 v H' _ R3 g3 (xN F.μ D e5 b')
 | ex m c =>
  cases e4;refine thn (o7 (Q:=λ_ _=>False) G hr hb (λe s' hx=>e2 σ af H s e s' I hx) I r ⟨H,⟨F.F,[]⟩,[],as,_,h',R.c.pure,full,b3,hl,e3,λcls F' H' D hc=>?_⟩) (by rintro v s3 ⟨_,_,_,_,z⟩;exact z.elim)
  obtain⟨R3,g3⟩:=R.back (cA.refl _) D;exact⟨hc,_,R3,g3⟩
def GU{w:List PV->Gx PV}(G:AA X f w)(hg:Gl X x)(hm:X.mg x=some (.ref f))(hk:W.keepIn X.K (.ref f)=true)(ha:PA X (e::es) (tA X aa ae ts))(Ds:(x==("__debug__":Str))=false)
  (he:starEach (e::es) X.env=(false,eval e X.env)::starEach es X.env) (p8:(backTo pos (starEach es X.env)).any (·.1)=false):PE X (.Call (.Name x p) (e::es) [] pos) (tE X aa ae (bnd ts w)):=by
 rintro af s σ H Q I ⟨F1,st,R,h⟩
 refine mR (ld_glob I hg hm ?_ Ds);exact W.callWith_K I.ok.mod.kin hk (thn (ha pos af s σ H (λvs H2=>∃F2 dW as,Rep X.K aa ae F2 dW σ H2/\aw X.K F2 as vs/\Tx X aa ae (bB X.K) F2 dW (w as) σ Q) I
  ⟨F1,st,R,h.bnd λas vs F2 dW H2 R2 g2 b2 h2=>⟨F2,dW,as,R2,b2,h2⟩⟩) (by rintro us s1 ⟨vs,H2,I2,r,F2,dW,as,R2,b2,z⟩;exact⟨I2.ou,G _ _ _ _ _ _ _ _ _ _ _ _ I2 R2 b2 r z⟩)) he p8
end
noncomputable def UZ(T:String):Kd->Bool
 | .lst=>T=="list"
 | .gB _ _=>T=="dict"
 | _=>false
def tyG(T:String)(p:PV):Gx Unit:=hp λh=>(da h p).bind λq=>if UZ T q.1=true then some ()else none
section
variable {X:Cx} {aa:Hp} {ae:Fz} {e o:Expr} {es:List Expr} {fo fe:Gx PV} {ts:Gx (List PV)} {pos eM iR:Pos} {T id:String} {name:Str} {r:V->List V->Hp->VK->Prop}
def Rep.tyV{K:W.Frag}{st:cq}(R:Rep K aa ae F st σ H)(e:da st.h p=some (k,ps))(ht:UZ T k=true)(b:bB K F p v):L2.tyV K T v H:=by
 obtain⟨a,vs,rfl,h2,h3⟩:=R.at e b
 match k,ht,h2 with
 | .lst,ht,h2=>exact .inl ⟨aY ht,vs,iZ.sq h2⟩
 | .gB false ks,ht,⟨kvs,h2,_⟩=>exact .inr (.inr (.inl ⟨aY ht,.inl ⟨kvs,h2⟩⟩))
 | .gB true ks,ht,⟨xs,h2,_⟩=>exact .inr (.inr (.inl ⟨aY ht,.inr ⟨xs,h2⟩⟩))
def Jr(T:String)(w:PV->List PV->Gx PV)(fo:Gx PV)(ts:Gx (List PV)):Gx PV:=bnd fo λp=>bnd (tyG T p) λ_=>bnd ts λas=>w p as
def W4(X:Cx)(r:V->List V->Hp->VK->Prop)(w:PV->List PV->Gx PV):Prop:=∀(aa H:Hp) (ae F:Fz) (st:cq) (σ:St) (p:PV) (as:List PV) (v:V) (ws:List V) (Q:VK),Tx X aa ae (bB X.K) F st (w p as) σ Q->Rep X.K aa ae F st σ H->bB X.K F p v->aw X.K F as ws->r v ws H Q
def GV(hw:W4 X r w)(h:tE X aa ae (Jr T w fo ts) σ H Q):tBM X.K T r (tE X aa ae fo) (tA X aa ae ts) σ H Q:=by
 obtain⟨F,st,R,h⟩:=h;refine⟨F,st,R,h.bnd λp v F1 st1 H1 R1 g1 b1 h1=>?_⟩
 obtain⟨u,e,z⟩:=At.hp (At.bnd h1);obtain⟨⟨k,ps⟩,e1,e2⟩:=aQ e;obtain⟨hk,_⟩:=aB e2;refine⟨R1.tyV e1 hk b1,F1,st1,R1,Tx.bnd z λas ws F2 dW H2 R2 g2 b2 h2=>hw aa H2 ae F2 dW σ p as v ws Q h2 R2 (b1.mono g2) b2⟩
def K9(hw:W4 X r w)(h:tE X aa ae (Jr T w fo (cC [])) σ H Q):TR X.K T r (tE X aa ae fo) σ H Q:=by
 obtain⟨F,st,R,h⟩:=h;refine⟨F,st,R,h.bnd λp v F1 st1 H1 R1 g1 b1 h1=>?_⟩
 obtain⟨u,e,z⟩:=At.hp (At.bnd h1);obtain⟨⟨k,ps⟩,e1,e2⟩:=aQ e;obtain⟨hk,_⟩:=aB e2;exact⟨R1.tyV e1 hk b1,hw aa H1 ae F1 st1 σ p [] v [] Q (At.cC (At.bnd z)) R1 b1 .nil⟩
def GW(hg:Gv X.K r g):W4 X r (fH g):=λ_ _ _ _ _ _ _ _ _ _ _ h R bp ba=>Tx.mut hg h R bp ba
def PX:W4 X (Pt X.K) oF:=λ_ _ _ _ _ _ _ _ _ _ _ h R bp ba=>Tx.ext h R bp ba
def xO(m:Str):Option (String×(PV->List PV->Gx PV)) :=
 if m==("append":Str)then some ("list",fH (dY eS))
 else if m==("extend":Str)then some ("list",oF)
 else none
noncomputable def GX(m:Str):Option (String×(PV->List PV->Gx PV)) :=
 none
def YZ(hu:X.A.units+1150<cLine)(ht:xO name=some (T,w))(ho:PE X o (tE X aa ae fo))(ha:PA X (e::es) (tA X aa ae ts))(lS:attributeBase o name X.env (eval o X.env)=eval o X.env)
  (Kl:((backTo iR (starEach (e::es) X.env)).all (λx=>!x.1)&&(backToKw iR (keywordEach [] X.env)).all (λx=>x.1.isSome)&&decide ((e::es).length+([]:List Keyword).length+(if([]:List Keyword).isEmpty then 0 else 1)<30))=true)
  (lT:(eM.endLine==iR.line)=true) (rW:starEach (e::es) X.env=(false,eval e X.env)::starEach es X.env) (p8:(backTo iR (starEach es X.env)).any (·.1)=false):PE X (.Call (.Attribute o name eM) (e::es) [] iR) (tE X aa ae (Jr T w fo ts)):=by
 unfold xO at ht;split at ht
 ·rename_i hx;cases ht;have hx:=aY hx;subst hx;exact(MK za PySem.F.slot_list_append PySem.F.type_list_append Du ho ha lS Kl lT rW p8).imp λ_ _ _ h=>GV (GW KS) h
 ·split at ht
  ·rename_i hx;cases ht;have hx:=aY hx;subst hx;exact(MK za PySem.F.slot_list_extend PySem.F.type_list_extend Pu ho ha lS Kl lT rW p8).imp λ_ _ _ h=>GV PX h
  ·cases ht
def U0(ht:GX name=some (T,w))(ho:PE X o (tE X aa ae fo))(lS:attributeBase o name X.env (eval o X.env)=eval o X.env)(lT:(eM.endLine==iR.line)=true) :
  PE X (.Call (.Attribute o name eM) [] [] iR) (tE X aa ae (Jr T w fo (cC []))):=by
 cases ht
def gk(po pi pv:PV):cq->Option cq:=λst=>(kf st.h po).bind λc=>match c.2.k with
 | .lst=>(l7 pi).bind λi=>(BF c.2.ps.length i).map λj=>⟨st.ρ,st.h.set c.1 ⟨.lst,c.2.ps.set j pv⟩⟩
 | .gB t ks=>(i8 t pi).bind λk=>if ks.length<gX then some ⟨st.ρ,st.h.set c.1 (fj t k pv ks c.2.ps)⟩else none
 | _=>none
def Y0(K:W.Frag):Fu:=λo i v H Q=>∃aa ae F st τ po pi pv st',gk po pi pv st=some st'/\Rep K aa ae F st τ H/\bB K F po o/\bB K F pi i/\bB K F pv v/\∀H' F',Rep K aa ae F' st' τ H'->Gr F F'->Q H'
def U1(hu:X.A.units+1150<cLine):Fv X (Y0 X.K):=by
 rintro af s σ H o i v ov iv u Q I ro ri rv ⟨aa,ae,F,st,τ,po,pi,pv,st',e,R,bo,bi,bv,k⟩
 obtain⟨⟨n,c⟩,e1,e0⟩:=aQ e;clear e;have e:=e0;clear e0;obtain⟨rfl,hc,hl⟩:=gr e1;obtain⟨a,ha,rfl⟩:=dq.mp bo;obtain⟨_,vs,h2,h3⟩:=R.c.cell n c a hc ha hl;split at e
 ·rename_i hk;obtain⟨j,e2,e⟩:=aQ e;obtain⟨m,e3,rfl⟩:=aR e;rw[fG e2]at bi;have hk:=hk;rw[hk]at h2;refine FQ af s σ H _ _ v ov iv u Q I ro ri rv ⟨a,vs,j,m,rfl,aC.mp bi,h2,by rw[<-h3.length];exact e3,k _ F (R.put hc hl ha ay (h3.set bv m)) (Gr.refl _)⟩
 ·rename_i t ks hk;have hk:=hk;obtain⟨kk,e2,e⟩:=aQ e;obtain⟨hz,rfl⟩:=aB e;rw[hk]at h2;cases t with
  | false =>
   obtain⟨kvs,g1,g2,g3⟩:=h2;obtain⟨j,rfl,rfl⟩:=mh e2 bi;rw[<-g3]at h3;obtain⟨lJ,wQ,p1,p2,p3⟩:=Gp (j:=j) bv h3;have dX:kvs.length<sizeLine:=by
    have:ks.length=kvs.length:=by grind
    exact bV (by grind) (eQ (aF _))
   rw[g2]at p1;refine Pw af s σ H _ _ v ov iv u Q I ro ri rv ⟨a,kvs,j,rfl,rfl,g1,dX,k _ F ?_ (Gr.refl _)⟩;simp only[p1];exact R.put hc hl ha ⟨_,ay,p2,rfl⟩ p3
  | true =>
   obtain⟨xs,g1,g2,g3,g4⟩:=h2;obtain⟨cc,rfl,WG⟩:=mi e2 bi;refine Px (by lia) af s σ H _ _ v ov iv u Q I ro ri rv ⟨a,cc,xs,kk,rfl,rfl,g1,λz hz=>bL R.sub (g2 z hz),bL R.sub WG,(by
    have:ks.length=xs.length:=by grind
    exact bV (by grind) (eQ (aF _))),λr hr=>?_⟩
   obtain⟨lJ,wQ,wR,p1,p2,p3,p4,p5⟩:=Pp bv hr WG g2 h3 g4;rw[g3]at p1;refine k _ F ?_ (Gr.refl _);simp only[p1];exact R.put hc hl ha ⟨_,ay,p3,p2,p5⟩ p4
 ·cases e
def PY(fv fo fi:Gx PV):Gx dw:=bnd fv λv=>bnd fo λo=>bnd fi λi=>stp (gk o i v)
def U2(hu:X.A.units+1150<cLine)(he:PE X e (tE X aa ae fv))(ho:PE X o (tE X aa ae fo))(hi:PE X k (tE X aa ae fi))
  (ha:∀v,assign (.Subscript o k DK) X.env v=(do
   let ov <-holding [v] (eval o X.env)
   let iv <-holding [v,ov] (eval k X.env)
   standAt DK
   holding [v,ov,iv] (setItem ov iv v)
   release [v,ov,iv] []))
  (hs:swapsWithSole [.Subscript o k DK] e pos.line X.env=pure false) (hw:swappedStores [.Subscript o k DK] e X.env=pure none):PS X (.Assign [.Subscript o k DK] e pos) (tS X aa ae (PY fv fo fi)) :=
 (Fx he (Oe ho hi (U1 hu) ha) hs hw rfl).imp λD σ H ⟨F,st,R,h⟩=>⟨F,st,R,h.bnd λpv v F1 st1 H1 R1 g1 b1 h1=>⟨F1,st1,R1,h1.bnd λpo o F2 dW H2 R2 g2 b2 h2=>⟨F2,dW,R2,h2.bnd λpi i F3 JY H3 R3 g3 b3 h3=>by
  obtain⟨st',e,z⟩:=h3.stp;exact⟨aa,ae,F3,JY,σ,po,pi,pv,st',e,R3,b2.mono g3,b3,b1.mono (g2.trans g3),λH' F' R' g'=>z F' σ H' R' g'⟩⟩⟩⟩
def PZ(t:Bool):Gx PV:=j8 ⟨.gB t [],[]⟩
def U3(t:Bool):PE X (.Dict [] [] pos) (tE X aa ae (PZ t)):=by
 cases t with
 | false=>exact Gu.imp (by rintro σ H Q ⟨F,st,R,h⟩ p hp;exact Tx.j8 h R hp ⟨[],ay,rfl,rfl⟩ .nil)
 | true=>exact Kn.imp (by rintro σ H Q ⟨F,st,R,h⟩ p hp;exact Tx.j8 h R hp ⟨[],ay,(λ_ z=>nomatch z),rfl,.nil⟩ .nil)
end
def Ce(K:W.Frag)(mg:Str->Option Value)(P:Params)(T:Str)(rows:List (Str×Str)):Prop :=
 ∃a es n,mg T=some (.ref a)/\K.lookup a=some ⟨.type "dict",none,.dict es n,#[]⟩/\W.KeysLit P es.toList/\∀k fn,rows.lookup k=some fn->∃f,W.nsIn K a k=some (some (.ref f))/\mg fn=some (.ref f)/\W.nsIn K mainGlobals fn=some (some (.ref f))
def vI(K:W.Frag)(mg:Str->Option Value)(P:Params)(T:Str)(rows:List (Str×PV)):Prop :=
 ∃a es n,(a==sysModules)=false/\mg T=some (.ref a)/\K.lookup a=some ⟨.type "dict",none,.dict es n,#[]⟩/\W.KeysLit P es.toList/\∀k p,rows.lookup k=some p->∃u v,W.nsIn K a k=some (some u)/\RelV v u/\∀F,bB K F p v
def Y1(K:W.Frag)(a:Addr):R2:=λx y H Q=>∃k u v,x=.ref a/\y=.str k/\W.nsIn K a k=some (some u)/\RelV v u/\Q v H
noncomputable def P0:PV->Option Str | .str x=>some x | _=>none
def tO(h:P0 p=some i):p=.str i:=by
 cases p<;>first | (cases h;rfl) | cases h
section
variable {X:Cx} {aa:Hp} {ae:Fz} {e ke:Expr} {es:List Expr} {fk fe ff:Gx PV} {ts:Gx (List PV)} {pos p sp:Pos} {T:Str}
def GY{es:Array DictEntry}(hl:X.K.lookup a=some ⟨.type "dict",none,.dict es n,#[]⟩)(hk:W.KeysLit X.w.params es.toList):Se X (Y1 X.K a):=by
 rintro value slice af s σ H x y v u Q I rx ry ⟨k,u',v',ex,ey,e,rv,q⟩ hs
 subst ex ey;cases rx;obtain⟨t,rfl⟩:=ry;have hm:=W.mapOf_K (prog:=X.prog) I.ou hl hk;exact nz hm.typeIs slot_dict_getitem.lookup (wpAny_getItem_of (strKind_is X.prog X.w k t) hm (W.find_K hl e) ⟨v',H,I.tok _,rv,q⟩) hs
def DQ(lp:Str->Option PV)(fk:Gx PV):Gx PV:=bnd fk λq=>jZ ((P0 q).bind lp)
def U4(ht:vI X.K X.mg X.w.params T rows)(hg:Gl X T)(hk:PE X ke (tE X aa ae fk))(hs:lQ ke)(Ds:(T==("__debug__":Str))=false):PE X (.Subscript (.Name T p) ke sp) (tE X aa ae (DQ (λk=>rows.lookup k) fk)):=by
 obtain⟨a,N0,n,_,t1,t2,t3,t4⟩:=ht;refine(FP (GY t2 t3) (ve (v:=.ref a) hg t1 rfl Ds) hk hs).imp λσ H Q ⟨F,st,R,h⟩=>?_
 refine⟨F,st,R,h.bnd λpk v F1 st1 H1 R1 g1 b1 h1=>?_⟩
 obtain⟨q,e1,z⟩:=h1.jZ;obtain⟨k,e2,e3⟩:=aQ e1;rw[tO e2]at b1;obtain⟨u,w,n1,n2,n3⟩:=t4 k q e3;exact⟨k,u,w,rfl,bN.mp b1,n1,n2,z _ H1 F1 R1 (Gr.refl _) (n3 F1)⟩
def U5(ht:Ce X.K X.mg X.w.params T rows)(hg:Gl X T)(hk:PE X ke (tE X aa ae fk))(hs:lQ ke)(Ds:(T==("__debug__":Str))=false):PE X (.Subscript (.Name T p) ke sp) (tE X aa ae (DQ (λk=>(rows.lookup k).map .fn) fk)):=by
 obtain⟨a,N0,n,t1,t2,t3,t4⟩:=ht;refine(FP (GY t2 t3) (ve (v:=.ref a) hg t1 rfl Ds) hk hs).imp λσ H Q ⟨F,st,R,h⟩=>?_
 refine⟨F,st,R,h.bnd λpk v F1 st1 H1 R1 g1 b1 h1=>?_⟩
 obtain⟨q,e1,z⟩:=h1.jZ;obtain⟨k,e2,e3⟩:=aQ e1;obtain⟨fn,e4,rfl⟩:=aR e3;rw[tO e2]at b1;obtain⟨f,n1,n2,n3⟩:=t4 k fn e4;exact⟨k,.ref f,.ref f,rfl,bN.mp b1,n1,rfl,z _ H1 F1 R1 (Gr.refl _) (qu.mpr ⟨f,rfl,n3⟩)⟩
def M0(X:Cx)(fns:List (Str×Nat))(call:Str->jD):Prop:=∀x n,fns.lookup x=some n->∃k f fd ps,FnOk X.prog X.w X.K X.mg X.base (iA X.prog X.w) k f fd ps (tM X.K n (call x))/\c7 k X.A/\X.mg x=some (.ref f)/\W.keepIn X.K (.ref f)=true/\cK X.K fd ps []
noncomputable def W5:PV->Option Str | .fn x=>some x | _=>none
def GZ{p:PV}(h:W5 p=some i):p=.fn i:=by
 cases p<;>first | (cases h;rfl) | cases h
def Cf(fns:List (Str×Nat))(call:Str->jD)(ff:Gx PV)(ts:Gx (List PV)):Gx PV:=bnd ff λq=>bnd (jZ ((W5 q).bind λx=>(fns.lookup x).map λn=>(x,n))) λx=>MZ x.2 (call x.1) ts
def vJ(v k:Expr)(sp:Pos)(args:List Expr)(pos:Pos)(env:Env):eval (.Call (.Subscript v k sp) args [] pos) env=(do callWith pos (<-eval (.Subscript v k sp) env) [] (backTo pos (starEach args env)) (backToKw pos (keywordEach [] env))):=rfl
def La{call:Str->jD}(S5:M0 X fns call)(EA:∀x a,W.nsIn X.K mainGlobals x=some (some (.ref a))->X.mg x=some (.ref a))(hf:PE X (.Subscript v k sp) (tE X aa ae ff))(ha:PA X (e::es) (tA X aa ae ts))
  (he:starEach (e::es) X.env=(false,eval e X.env)::starEach es X.env) (p8:(backTo pos (starEach es X.env)).any (·.1)=false):PE X (.Call (.Subscript v k sp) (e::es) [] pos) (tE X aa ae (Cf fns call ff ts)):=by
 rintro af s σ H Q I ⟨F,st,R,h⟩
 rw[vJ];refine ag (thn (hf af s σ H (λv H1=>∃F1 st1 q,Rep X.K aa ae F1 st1 σ H1/\bB X.K F1 q v/\Tx X aa ae (bB X.K) F1 st1 (bnd (jZ ((W5 q).bind λx=>(fns.lookup x).map λn=>(x,n))) λx=>MZ x.2 (call x.1) ts) σ Q) I
  ⟨F,st,R,h.bnd λq v F1 st1 H1 R1 g1 b1 h1=>⟨F1,st1,q,R1,b1,h1⟩⟩) λu s1 ⟨x,H1,I1,rx,F1,st1,q,R1,b1,h1⟩=>?_)
 obtain⟨⟨y,n⟩,e1,z⟩:=At.jZ (At.bnd h1);obtain⟨y',e2,e3⟩:=aQ e1;obtain⟨n',e4,e5⟩:=aR e3;simp only[jq]at e5;obtain⟨rfl,rfl⟩:=e5;rw[GZ e2]at b1;obtain⟨a,rfl,Uq⟩:=qu.mp b1;obtain⟨j,f',fd,ps,G,hr,m1,m2,m3⟩:=S5 _ _ e4;have:=bE ((EA _ a Uq).symm.trans m1);cases this;cases rx;exact W.callWith_K I.ok.mod.kin m2 (thn (ha pos af s1 σ H1 (λvs H2=>∃F2 dW as,Rep X.K aa ae F2 dW σ H2/\aw X.K F2 as vs/\Tx X aa ae (bB X.K) F2 dW (jE _ _ as) σ Q) I1
  ⟨F1,st1,R1,Tx.bnd z λas vs F2 dW H2 R2 g2 b2 h2=>⟨F2,dW,as,R2,b2,h2⟩⟩) (by rintro us s2 ⟨vs,H2,I2,r,F2,dW,as,R2,b2,z⟩;exact⟨I2.ou,UY G hr m3 _ _ _ _ _ _ _ _ _ _ _ _ I2 R2 b2 r z⟩)) he p8
noncomputable def xP(f:Str):List Str->List PV->Option PV
 | g::ns,p::ps=>if g=f then some p else xP f ns ps
 | _,_=>none
def Lb(f:Str)(fe:Gx PV):Gx PV:=bnd fe λp=>hp λh=>match da h p with
 | some (.ins _ ns,ps)=>xP f ns ps
 | _=>none
theorem qJ{K:W.Frag}:∀{fs:List (Str×V)} {ps:List PV} {p:PV},xP f (fs.map (·.1)) ps=some p->aw K F ps (fs.map (·.2))->f∈fs.map (·.1)/\∃v,fs.lookup f=some v/\bB K F p v
 | [],_,_,h,_=>by cases h
 | (g,v)::r,[],_,h,_=>by cases h
 | (g,v)::r,q::ps,p,h,b=>by
  obtain⟨v',w,e,b1,b2⟩:=b.cm;cases e;have h:(if g=f then some q else xP f (r.map (·.1)) ps)=some p:=h
  by_cases hg:g=f
  ·grind
  ·rw[if_neg hg]at h;obtain⟨h1,v2,h2,h3⟩:=qJ h b2;have hgf:(f==g)=false:=by grind
   exact⟨cW _ h1,v2,by grind,h3⟩
def U6(he:PE X e (tE X aa ae fe))(hb:attributeBase e f X.env (eval e X.env)=eval e X.env):PE X (.Attribute e f pos) (tE X aa ae (Lb f fe)):=(OA he hb).imp λσ H Q ⟨F,st,R,h⟩=>⟨F,st,R,h.bnd λq v F1 st1 H1 R1 g1 b1 h1=>by
 obtain⟨o,e,z⟩:=h1.hp;split at e
 ·rename_i C ns ps hd;obtain⟨a,vs,rfl,⟨Ca,dx,fs,h2,h3,h4,h5,h6,h7⟩,h8⟩:=R1.at hd b1;subst h6 h7;obtain⟨hm,w,hl,bw⟩:=qJ e h8;exact⟨a,Ca,dx,fs,w,rfl,h5,h3,h4 f hm,hl,z _ H1 F1 R1 (Gr.refl _) bw⟩
 ·cases e⟩
noncomputable def je(f:Str)(q:PV):List Str->List PV->List Str×List PV
 | g::ns,p::ps=>if g=f then(g::ns,q::ps)else(g::(je f q ns ps).1,p::(je f q ns ps).2)
 | _,_=>([f],[q])
theorem vK{K:W.Frag}(bq:bB K F q v):∀{fs:List (Str×V)} {ps:List PV},aw K F ps (fs.map (·.2))->(iu f v fs).map (·.1)=(je f q (fs.map (·.1)) ps).1/\aw K F (je f q (fs.map (·.1)) ps).2 ((iu f v fs).map (·.2))/\∀g∈(je f q (fs.map (·.1)) ps).1,g=f\/g∈fs.map (·.1)
 | [],ps,b=>by
  have e:=mO b.length;subst e;exact⟨rfl,.cons bq .nil,λg hg=>.inl (by simpa[je]using hg)⟩
 | (g,w)::r,[],b=>by have:=b.length;simp at this
 | (g,w)::r,p::ps,b=>by
  obtain⟨v',w',e,b1,b2⟩:=b.cm;cases e;obtain⟨h1,h2,h3⟩:=vK bq b2;by_cases hg:g=f
  ·subst hg;have e1:iu g v ((g,w)::r)=(g,v)::r:=if_pos rfl;have e2:je g q (((g,w)::r).map (·.1)) (p::ps)=(g::r.map (·.1),q::ps):=if_pos rfl;rw[e1,e2];exact⟨rfl,.cons bq b2,λy hy=>.inr hy⟩
  ·have e1:iu f v ((g,w)::r)=(g,w)::iu f v r:=if_neg hg;have e2:je f q (((g,w)::r).map (·.1)) (p::ps)=(g::(je f q (r.map (·.1)) ps).1,p::(je f q (r.map (·.1)) ps).2):=if_neg hg;rw[e1,e2];refine⟨by rw[aO,h1],.cons b1 h2,λy hy=>?_⟩
   rcases aD.mp hy with rfl | hy
   ·grind
   ·grind
def Cg(K:W.Frag)(cls:List Str)(flds:List Str):Prop:=∀C,cls.contains C=true->∃Ca,ClsAt K C (.ref Ca)/\sO K Ca/\∀f,flds.contains f=true->ir K Ca f
def eG(cls flds:List Str)(f:Str)(po pv:PV):cq->Option cq:=λst=>(kf st.h po).bind λc=>match c.2.k with
 | .ins C ns=>if(cls.contains C&&flds.contains f&&decide (ns.length<900))=true then some ⟨st.ρ,st.h.set c.1 ⟨.ins C (je f pv ns c.2.ps).1,(je f pv ns c.2.ps).2⟩⟩else none
 | _=>none
def Ld(cls flds:List Str)(f:Str)(fv fo:Gx PV):Gx dw:=bnd fv λv=>bnd fo λo=>stp (eG cls flds f o v)
theorem sAt{cls flds:List Str}(hc:Cg X.K cls flds){po pv:PV}{o v:V}{F F1:Fz}{st st':cq}(R:Rep X.K aa ae F st σ H)(b2:bB X.K F1 po o)(g:Gr F1 F)(b1:bB X.K F pv v)(e:eG cls flds f po pv st=some st'):∃a Ca dx fs,o=.ref a/\H a=some (.ins Ca dx fs)/\sO X.K Ca/\ir X.K Ca f/\fs.length<900/\Rep X.K aa ae F st' σ (cY H a (.ins Ca dx (iu f v fs)))/\∀n c C ns,kf st.h po=some (n,c)->c.k=.ins C ns->ClsAt X.K C (.ref Ca):=by
  obtain⟨⟨n,c⟩,e1,e0⟩:=aQ e;clear e;have e:=e0;clear e0;obtain⟨rfl,zS,hl⟩:=gr e1;obtain⟨a,ha,rfl⟩:=dq.mp (b2.mono g);obtain⟨_,vs,U8,g3⟩:=R.c.cell n c a zS ha hl;split at e
  ·rename_i C ns hk;obtain⟨hq,rfl⟩:=aB e;rw[aG,aG]at hq;rw[hk]at U8;obtain⟨Ca,dx,fs,k1,k2,k3,k4,rfl,rfl⟩:=U8;obtain⟨Cb,m1,m2,m3⟩:=hc C hq.1.1;have eC:Ca=Cb:=by
    have:=k1.symm.trans m1;cases this;rfl
   subst eC;have dX:=ip hq.2;rw[aN]at dX;obtain⟨p1,p2,p3⟩:=vK b1 g3;refine⟨a,Ca,dx,fs,rfl,k4,k2,m3 f hq.1.2,dX,R.put zS hl ha ⟨Ca,dx,_,k1,k2,λg hg=>?_,ay,p1,rfl⟩ p2,λn c C ns h1 h2=>?_⟩
   ·rcases p3 g hg with rfl | hg
    ·exact m3 _ hq.1.2
    ·exact k3 g hg
   ·cases e1.symm.trans h1;cases hk.symm.trans h2;exact k1
  ·cases e
def U7{cls flds:List Str}(hc:Cg X.K cls flds)(ho:PE X o (tE X aa ae fo))(he:PE X e (tE X aa ae fv))(hs:swapsWith e (some (.Attribute o f ow)) pos.line X.env=pure false):PS X (.Assign [.Attribute o f ow] e pos) (tS X aa ae (Ld cls flds f fv fo)) :=
 (OB ho he hs).imp λD σ H ⟨F,st,R,h⟩=>⟨F,st,R,h.bnd λpv v F1 st1 H1 R1 g1 b1 h1=>⟨F1,st1,R1,h1.bnd λpo o F2 dW H2 R2 g2 b2 h2=>by
  obtain⟨st',e,z⟩:=h2.stp;obtain⟨a,Ca,dx,fs,k1,k2,k3,k4,k5,k6,_⟩:=sAt hc R2 b2 (Gr.refl _) (b1.mono g2) e;exact⟨a,Ca,dx,fs,k1,k2,k3,k4,Nat.le_add_left_of_le k5,z F2 σ _ k6 (Gr.refl _)⟩⟩⟩
noncomputable def G4(C:Str)(n:Nat)(g:jD)(ts:Gx (List PV)):Gx PV:=λ_=>none
end
def Y2(X:Cx)(aa:Hp)(ae:Fz)(fa:Addr)(ω:PV->Gx PV):Prop:=∀(H:Hp) (F:Fz) (st:cq) (σ:St) (af:List (Addr×Obj)) (s:Shared) (Q:VK) (p:PV) (u:Value) (v:V),Inv X af σ H s->Rep X.K aa ae F st σ H->bB X.K F p v->RelV v u->Tx X aa ae (bB X.K) F st (ω p) σ Q ->
 wpAny (model X.prog X.w) X.A (call (.ref fa) [u]) (EP X af σ Q) X.xe s
structure G5 (X:Cx) (aa:Hp) (ae:Fz) (n:Nat) (ω:PV->Gx PV):Prop where
 ex:∃fa o u Y3,ae.μ[n]?=some fa/\X.aa fa=some (.wV o u)/\o.data=.func Y3/\Y2 X aa ae fa ω
structure U9 (X:Cx):Prop where
 ex:∃x c T,x∈dA/\W.tabIn X.K x=some (c,T)/\W.codeHdIn X.K c T=true/\X.env.code=.ref c/\X.env.qual++"<lambda>"=JN x
 blt:FY X.mg X.base
section
variable {X:Cx} {aa:Hp} {ae:Fz} {e o:Expr} {fe fo:Gx PV} {pos p G6 zp ap cp:Pos}
def M3(h:starEach [e] X.env=(false,eval e X.env)::starEach [] X.env)(hq:wpAny M A (eval e X.env) (λv s1=>Q [v] s1) E s):wpAny M A (spliced (backTo pos (starEach [e] X.env))) Q E s:=by
 rw[h];exact Calls.spliced_cons (thn hq λv s1 q=>Calls.spliced_nil q)
end
end L2.U
namespace PySem
open PyProof.Rows
namespace F
def eU:entryFor table "dict.update.loop"=some Builtin.«dict.update.loop» := entryFor_of_tree (by kernel_rfl)
def cB:plainId "dict.update.loop"=true:=by decide +kernel
end F
section
variable {prog:Program} {w:World} {K:Type} [DecidableEq K] {knd:KeyKind prog w K} {A:Around} {R:Result->Shared->Prop} {I:Addr} {fp wr:List Addr} {G:Array GenState->Array GenState->Prop} {n:Nat} {P:Nat->Value->Prop} {St:Nat->Shared->Prop}
def xQ(h:Heap)(b:Addr)(key v:Value):Prop:=∃o m,h.get? b=some o/\o.cls=.type "tuple"/\o.data=.seq #[key,v] m
def oK(hp:xQ s.heap b key v)(h:Q [key,v] s):wpAny (model prog w) A (Builtin.Dict.pairItems (.ref b)) Q E s:=by
 obtain⟨o,m,h1,h2,h3⟩:=hp;unfold Builtin.Dict.pairItems;refine ag (nj ⟨o,h1,h2⟩ ?_);rw[if_pos (by decide)]
 refine ag ?_;unfold seqItems?;obtain⟨adA,abn,abo,Y4⟩:=o;simp only at h2 h3;subst h2 h3
 wp_walk
 exact h
def DR(W:WalksS prog w A.in1 I fp wr G n P St)(S:Addr)(hSf:S∉fp)(hl:kvs.length=n)(hn:n<=sizeLine){s₀:Shared}
  (P1:∀i v,P i v->∃b k key u,v=.ref b/\kvs[i]?=some (k,u)/\knd.is k key=true/\b∉S::wr/\xQ s₀.heap b key u) :
  ∀(c i:Nat) (s:Shared),n-i=c->i<=n->St i s->(∀b o,b∉S::wr->s₀.heap.get? b=some o->s.heap.get? b=some o)->s.heap.DictOf knd S (merged [] (kvs.take i)) ->
   (∀s',Moved (S::wr) G s s'->s'.heap.DictOf knd S (merged [] kvs)->R (.ok (.ret .none)) s') ->
   codeAny (model prog w) A (.builtin "dict.update.loop" ⟨[.ref S,.ref I,rawInt (i:Int),.none],[]⟩) R s:=by
 have hSw:S∉wr:=λh=>hSf (W.sub _ h)
 have KZ:∀b∈wr,b∈S::wr:=by grind
 intro c;induction c with
 | zero =>
  intro i s hk hi rW ho hS hR;have Y5:i=n:=by lia
  subst Y5;refine uQ F.eU ?_;rw[uI F.cB _];refine ag (W.done s _ _ rW λs' hm=>?_)
  refine ag (ar ?_);rw[uF (js ‹_›)]at hS;refine ar (hR s' (hm.mono KZ) ?_);obtain⟨o,es,ep,h1,r⟩:=hS;exact⟨o,es,ep,hm.heap S _ hSw h1,r⟩
 | succ c ih =>
  intro i s hk hi rW ho hS hR;have vF:i<n:=by lia
  refine uQ F.eU ?_;rw[uI F.cB _];refine ag (W.item i s _ _ vF rW λv s' hP P2 hm=>?_)
  obtain⟨b,k,key,u,rfl,hki,Oz,hbn,Va⟩:=P1 i v hP;have qa:∀b o,b∉S::wr->s₀.heap.get? b=some o->s'.heap.get? b=some o:=λb o hb e=>hm.heap b o (λz=>hb (cW _ z)) (ho b o hb e)
  refine ag (eE ?_);refine ag (wpAny_tryCatch (oK (by
   obtain⟨o,m,h1,r⟩:=Va;exact⟨o,m,qa b o hbn h1,r⟩) ?_))
  refine eE ?_;have hsz:(merged [] (kvs.take i)).length<=sizeLine:=by
   have:=merged_length_le ([]:List (K×Value)) (kvs.take i);rw[mW]at this;simp at this
   lia
  refine wpAny_dictSet_pairs Oz (by
   obtain⟨o,es,ep,h1,r⟩:=hS;exact⟨o,es,ep,hm.heap S _ hSw h1,r⟩) λh' hd Y6=>?_
  rw[<-merged_take_succ _ _ _ _ hki]at hd;have Y7:∀b o,b∉S::wr->s₀.heap.get? b=some o->h'.get? b=some o:=λb o hb e=>(Y6.2 b (λh:b=S=>hb (by grind))).trans (qa b o hb e)
  refine ar ⟨uZ F.cB _,ih (i+1) _ (by lia) vF (W.frame _ s' _ _ P2 (zx ..) λb hb o e=>?_) Y7 hd λTF Y8 Y9=>?_⟩
  ·exact(Y6.2 b (λh:b=S=>hSf (by grind))).trans e
  ·refine hR TF (Moved.trans W.gtrans ((hm.mono KZ).then_heap (zx ..) λb o hb e=>?_) Y8) Y9
   exact(Y6.2 b (λh:b=S=>hb (by grind))).trans e
end
namespace F
theorem vL:typeLookup (.type "list") "keys"=pure none:=by rw[zH,ze];kernel_rfl
end F
section
variable {prog:Program} {w:World} {A:Around} {E:Value->Shared->Prop} {s:Shared} {a:Addr} {o:Obj} {xs:Array Value} {k:Nat} {Q:Option Value->Shared->Prop}
theorem qK(hx:s.heap.get? a=some o)(hc:o.cls=.type "list")(An:o.data=.seq xs k)(hd:o.dict=none)(hA:A.handled=none)
  (h:∀h' tk,(∀b ob,s.heap.get? b=some ob->h'.get? b=some ob)->Q none {s with heap:=h',toks:=tk}) :
  wpAny (model prog w) A (getAttr? (.ref a) "keys") Q E s:=by
 obtain⟨c,M4,dat,sl⟩:=o;simp only at hc An hd;subst hc An hd;obtain⟨hp,g,d,tk,os⟩:=s;have hT:∀W6,(⟨hp,g,d,W6,os⟩:Shared).TypeIs (.ref a) "list":=λ_=>⟨_,hx,rfl⟩
 have f1:=sub_AttributeError;have f3:=yX.lookup;have f4:=yX.bind (.ref a);have f5:=am_list_getattr_none;unfold getAttr? getAttrBy? getAttrBy
 repeat (any_goals (first | assumption | exact hT _ | ((with_reducible show wpAny _ _ (call (Value.builtin "list.__getattribute__") _ _) _ _ _);refine fX yX (hT _) am_entry_list_getattribute (F.args_list_getattribute_2 _ _) (meets_getattribute_miss_list a xs k sl "keys" _ F.vL (by decide +kernel) (by decide +kernel)) ⟨hx,hA,λh' W6 e Ar=>?_⟩) | wp_step))
 obtain⟨t',u',he⟩:=Ar.there;show wpAny _ _ (getattributeRaised _ _ _ _ _ _ _) _ _ _;unfold getattributeRaised
 repeat (any_goals (first | assumption | wp_step))
 exact h _ _ Ar.keeps
end
section
variable {prog:Program} {w:World} {A:Around} {E:Value->Shared->Prop} {s:Shared} {K:Type} [DecidableEq K] {knd:KeyKind prog w K}
theorem xR{l:Addr}{ol:Obj}{items:Array Value}{m:Nat}{kvs:List (K×Value)}{Q:Value->Shared->Prop}(hh:A.handled=none)(hx:s.heap.get? l=some ol)(hc:ol.cls=.type "list")(An:ol.data=.seq items m)(Za:ol.dict=none)
  (hi:∀(i:Nat) (v:Value),items[i]?=some v->∃b k key u,v=.ref b/\kvs[i]?=some (k,u)/\knd.is k key=true/\xQ s.heap b key u) (hlk:kvs.length=items.size) (hb:items.size<=sizeLine)
  (h:∀(h':Heap) (tk:Nat),h'.DictOf knd s.heap.objs.size (merged [] kvs)->(∀b o,b<s.heap.objs.size->s.heap.get? b=some o->h'.get? b=some o)->Q (.ref s.heap.objs.size) {s with heap:=h',toks:=tk}) :
  wpAny (model prog w) A (call (.type "dict") [.ref l]) Q E s:=by
 refine callType_codes (Q₁:=λobj s₁=>obj=.ref s.heap.objs.size/\s₁={s with heap:=s.heap.push {cls:=.type "dict",data:=.dict #[]}}) F.kt_called_dict (F.kt_typeCall_dict_1 _) F.entry_dict_init (kt_code_dict_new _ ⟨rfl,rfl⟩) ?_
 rintro obj s₁ ⟨rfl,rfl⟩
 have vM:(s.heap.push {cls:=.type "dict",data:=.dict #[]}).DictOf knd s.heap.objs.size []:=Heap.DictOf.new s.heap
 have Ar:(s.heap.push {cls:=.type "dict",data:=.dict #[]}).get? l=some ol:=aK _ hx
 have hlS:l<s.heap.objs.size:=aH hx;refine⟨vM.typeIs,F.args_dict_init_2 _ _,?_⟩;unfold Builtin.«dict.__init__»;refine ag ?_;unfold Builtin.Dict.selfAndRest;refine ag (wpAny_notOrdered_dict vM.typeIs ?_);show wpAny _ _ (pure (s.heap.objs.size,[Value.ref l])) _ _ _;refine ar ?_;show wpAny _ _ (Builtin.Dict.updateFrom "dict.__init__" s.heap.objs.size (.ref l) [] .none) _ _ _;unfold Builtin.Dict.updateFrom;refine ag (nj (T:="list") ⟨ol,Ar,hc⟩ ?_);rw[if_pos (by decide)]
 refine ag (qK Ar hc An Za (by simp[hh]) λh2 tk2 kp=>?_)
 rw[if_pos (show(none:Option Value).isNone=true from rfl)]
 have W7:h2.get? l=some ol:=kp l ol Ar;have M5:h2.DictOf knd s.heap.objs.size []:=by
  obtain⟨o,es,ep,h1,r⟩:=vM;exact⟨o,es,ep,kp _ _ h1,r⟩
 have ht2:h2.IsList l items:=⟨ol,W7,hc,m,An⟩;refine ag (k9 ?_);refine ag ?_;refine zl ht2 ?_;refine ar ⟨uZ F.cB _,?_⟩;have W8:s.heap.objs.size<h2.objs.size:=by
  obtain⟨o,_,_,h1,_⟩:=M5;exact aH h1
 have Zb:l≠h2.objs.size:=bF (kW hlS W8);have hSf:s.heap.objs.size∉[h2.objs.size,l]:=by
  simp only[aD,bu,bz,not_or];exact⟨bF W8,pU hlS⟩
 have P4:A.in1.in1.handled=none:=by simp[hh]
 have P1:∀(i:Nat) (v:Value),items[i]?=some v->∃b k key u,v=.ref b/\kvs[i]?=some (k,u)/\knd.is k key=true/\b∉[s.heap.objs.size,h2.objs.size]/\xQ s.heap b key u:=λi v hv=>by
  obtain⟨b,k,key,u,e1,e2,e3,e4⟩:=hi i v hv;refine⟨b,k,key,u,e1,e2,e3,?_,e4⟩;obtain⟨o,_,ho,_⟩:=e4;have:=aH ho;simp only[aD,bu,bz,not_or];exact⟨bF this,bF (kW this W8)⟩
 refine DR (knd:=knd) (s₀:=s) ((Walks.list P4 h2.objs.size l Zb items).toS) s.heap.objs.size hSf hlk hb P1 (items.size-0) 0 _ (by lia) (jt _) ⟨⟨_,bP _ rfl,rfl,rfl⟩,ht2.push _⟩ (λb o _ e=>aK _ (kp _ _ (aK _ e))) ?_ ?_
 ·obtain⟨o,es,ep,h1,r⟩:=M5;exact⟨o,es,ep,aK _ h1,r⟩
 ·intro s' hm M6;obtain⟨h',g',d',W6,TC⟩:=s';have eg:g'=s.gens:=hm.gens;have ed:d'=s.drawn:=hm.drawn;have eo:TC=s.os:=hm.os;subst eg;subst ed;subst eo;refine⟨rfl,h h' W6 M6 λb o hb e=>?_⟩
  refine hm.heap b o ?_ (aK _ (kp _ _ (aK _ e)));simp only[aD,bu,bz,not_or];exact⟨bF hb,bF (kW hb W8)⟩
end
end PySem
namespace L2.U
open PySem PySem.Spec PyProof.Rows
section
variable {X:Cx} {a b:Expr} {ta tb:TE} {p cp bp:Pos}
def n8(K:W.Frag)(H:Hp):List V->List (dZ×V)->Prop:=Paired λv kv=>∃c,v=.ref c/\gZ K H c [kV kv.1,kv.2]
def iS(kvs:List (dZ×V)):List (dZ×V):=kvs.foldl (λacc kv=>putK acc kv.1 kv.2) []
theorem xS:∀{kvs:List (dZ×V)} {vs:List (dZ×Value)} {acc:List (dZ×V)} {Vb:List (dZ×Value)},L2.KV kvs vs->L2.KV acc Vb->L2.KV (kvs.foldl (λacc kv=>putK acc kv.1 kv.2) acc) (vs.foldl (λacc kv=>stored acc kv.1 kv.2) Vb)
 | _,_,_,_,.nil,h=>h
 | _,_,_,_,.cons (a:=x) r t,h=>by
  have h2:=h.put x.1 r.2;rw[kR,kR];rw[r.1]at h2 ⊢;exact xS (t) h2
def G7(f:List (dZ×V)):∀acc:List (dZ×V),(f.foldl (λacc kv=>putK acc kv.1 kv.2) acc).length<=acc.length+f.length:=by
 induction f with
 | nil=>intro acc;simp
 | cons x f ih =>
  intro acc;have:=ih (putK acc x.1 x.2);have:=BU acc x.1 x.2;rw[kR,cz]
  lia
theorem Ci(I:Inv X af σ H s):∀{vs:List V} {kvs:List (dZ×V)},n8 X.K H vs kvs->∀{us:List Value},Vals vs us->∃Le:List (dZ×Value),L2.KV kvs Le/\Le.length=us.length/\∀(i:Nat) (u:Value),us[i]?=some u->∃b k key w,u=.ref b/\Le[i]?=some (k,w)/\(dI X.prog X.w).is k key=true/\xQ s.heap b key w
 | _,_,.nil,us,r=>by
  cases r;exact⟨[],.nil,rfl,λi u h=>by cases h⟩
 | _,_,.cons (b:=kv) q t,us,r=>by
  cases r with
  | cons r1 r2 =>
   obtain⟨Le,g1,g2,g3⟩:=Ci I t r2;obtain⟨c,rfl,hs⟩:=q;obtain⟨au,rr,⟨o,h1,h2,n,h3⟩,_⟩:=I.tuple hs;obtain⟨key,w,e,hk,hw⟩:=rr.two;subst e;cases r1;refine⟨(kv.1,w)::Le,.cons ⟨rfl,hw⟩ g1,by rw[cz,cz,g2],λi u hu=>?_⟩
   cases i with
   | zero =>
    cases hu;exact⟨c,kv.1,key,w,rfl,rfl,tf hk,o,n,h1,h2,h3⟩
   | succ i=>exact g3 i u hu
end
def rDL(K:W.Frag):List V->Hp->VK->Prop:=λxs H Q=>∃a vs kvs,xs=[.ref a]/\iZ K H a vs/\vs.length<=1000/\n8 K H vs kvs/\∀p,H p=none->Q (.ref p) (cY H p (.dK (iS kvs)))
theorem AB{X:Cx}(hh:X.A.handled=none):kz X (.type "dict") (rDL X.K):=by
 rintro af s σ H xs us Q I rs ⟨a,vs,kvs,ex,ha,hl,hp,q⟩;subst ex;obtain⟨u,rfl,ru⟩:=kA rs;cases ru;obtain⟨au,n,r,hx,_⟩:=I.qA ha;obtain⟨Le,g1,g2,g3⟩:=Ci I hp r;have abu:1000<=sizeLine:=by decide
 have hil:au.length<=1000:=by rw[<-r.length];exact hl
 refine xR (knd:=dI X.prog X.w) (items:=au.toArray) (kvs:=Le) hh hx rfl rfl rfl (λi v hv=>?_) (by rw[g2];simp) (by simp;lia) λh' tk dd kp=>?_
 ·rw[List.getElem?_toArray]at hv;exact g3 i v hv
 ·have Sf:L2.KV (iS kvs) (merged [] Le):=xS g1 .nil;refine⟨.ref _,_,I.laid (o:=.dK (iS kvs)) (λb u e=>kp b u (aH e) e) (aF _) ?_,rfl,q _ (I.hok.fresh (aF _))⟩
  refine⟨?_,bO.mpr (cx (bF (qr I))),_,Sf,dd⟩;have:=G7 kvs [];have e:kvs.length=Le.length:=nh g1;unfold iS;simp only[mX]at this
  lia
def Lf{X:Cx}{a:Expr}{ta:TE}{p cp:Pos}(hh:X.A.handled=none)(hg:Gl X "dict")(hm:X.mg "dict"=none)(ha:PE X a ta)(hs:starEach [a] X.env=[(false,eval a X.env)]):PE X (.Call (.Name "dict" p) [a] [] cp) (λσ H Q=>ta σ H λx H1=>rDL X.K [x] H1 Q):=by
 intro af s σ H Q I h;refine Call_ (ld_blt I hg hm (show bootBuiltins "dict"=some (.type "dict") by decide +kernel) (kG (M3 hs (thn (ha af s σ H _ I h) λv s1 ⟨x,H1,I1,r1,q1⟩=>?_)) hs rfl))
 exact AB hh af s1 σ H1 [x] [v] Q I1 (.cons r1 .nil) q1
def G8:PV->Option (dZ×PV)
 | .nd .ak [k,v]=>(Gn k).map λj=>(j,v)
 | _=>none
def xT:List (dZ×PV)->ah->ah
 | [],c=>c
 | (k,v)::r,c=>match c.k with
  | .gB t ks=>xT r (fj t [k] v ks c.ps)
  | _=>c
def AD(ps:List PV):Option ah:=if ps.length<=1000 then(dC G8 ps).map λkvs=>xT kvs ⟨.gB false [],[]⟩else none
section
variable {K:W.Frag} {F:Fz}
theorem xU:∀{ps:List PV} {kvs:List (dZ×PV)} {vs:List V},dC G8 ps=some kvs->aw K F ps vs->∃ks:List (dZ×V),n8 K F.F vs ks/\ks.map (·.1)=kvs.map (·.1)/\aw K F (kvs.map (·.2)) (ks.map (·.2))
 | [],_,_,h,b=>by
  cases h;rw[b.cH];exact⟨[],.nil,rfl,.nil⟩
 | p::ps,kvs,vs,h,b=>by
  obtain⟨kv,r,h1,h2,rfl⟩:=fF h;obtain⟨v,w,rfl,b1,b2⟩:=b.cm;obtain⟨ks,g1,g2,g3⟩:=xU h2 b2;unfold G8 at h1;split at h1
  ·rename_i k q;obtain⟨j,e1,rfl⟩:=aR h1;obtain⟨c,ws,rfl,hs,hb⟩:=bX.mp b1;obtain⟨x,y,rfl,bx,bq⟩:=KC hb;rw[qH e1 bx]at hs;exact⟨(j,y)::ks,.cons ⟨c,rfl,hs⟩ g1,by rw[aO,aO,g2],.cons bq g3⟩
  ·cases h1
theorem Cj:∀{kvs:List (dZ×PV)} {ks:List (dZ×V)} {acc:List (dZ×V)} {ps:List PV},ks.map (·.1)=kvs.map (·.1)->aw K F (kvs.map (·.2)) (ks.map (·.2))->aw K F ps (acc.map (·.2)) ->
  ∃lJ wQ,xT kvs ⟨.gB false (acc.map λy=>[y.1]),ps⟩=⟨.gB false lJ,wQ⟩/\(ks.foldl (λacc kv=>putK acc kv.1 kv.2) acc).map (λy=>[y.1])=lJ/\aw K F wQ ((ks.foldl (λacc kv=>putK acc kv.1 kv.2) acc).map (·.2))
 | [],ks,acc,ps,h1,h2,h3=>by
  have:=List.map_eq_nil_iff.mp h1;subst this;exact⟨_,_,rfl,rfl,h3⟩
 | (k,q)::kvs,[],acc,ps,h1,h2,h3=>by cases h1
 | (k,q)::kvs,(j,v)::ks,acc,ps,h1,h2,h3=>by
  simp only[aO,zE]at h1;obtain⟨rfl,h1⟩:=h1;obtain⟨v',w,e,b1,b2⟩:=h2.cm;cases e;obtain⟨lJ,wQ,e1,e2,e3⟩:=Gp b1 h3;obtain⟨ks2,ps2,e4,e5,e6⟩:=Cj h1 b2 e3;refine⟨ks2,ps2,?_,e5,e6⟩;show xT kvs (fj false [j] q (acc.map λy=>[y.1]) ps)=_
  rw[e1,<-e2];exact e4
end
def Lg{K:W.Frag}(h:AD ps=some c)(b:aw K F ps vs):∃ks:List (dZ×V),n8 K F.F vs ks/\ps.length<=1000/\∃lJ qs,c=⟨.gB false lJ,qs⟩/\(iS ks).map (λy=>[y.1])=lJ/\aw K F qs ((iS ks).map (·.2)):=by
 obtain⟨hl,h⟩:=bU h;obtain⟨kvs,h1,rfl⟩:=aR h;obtain⟨ks,g1,g2,g3⟩:=xU h1 b;obtain⟨lJ,wQ,e1,e2,e3⟩:=Cj (acc:=[]) g2 g3 .nil;exact⟨ks,g1,hl,lJ,wQ,e1,e2,e3⟩
theorem n8.mono{K:W.Frag}(h:cA F G):∀{vs:List V} {ks:List (dZ×V)},n8 K F vs ks->n8 K G vs ks
 | _,_,.nil=>.nil
 | _,_,.cons ⟨c,e,q⟩ t=>.cons ⟨c,e,bL h q⟩ (n8.mono h t)
section
variable {X:Cx} {aa:Hp} {ae:Fz} {a b e:Expr} {fa fb fe:Gx PV} {p cp bp:Pos}
def Lh(fa:Gx PV):Gx PV:=bnd fa λp st=>match p with
 | .nd .lst ps=>(AD ps).bind λc=>j8 c st
 | _=>none
def P5(hh:X.A.handled=none)(hg:Gl X "dict")(hm:X.mg "dict"=none)(ha:PE X a (tE X aa ae fa))(hs:starEach [a] X.env=[(false,eval a X.env)]):PE X (.Call (.Name "dict" p) [a] [] cp) (tE X aa ae (Lh fa)) :=
 (Lf hh hg hm ha hs).imp λσ H Q ⟨F,st,R,h⟩=>⟨F,st,R,h.bnd λq v F1 st1 H1 R1 g1 b1 h1=>by
  obtain⟨r,e1,e2⟩:=h1;split at e1
  ·rename_i ps;obtain⟨c,e5,e1⟩:=aQ e1;obtain⟨ad,vs,rfl,hs1,hb1⟩:=dr.mp b1;obtain⟨ks,k1,hl,lJ,wQ,rfl,e6,e7⟩:=Lg e5 hb1;refine⟨ad,vs,ks,rfl,jx R1.sub hs1,by rw[<-hb1.length];exact hl,k1.mono R1.sub,λp hp=>?_⟩
   exact Tx.j8 (show Tx X aa ae (bB X.K) F1 st1 (j8 ⟨.gB false lJ,wQ⟩) σ Q from⟨r,e1,e2⟩) R1 hp ⟨iS ks,ay,e6,rfl⟩ e7
  ·cases e1⟩
end
def G9(m:Nat)(ps:List PV):Gx PV:=λst=>match m with
 | 0=>some (.ok (.lst ps),st)
 | _=>j8 ⟨.lst,ps⟩ st
section
variable {X:Cx} {aa:Hp} {ae:Fz} {e:Expr} {es:List Expr} {ts:Gx (List PV)} {pos p G6 zp:Pos} {m:Nat}
def Tx.G9{st:cq}(h:Tx X aa ae (bB X.K) F st (G9 m ps) σ Q)(R:Rep X.K aa ae F st σ H)(hq:H q=none)(hb:aw X.K F ps vs):Q (.ref q) (cY H q (.lst vs)):=by
 cases m with
 | zero =>
  obtain⟨r,e1,e2⟩:=h;cases e1;obtain⟨R2,s2⟩:=R.laid (.lst vs) hq;exact e2 _ _ _ R2 s2 (dr.mpr ⟨q,vs,rfl,iZ.of ay,hb.mono s2⟩)
 | succ m=>exact Tx.j8 (h) R hq ay hb
end
theorem ng{a b:Nat}(h:b<a):@Ne Addr a b:=pU h
structure Zp (h:Heap) (z TI TO i1 i2 l1 l2:Nat) (f0:Value) (k:Nat) (xs ys:Array Value):Prop where
 hz:IsZip h z TI TO f0
 hTI:IsPair h TI (.ref i1) (.ref i2)
 hTO:∃a b,IsPair h TO a b
 s1:SI h i1 l1 k xs
 s2:SI h i2 l2 k ys
 ord:i1<i2/\i2<TI/\TI<TO/\TO<z
 o1:l1<i1
 o2:l2<i1
section
variable {prog:Program} {w:World} {A:Around} {E:Value->Shared->Prop} {s:Shared} {z TI TO i1 i2 l1 l2:Nat} {k:Nat} {xs ys:Array Value}
theorem Ck{x y:Value}{Q:Value->Shared->Prop}(Z:Zp s.heap z TI TO i1 i2 l1 l2 .none k xs ys)(hx:xs[k]?=some x)(hy:ys[k]?=some y)
  (hQ:∀h',Zp h' z TI TO i1 i2 l1 l2 (rawInt s.heap.objs.size) (k+1) xs ys->IsPair h' s.heap.objs.size x y->h'.objs.size=s.heap.objs.size+1->(∀c o,c≠z->c≠TO->c≠i1->c≠i2->s.heap.get? c=some o->h'.get? c=some o)->Q (.ref s.heap.objs.size) {s with heap:=h'}) :
  wpAny (model prog w) A (Builtin.«zip.__next__» ⟨[.ref z],[]⟩) (λgW s'=>∃v,gW=.done (.ret v)/\Q v s') E s:=by
 obtain⟨hz,hTI,⟨a,b,hTO⟩,s1,s2,⟨o1,o2,o3,o4⟩,q1,q2⟩:=Z;show wpAny _ _ (field (.ref z) 2 >>= _) _ _ _;refine ag (cJ hz rfl (x:=.bool false) rfl ?_);show wpAny _ _ (field (.ref z) 3 >>= _) _ _ _;refine ag (cJ hz rfl (x:=.ref TI) rfl (ag (gz hTI rfl ?_)));show wpAny _ _ (Builtin.SmallTypes.ownedTupleIsFree (.ref z) >>= _) _ _ _;refine ag ?_;unfold Builtin.SmallTypes.ownedTupleIsFree;refine ag (cJ hz rfl (x:=.none) rfl (ar ?_));simp only[eO];refine ag (k9 (ag (cJ hz rfl (x:=.ref TO) rfl (ag (kL hz (by simp) λgL hz₁ e₁=>?_)))))
 replace hz₁:IsZip gL z TI TO .ellipsis:=hz₁;refine ag ?_;simp only[List.zipIdx_cons,List.zipIdx_nil,pS,uS];refine ag (ag (uW ?_));show wpAny _ _ (Builtin.SmallTypes.nextOf (.ref i1) >>= _) _ _ _;have mm:SI gL i1 l1 k xs:=s1.at (λo e=>e₁.extBut _ _ (by first | exact nl (by lia) | exact ng (by lia)) e) (λo e=>e₁.extBut _ _ (by first | exact nl (by lia) | exact ng (by lia)) e)
 refine ag (SI.next mm hx λqL xV e₂=>ar ?_)
 have qM:IsPair qL TO a b:=e₂.extBut _ _ (by first | exact nl (by lia) | exact ng (by lia)) (e₁.extBut _ _ (by first | exact nl (by lia) | exact ng (by lia)) hTO)
 refine ag (gz qM rfl (ag (zg qM λly hTO₃ jf=>?_)))
 replace hTO₃:IsPair ly TO x b:=hTO₃;refine ag (pV (ar (ag (ag (uW ?_)))));show wpAny _ _ (Builtin.SmallTypes.nextOf (.ref i2) >>= _) _ _ _;have xW:SI ly i2 l2 k ys:=s2.at (λo e=>jf.extBut _ _ (by first | exact nl (by lia) | exact ng (by lia)) (e₂.extBut _ _ (by first | exact nl (by lia) | exact ng (by lia)) (e₁.extBut _ _ (by first | exact nl (by lia) | exact ng (by lia)) e))) (λo e=>jf.extBut _ _ (by first | exact nl (by lia) | exact ng (by lia)) (e₂.extBut _ _ (by first | exact nl (by lia) | exact ng (by lia)) (e₁.extBut _ _ (by first | exact nl (by lia) | exact ng (by lia)) e)))
 refine ag (SI.next xW hy λP6 Vc e₄=>ar ?_)
 have Ha:IsPair P6 TO x b:=e₄.extBut _ _ (by first | exact nl (by lia) | exact ng (by lia)) hTO₃
 refine ag (gz Ha rfl (ag (zg Ha λjF hTO₅ AE=>?_)))
 replace hTO₅:IsPair jF TO x y:=hTO₅;refine ag (pV (ar (ar ?_)));refine ag (gz hTO₅ rfl (ag (wpAny_newTuple ?_)));have hsz:jF.objs.size=s.heap.objs.size:=by rw[AE.1,e₄.1,jf.1,e₂.1,e₁.1]
 have M7:IsZip jF z TI TO .ellipsis:=AE.extBut _ _ (by first | exact nl (by lia) | exact ng (by lia)) (e₄.extBut _ _ (by first | exact nl (by lia) | exact ng (by lia)) (jf.extBut _ _ (by first | exact nl (by lia) | exact ng (by lia)) (e₂.extBut _ _ (by first | exact nl (by lia) | exact ng (by lia)) hz₁)))
 have kp:∀c o,c≠z->c≠TO->c≠i1->c≠i2->s.heap.get? c=some o->jF.get? c=some o:=λc o c1 c2 c3 c4 e=>AE.extBut _ _ c2 (e₄.extBut _ _ c4 (jf.extBut _ _ c2 (e₂.extBut _ _ c3 (e₁.extBut _ _ c1 e))))
 have Vd:SI jF i1 l1 (k+1) xs:=xV.at (λo e=>AE.extBut _ _ (by first | exact nl (by lia) | exact ng (by lia)) (e₄.extBut _ _ (by first | exact nl (by lia) | exact ng (by lia)) (jf.extBut _ _ (by first | exact nl (by lia) | exact ng (by lia)) e))) (λo e=>AE.extBut _ _ (by first | exact nl (by lia) | exact ng (by lia)) (e₄.extBut _ _ (by first | exact nl (by lia) | exact ng (by lia)) (jf.extBut _ _ (by first | exact nl (by lia) | exact ng (by lia)) e)))
 have Ve:SI jF i2 l2 (k+1) ys:=Vc.at (λo e=>AE.extBut _ _ (by first | exact nl (by lia) | exact ng (by lia)) e) (λo e=>AE.extBut _ _ (by first | exact nl (by lia) | exact ng (by lia)) e)
 have zlt:z<jF.objs.size:=aH M7;show wpAny _ _ (Builtin.SmallTypes.ownedTupleHandOut (.ref z) (.ref jF.objs.size) >>= _) _ _ _;refine ag ?_;unfold Builtin.SmallTypes.ownedTupleHandOut;have Vf:IsZip (jF.push {cls:=.type "tuple",data:=.seq #[x,y]}) z TI TO .ellipsis:=aK _ M7
 refine ag (kL Vf (by simp) λZc Hb e₇=>?_)
 replace Hb:IsZip Zc z TI TO (rawInt jF.objs.size):=Hb;refine kL Hb (by simp) λHc Cm P7=>?_
 replace Cm:IsZip Hc z TI TO (rawInt jF.objs.size):=Cm;have up:∀c o,c≠z->jF.get? c=some o->Hc.get? c=some o:=λc o c1 e=>P7.extBut _ _ c1 (e₇.extBut _ _ c1 (aK _ e))
 have hT₈:IsPair Hc jF.objs.size x y:=P7.extBut _ _ (by first | exact nl (by lia) | exact ng (by lia)) (e₇.extBut _ _ (by first | exact nl (by lia) | exact ng (by lia)) (bP _ rfl))
 have hs8:Hc.objs.size=jF.objs.size+1:=by rw[P7.1,e₇.1,eA]
 rw[hsz]at Cm hT₈ hs8;refine ar ⟨_,rfl,?_⟩;show Q (.ref jF.objs.size) _;rw[hsz];refine hQ Hc ⟨Cm,up _ _ (by first | exact nl (by lia) | exact ng (by lia)) (kp _ _ (by first | exact nl (by lia) | exact ng (by lia)) (by first | exact nl (by lia) | exact ng (by lia)) (by first | exact nl (by lia) | exact ng (by lia)) (by first | exact nl (by lia) | exact ng (by lia)) hTI),⟨x,y,up _ _ (by first | exact nl (by lia) | exact ng (by lia)) hTO₅⟩,Vd.at (λo e=>up _ o (by first | exact nl (by lia) | exact ng (by lia)) e) (λo e=>up _ o (by first | exact nl (by lia) | exact ng (by lia)) e),Ve.at (λo e=>up _ o (by first | exact nl (by lia) | exact ng (by lia)) e) (λo e=>up _ o (by first | exact nl (by lia) | exact ng (by lia)) e),⟨o1,o2,o3,o4⟩,q1,q2⟩ hT₈ hs8 λc o c1 c2 c3 c4 e=>up c o c1 (kp c o c1 c2 c3 c4 e)
theorem Hd{Q:Fin->Shared->Prop}(hh:A.handled=none)(Z:Zp s.heap z TI TO i1 i2 l1 l2 .none k xs ys)(xX:xs[k]?=none\/ys[k]?=none)
  (hE:∀h' e,(∀c o,c≠z->c≠TO->c≠i1->c≠i2->s.heap.get? c=some o->h'.get? c=some o)->(∃o,h'.get? e=some o/\o.cls=.type "StopIteration")->E (.ref e) {s with heap:=h'}):wpAny (model prog w) A (Builtin.«zip.__next__» ⟨[.ref z],[]⟩) Q E s:=by
 obtain⟨hz,hTI,⟨a,b,hTO⟩,s1,s2,⟨o1,o2,o3,o4⟩,q1,q2⟩:=Z;show wpAny _ _ (field (.ref z) 2 >>= _) _ _ _;refine ag (cJ hz rfl (x:=.bool false) rfl ?_);show wpAny _ _ (field (.ref z) 3 >>= _) _ _ _;refine ag (cJ hz rfl (x:=.ref TI) rfl (ag (gz hTI rfl ?_)));show wpAny _ _ (Builtin.SmallTypes.ownedTupleIsFree (.ref z) >>= _) _ _ _;refine ag ?_;unfold Builtin.SmallTypes.ownedTupleIsFree;refine ag (cJ hz rfl (x:=.none) rfl (ar ?_));simp only[eO];refine ag (k9 (ag (cJ hz rfl (x:=.ref TO) rfl (ag (kL hz (by simp) λgL hz₁ e₁=>?_)))))
 replace hz₁:IsZip gL z TI TO .ellipsis:=hz₁;refine ag ?_;simp only[List.zipIdx_cons,List.zipIdx_nil,pS,uS];refine ag (ag (uW ?_));show wpAny _ _ (Builtin.SmallTypes.nextOf (.ref i1) >>= _) _ _ _;have mm:SI gL i1 l1 k xs:=s1.at (λo e=>e₁.extBut _ _ (by first | exact nl (by lia) | exact ng (by lia)) e) (λo e=>e₁.extBut _ _ (by first | exact nl (by lia) | exact ng (by lia)) e)
 cases hx:xs[k]? with
 | none =>
  refine ag (SI.stop hh mm hx λqL e hs₂ he=>?_)
  obtain⟨oe,P8,Vg⟩:=he;have M8:IsZip qL z TI TO .ellipsis:=hs₂ _ _ (by first | exact nl (by lia) | exact ng (by lia)) hz₁
  have Zd:e≠z:=λx=>by subst x;rw[M8]at P8;cases P8;simp at Vg
  exact kL M8 (by simp) λly _ hs₃=>hE ly e (λc o c1 _ c3 _ x=>hs₃.extBut _ _ c1 (hs₂ _ _ c3 (e₁.extBut _ _ c1 x))) ⟨oe,hs₃.extBut _ _ Zd P8,Vg⟩
 | some x =>
  have hy:ys[k]?=none:=by
   rcases xX with h | h
   ·rw[hx]at h;cases h
   ·exact h
  refine ag (SI.next mm hx λqL xV e₂=>ar ?_)
  have qM:IsPair qL TO a b:=e₂.extBut _ _ (by first | exact nl (by lia) | exact ng (by lia)) (e₁.extBut _ _ (by first | exact nl (by lia) | exact ng (by lia)) hTO)
  refine ag (gz qM rfl (ag (zg qM λly hTO₃ jf=>?_)))
  refine ag (pV (ar (ag (ag (uW ?_)))));show wpAny _ _ (Builtin.SmallTypes.nextOf (.ref i2) >>= _) _ _ _;have xW:SI ly i2 l2 k ys:=s2.at (λo e=>jf.extBut _ _ (by first | exact nl (by lia) | exact ng (by lia)) (e₂.extBut _ _ (by first | exact nl (by lia) | exact ng (by lia)) (e₁.extBut _ _ (by first | exact nl (by lia) | exact ng (by lia)) e))) (λo e=>jf.extBut _ _ (by first | exact nl (by lia) | exact ng (by lia)) (e₂.extBut _ _ (by first | exact nl (by lia) | exact ng (by lia)) (e₁.extBut _ _ (by first | exact nl (by lia) | exact ng (by lia)) e)))
  refine ag (SI.stop hh xW hy λP6 e M9 he=>?_)
  obtain⟨oe,P8,Vg⟩:=he;have Na:IsZip P6 z TI TO .ellipsis:=M9 _ _ (by first | exact nl (by lia) | exact ng (by lia)) (jf.extBut _ _ (by first | exact nl (by lia) | exact ng (by lia)) (e₂.extBut _ _ (by first | exact nl (by lia) | exact ng (by lia)) hz₁))
  have Zd:e≠z:=λx=>by subst x;rw[Na]at P8;cases P8;simp at Vg
  exact kL Na (by simp) λjF _ hs₅=>hE jF e (λc o c1 c2 c3 c4 x=>hs₅.extBut _ _ c1 (M9 _ _ c4 (jf.extBut _ _ c2 (e₂.extBut _ _ c3 (e₁.extBut _ _ c1 x))))) ⟨oe,hs₅.extBut _ _ Zd P8,Vg⟩
theorem xY(l1 l2:Addr)(xs ys:Array Value)(c1 c2:String) :
  Meets (Builtin.«zip.__new__» ⟨[.type "zip",.ref l1,.ref l2],[]⟩) (λ_ R s=>iH s.heap l1 xs c1/\iH s.heap l2 ys c2 /\
   ∀h1 h2 h3 h4:Heap,h1=s.heap.push {cls:=.type c1,data:=.fields #[.ref l1,.int 0 0]}->h2=h1.push {cls:=.type c2,data:=.fields #[.ref l2,.int 0 0]}->h3=h2.push {cls:=.type "tuple",data:=.seq #[.ref s.heap.objs.size,.ref h1.objs.size]}->h4=h3.push {cls:=.type "tuple",data:=.seq #[.none,.none]} ->
    R (.ok (.ret (.ref h4.objs.size))) {s with heap:=h4.push {cls:=.type "zip",data:=.fields #[.none,.bool false,.bool false,.ref h2.objs.size,.ref h3.objs.size]}}) :=
 .of_wp λprog w A R s h=>by
  obtain⟨hp,g,d,tk,os⟩:=s;obtain⟨Sm,Yy,h⟩:=h;have KZ:=sub_zip;have hL1:iH (Shared.heap ⟨hp,g,d,tk,os⟩) l1 xs c1:=Sm;have hL2:iH (Shared.heap ⟨hp.push {cls:=.type c1,data:=.fields #[.ref l1,.int 0 0]},g,d,tk,os⟩) l2 ys c2:=by
   rcases Yy with⟨e,q⟩ | ⟨e,q⟩
   ·exact .inl ⟨e,Heap.IsList.push q _⟩
   ·exact .inr ⟨e,Heap.IsTuple.push q _⟩
  wp_walk using j3 hL1,j3 hL2
  exact⟨_,rfl,h _ _ _ _ rfl rfl rfl rfl⟩
end
def Ze(h:Heap)(z TI TO t:Nat)(f:Bool):Prop:=h.get? z=some {cls:=.type "zip",data:=.fields #[rawInt t,.bool f,.bool false,.ref TI,.ref TO]}
structure Zq (h:Heap) (z TI TO i1 i2 l1 l2 t:Nat) (f:Bool) (k:Nat) (xs ys:Array Value):Prop where
 hz:Ze h z TI TO t f
 hTI:IsPair h TI (.ref i1) (.ref i2)
 s1:SI h i1 l1 k xs
 s2:SI h i2 l2 k ys
 al:∃o,h.get? t=some o
 ord:i1<i2/\i2<TI/\TI<TO/\TO<z/\z<t
 o1:l1<i1
 o2:l2<i1
section
variable {prog:Program} {w:World} {A:Around} {E:Value->Shared->Prop} {s:Shared} {z TI TO i1 i2 l1 l2 t:Nat} {f:Bool} {k:Nat} {xs ys:Array Value}
theorem Zq.at{h h':Heap}(Z:Zq h z TI TO i1 i2 l1 l2 t f k xs ys)(kp:∀b o,b<=z->h.get? b=some o->h'.get? b=some o)(ka:∀o,h.get? t=some o->∃o',h'.get? t=some o'):Zq h' z TI TO i1 i2 l1 l2 t f k xs ys:=by
 obtain⟨hz,hTI,s1,s2,⟨oa,ha⟩,⟨o1,o2,o3,o4,o5⟩,q1,q2⟩:=Z;exact⟨kp _ _ (aF _) hz,kp _ _ (by lia) hTI,s1.at (λo e=>kp _ o (by lia) e) (λo e=>kp _ o (by lia) e),s2.at (λo e=>kp _ o (by lia) e) (λo e=>kp _ o (by lia) e),ka _ ha,⟨o1,o2,o3,o4,o5⟩,q1,q2⟩
theorem Cn{oa:Obj}{Q:Bool->Shared->Prop}(hz:Ze s.heap z TI TO t f)(ha:s.heap.get? t=some oa)(hQ:∀gL,Ze gL z TI TO t true->Heap.SameBut z s.heap gL->Q false {s with heap:=gL}):wpAny (model prog w) A (Builtin.SmallTypes.ownedTupleIsFree (.ref z)) Q E s:=by
 unfold Builtin.SmallTypes.ownedTupleIsFree;refine ag (cJ hz rfl (x:=rawInt t) rfl ?_);show wpAny _ _ (loadIfAlive ((t:Int).toNat) >>= _) _ _ _;rw[kO];refine ag (W.kdx_alive ha ?_);simp only[Option.isNone_some,fT,dS];refine ag (cJ hz rfl (x:=.bool f) rfl ?_);cases f with
 | true =>
  rw[if_neg (show ¬((Value.bool true != Value.bool true)=true)from cR)]
  exact ar (hQ _ hz (Heap.SameBut.refl _ _))
 | false =>
  rw[if_pos (show(Value.bool false != Value.bool true)=true from rfl)]
  exact ag (kL hz (by simp) λgL hz₁ e₁=>ar (hQ gL hz₁ e₁))
theorem Li{x y:Value}{Q:Value->Shared->Prop}(Z:Zq s.heap z TI TO i1 i2 l1 l2 t f k xs ys)(hx:xs[k]?=some x)(hy:ys[k]?=some y)
  (hQ:∀h',Zq h' z TI TO i1 i2 l1 l2 t true (k+1) xs ys->IsPair h' s.heap.objs.size x y->h'.objs.size=s.heap.objs.size+1->(∀c o,c≠z->c≠i1->c≠i2->s.heap.get? c=some o->h'.get? c=some o)->Q (.ref s.heap.objs.size) {s with heap:=h'}) :
  wpAny (model prog w) A (Builtin.«zip.__next__» ⟨[.ref z],[]⟩) (λgW s'=>∃v,gW=.done (.ret v)/\Q v s') E s:=by
 obtain⟨hz,hTI,s1,s2,⟨oa,ha⟩,⟨o1,o2,o3,o4,o5⟩,q1,q2⟩:=Z;show wpAny _ _ (field (.ref z) 2 >>= _) _ _ _;refine ag (cJ hz rfl (x:=.bool false) rfl ?_);show wpAny _ _ (field (.ref z) 3 >>= _) _ _ _;refine ag (cJ hz rfl (x:=.ref TI) rfl (ag (gz hTI rfl ?_)));show wpAny _ _ (Builtin.SmallTypes.ownedTupleIsFree (.ref z) >>= _) _ _ _;refine ag (Cn hz ha λgL hz₁ e₁=>?_)
 simp only[fT,dS];refine ag ?_;simp only[List.forIn_toArray,pS,uS];refine ag (ag (eE ?_));show wpAny _ _ (Builtin.SmallTypes.nextOf (.ref i1) >>= _) _ _ _;have mm:SI gL i1 l1 k xs:=s1.at (λo e=>e₁.extBut _ _ (by first | exact nl (by lia) | exact ng (by lia)) e) (λo e=>e₁.extBut _ _ (by first | exact nl (by lia) | exact ng (by lia)) e)
 refine ag (SI.next mm hx λqL xV e₂=>ar ?_)
 refine ar (ag (ag (eE ?_)));show wpAny _ _ (Builtin.SmallTypes.nextOf (.ref i2) >>= _) _ _ _;have He:SI qL i2 l2 k ys:=s2.at (λo e=>e₂.extBut _ _ (by first | exact nl (by lia) | exact ng (by lia)) (e₁.extBut _ _ (by first | exact nl (by lia) | exact ng (by lia)) e)) (λo e=>e₂.extBut _ _ (by first | exact nl (by lia) | exact ng (by lia)) (e₁.extBut _ _ (by first | exact nl (by lia) | exact ng (by lia)) e))
 refine ag (SI.next He hy λly xW jf=>ar ?_)
 refine ar (ar ?_);have hsz:ly.objs.size=s.heap.objs.size:=by rw[jf.1,e₂.1,e₁.1]
 have kp:∀c o,c≠z->c≠i1->c≠i2->s.heap.get? c=some o->ly.get? c=some o:=λc o c1 c2 c3 e=>jf.extBut _ _ c3 (e₂.extBut _ _ c2 (e₁.extBut _ _ c1 e))
 have up:∀c o,c≠i1->c≠i2->gL.get? c=some o->ly.get? c=some o:=λc o c2 c3 e=>jf.extBut _ _ c3 (e₂.extBut _ _ c2 e)
 refine ag (wpAny_newTuple (hsz:=by show 2<=sizeLine;decide) ?_)
 show wpAny _ _ (ret (Value.ref ly.objs.size)) _ _ {s with heap:=ly.push {cls:=.type "tuple",data:=.seq #[x,y]}}
 rw[hsz];refine ar ⟨_,rfl,?_⟩;have Z3:Zq ly z TI TO i1 i2 l1 l2 t true (k+1) xs ys:=⟨up _ _ (by first | exact nl (by lia) | exact ng (by lia)) (by first | exact nl (by lia) | exact ng (by lia)) hz₁,kp _ _ (by first | exact nl (by lia) | exact ng (by lia)) (by first | exact nl (by lia) | exact ng (by lia)) (by first | exact nl (by lia) | exact ng (by lia)) hTI,xV.at (λo e=>jf.extBut _ _ (by first | exact nl (by lia) | exact ng (by lia)) e) (λo e=>jf.extBut _ _ (by first | exact nl (by lia) | exact ng (by lia)) e),xW,⟨oa,kp _ _ (by first | exact nl (by lia) | exact ng (by lia)) (by first | exact nl (by lia) | exact ng (by lia)) (by first | exact nl (by lia) | exact ng (by lia)) ha⟩,⟨o1,o2,o3,o4,o5⟩,q1,q2⟩
 refine hQ _ (Z3.at (λb o _ e=>aK _ e) λo e=>⟨o,aK _ e⟩) ?_ (by rw[eA,hsz]) λc o c1 c2 c3 e=>aK _ (kp c o c1 c2 c3 e)
 rw[<-hsz];exact bP _ rfl
theorem P9{Q:Fin->Shared->Prop}(hh:A.handled=none)(Z:Zq s.heap z TI TO i1 i2 l1 l2 t f k xs ys)(xX:xs[k]?=none\/ys[k]?=none)
  (hE:∀h' e,(∀c o,c≠z->c≠i1->c≠i2->s.heap.get? c=some o->h'.get? c=some o)->(∃o,h'.get? e=some o/\o.cls=.type "StopIteration")->E (.ref e) {s with heap:=h'}):wpAny (model prog w) A (Builtin.«zip.__next__» ⟨[.ref z],[]⟩) Q E s:=by
 obtain⟨hz,hTI,s1,s2,⟨oa,ha⟩,⟨o1,o2,o3,o4,o5⟩,q1,q2⟩:=Z;show wpAny _ _ (field (.ref z) 2 >>= _) _ _ _;refine ag (cJ hz rfl (x:=.bool false) rfl ?_);show wpAny _ _ (field (.ref z) 3 >>= _) _ _ _;refine ag (cJ hz rfl (x:=.ref TI) rfl (ag (gz hTI rfl ?_)));show wpAny _ _ (Builtin.SmallTypes.ownedTupleIsFree (.ref z) >>= _) _ _ _;refine ag (Cn hz ha λgL hz₁ e₁=>?_)
 simp only[fT,dS];refine ag ?_;simp only[List.forIn_toArray,pS,uS];refine ag (ag (eE ?_));show wpAny _ _ (Builtin.SmallTypes.nextOf (.ref i1) >>= _) _ _ _;have mm:SI gL i1 l1 k xs:=s1.at (λo e=>e₁.extBut _ _ (by first | exact nl (by lia) | exact ng (by lia)) e) (λo e=>e₁.extBut _ _ (by first | exact nl (by lia) | exact ng (by lia)) e)
 cases hx:xs[k]? with
 | none =>
  refine ag (SI.stop hh mm hx λqL e hs₂ he=>?_)
  exact hE qL e (λc o c1 c3 _ x=>hs₂ _ _ c3 (e₁.extBut _ _ c1 x)) he
 | some x =>
  have hy:ys[k]?=none:=by
   rcases xX with h | h
   ·rw[hx]at h;cases h
   ·exact h
  refine ag (SI.next mm hx λqL xV e₂=>ar ?_)
  refine ar (ag (ag (eE ?_)));show wpAny _ _ (Builtin.SmallTypes.nextOf (.ref i2) >>= _) _ _ _;have He:SI qL i2 l2 k ys:=s2.at (λo e=>e₂.extBut _ _ (by first | exact nl (by lia) | exact ng (by lia)) (e₁.extBut _ _ (by first | exact nl (by lia) | exact ng (by lia)) e)) (λo e=>e₂.extBut _ _ (by first | exact nl (by lia) | exact ng (by lia)) (e₁.extBut _ _ (by first | exact nl (by lia) | exact ng (by lia)) e))
  refine ag (SI.stop hh He hy λly e hs₃ he=>?_)
  exact hE ly e (λc o c1 c2 c3 x=>hs₃ _ _ c3 (e₂.extBut _ _ c2 (e₁.extBut _ _ c1 x))) he
end
def ZS(h:Heap)(z TI TO i1 i2 l1 l2 B i:Nat)(xs ys:Array Value):Prop:=(i=0/\Zp h z TI TO i1 i2 l1 l2 .none 0 xs ys)\/(0<i/\∃f,Zq h z TI TO i1 i2 l1 l2 B f i xs ys)
noncomputable def lz(B i:Nat):Array Value:=((List.range i).map λj=>Value.ref (B+j)).toArray
theorem DS(B i:Nat):(lz B i).push (.ref (B+i))=lz B (i+1):=by
 unfold lz;rw[zF,fW];simp
theorem tP(B i:Nat):(lz B i).size=i:=by unfold lz;simp
section
variable {prog:Program} {w:World} {A:Around} {E:Value->Shared->Prop} {s:Shared} {z TI TO i1 i2 l1 l2 B:Nat} {i:Nat} {xs ys:Array Value}
theorem ZS.zip{h:Heap}(Z:ZS h z TI TO i1 i2 l1 l2 B i xs ys):∃o,h.get? z=some o/\o.cls=.type "zip":=by
 rcases Z with⟨_,Z⟩ | ⟨_,f,Z⟩
 ·exact⟨_,Z.hz,rfl⟩
 ·exact⟨_,Z.hz,rfl⟩
theorem ZS.at{h h':Heap}(Z:ZS h z TI TO i1 i2 l1 l2 B i xs ys)(kp:∀b o,b<=z->h.get? b=some o->h'.get? b=some o)(ka:∀o,h.get? B=some o->∃o',h'.get? B=some o'):ZS h' z TI TO i1 i2 l1 l2 B i xs ys:=by
 rcases Z with⟨e,⟨hz,hTI,⟨a,b,hTO⟩,s1,s2,⟨o1,o2,o3,o4⟩,q1,q2⟩⟩ | ⟨e,f,Z⟩
 ·exact .inl ⟨e,⟨kp _ _ (aF _) hz,kp _ _ (by lia) hTI,⟨a,b,kp _ _ (by lia) hTO⟩,s1.at (λo e=>kp _ o (by lia) e) (λo e=>kp _ o (by lia) e),s2.at (λo e=>kp _ o (by lia) e) (λo e=>kp _ o (by lia) e),⟨o1,o2,o3,o4⟩,q1,q2⟩⟩
 ·exact .inr ⟨e,f,Z.at kp ka⟩
theorem Lj{x y:Value}{Q:Option Value->Shared->Prop}(Z:ZS s.heap z TI TO i1 i2 l1 l2 B i xs ys)(hsz:s.heap.objs.size=B+i)(hx:xs[i]?=some x)(hy:ys[i]?=some y)
  (hQ:∀h',ZS h' z TI TO i1 i2 l1 l2 B (i+1) xs ys->IsPair h' (B+i) x y->h'.objs.size=B+(i+1)->(∀c o,c≠z->c≠TO->c≠i1->c≠i2->s.heap.get? c=some o->h'.get? c=some o)->Q (some (.ref (B+i))) {s with heap:=h'}) :
  wpAny (model prog w) A (pyNext (.ref z)) Q E s:=by
 obtain⟨oz,Xa,Zf⟩:=Z.zip;have hT:s.TypeIs (.ref z) "zip":=⟨_,Xa,Zf⟩;have Zg:z<s.heap.objs.size:=aH Xa;unfold pyNext;rcases Z with⟨rfl,Z⟩ | ⟨hi,f,Z⟩
 ·refine ag (kU (fS (name:=Str.ofString "__next__") hT fU (gw fU hT mV
   (Ck Z hx hy λh' Z' Nb UD kp=>ar ?_) (mU _))))
  obtain⟨hz,hTI,_,s1,s2,⟨o1,o2,o3,o4⟩,q1,q2⟩:=Z';rw[hsz]at Nb hz Zg ⊢;refine(hQ h' (.inr ⟨Nat.succ_pos _,false,⟨hz,hTI,s1,s2,⟨_,Nb⟩,⟨o1,o2,o3,o4,by lia⟩,q1,q2⟩⟩) Nb (by lia) kp)
 ·refine ag (kU (fS (name:=Str.ofString "__next__") hT fU (gw fU hT mV
   (Li Z hx hy λh' Z' Nb UD kp=>ar ?_) (mU _))))
  rw[hsz]at Nb ⊢;exact(hQ h' (.inr ⟨Nat.succ_pos _,true,Z'⟩) Nb (by lia) λc o c1 _ c3 c4 e=>kp c o c1 c3 c4 e)
theorem Lk{Q:Option Value->Shared->Prop}(hh:A.handled=none)(Z:ZS s.heap z TI TO i1 i2 l1 l2 B i xs ys)(xX:xs[i]?=none\/ys[i]?=none)
  (hQ:∀h',(∀c o,c≠z->c≠TO->c≠i1->c≠i2->s.heap.get? c=some o->h'.get? c=some o)->Q none {s with heap:=h'}) :
  wpAny (model prog w) A (pyNext (.ref z)) Q E s:=by
 obtain⟨oz,Xa,Zf⟩:=Z.zip;have hT:s.TypeIs (.ref z) "zip":=⟨_,Xa,Zf⟩;unfold pyNext;rcases Z with⟨rfl,Z⟩ | ⟨hi,f,Z⟩
 ·refine ag (kU (fS (name:=Str.ofString "__next__") hT fU (gw fU hT mV (Hd hh Z xX λh' e kp ⟨o,ho,hcl⟩=>?_) (mU _))))
  exact ag (uN (T:="StopIteration") (b:=true) ⟨o,ho,hcl⟩ uU (ar (hQ h' kp)))
 ·refine ag (kU (fS (name:=Str.ofString "__next__") hT fU (gw fU hT mV (P9 hh Z xX λh' e kp ⟨o,ho,hcl⟩=>?_) (mU _))))
  exact ag (uN (T:="StopIteration") (b:=true) ⟨o,ho,hcl⟩ uU (ar (hQ h' λc o c1 _ c3 c4 e=>kp c o c1 c3 c4 e)))
end
section
variable {prog:Program} {w:World} {A:Around} {R:Result->Shared->Prop} {z TI TO i1 i2 l1 l2 S B n:Nat} {xs ys:Array Value}
def mn(h:Heap)(B i:Nat)(xs ys:Array Value):Prop:=∀j,j<i->∃x y,xs[j]?=some x/\ys[j]?=some y/\IsPair h (B+j) x y
theorem Ll(hh:A.handled=none)(hn:n=min xs.size ys.size)(hzS:z<S)(hSB:S<B)(ord:i1<z/\i2<z/\TO<z)(res:Value)(Js:n<=sizeLine) :
  ∀(k i:Nat) (s:Shared) (c:Nat),n-i=k->i<=n->ZS s.heap z TI TO i1 i2 l1 l2 B i xs ys->s.heap.objs.size=B+i->mn s.heap B i xs ys->s.heap.get? S=some {cls:=.type "list",dict:=none,data:=.seq (lz B i) c,slots:=#[]} ->
  (∀h' c',(∀b o,b≠z->b≠TO->b≠i1->b≠i2->b≠S->s.heap.get? b=some o->h'.get? b=some o)->h'.get? S=some {cls:=.type "list",dict:=none,data:=.seq (lz B n) c',slots:=#[]}->mn h' B n xs ys->R (.ok (.ret res)) {s with heap:=h'}) ->
  codeAny (model prog w) A (.builtin "list.extend.loop" ⟨[.ref S,.ref z,res],[]⟩) R s:=by
 intro k;induction k with
 | zero =>
  intro i s c hk hi rW hsz hp hS hR;have Y5:i=n:=by lia
  subst Y5;refine uQ F.entry_extend_loop ?_;rw[uI uK _];show wpAny _ A.in1 (pyNext (.ref z) >>= _) _ _ s;refine ag (Lk (by simp[hh]) rW ?_ λh' kp=>?_)
  ·rcases Nat.le_total xs.size ys.size with q | q
   ·exact .inl (kK (by lia))
   ·exact .inr (kK (by lia))
  ·refine ar (hR h' c (λb o c1 c2 c3 c4 _ e=>kp b o c1 c2 c3 c4 e) (kp S _ (by lia) (by lia) (by lia) (by lia) hS) λj hj=>?_)
   obtain⟨x,y,e1,e2,e3⟩:=hp j hj;exact⟨x,y,e1,e2,kp _ _ (by lia) (by lia) (by lia) (by lia) e3⟩
 | succ k ih =>
  intro i s c hk hi rW hsz hp hS hR;have vF:i<n:=by lia
  have hx:xs[i]?=some (xs[i]'(by lia)):=pC _
  have hy:ys[i]?=some (ys[i]'(by lia)):=pC _
  refine uQ F.entry_extend_loop ?_;rw[uI uK _];show wpAny _ A.in1 (pyNext (.ref z) >>= _) _ _ s;refine ag (Lj rW hsz hx hy λh' P2 hpr Zh kp=>?_)
  have M6:=kp S _ (by lia) (by lia) (by lia) (by lia) hS
  show wpAny _ A.in1 (updateSeq S (·.push (.ref (B+i))) >>= _) _ _ _;refine ag ?_;have Zi:=mP (Obj.mapSeq (·.push (Value.ref (B+i)))) M6 rfl;obtain⟨c1,Zi⟩:∃c1,(h'.update S (Obj.mapSeq (·.push (Value.ref (B+i))))).get? S=some {cls:=.type "list",dict:=none,data:=.seq (lz B (i+1)) c1,slots:=#[]}:=⟨_,by rw[<-DS];exact Zi⟩
  have oth:∀b o,b≠S->h'.get? b=some o->(h'.update S (Obj.mapSeq (·.push (Value.ref (B+i))))).get? b=some o:=λb o hb e=>(jl _ _ (cx hb)).trans e
  refine pM (s:={s with heap:=h'}) M6 rfl (ar ⟨uZ uK _,ih (i+1) _ c1 (by lia) vF (P2.at (λb o hb e=>oth b o (by lia) e) λo e=>⟨o,oth _ o (by lia) e⟩) ?_ (λj hj=>?_) ?_ λh2 c2 UK hS2 Zj=>?_⟩)
   (by rw[tP];lia) (by show((lz B i).push _).size<=sizeLine+1;rw[Array.size_push,tP];lia)
  ·show(h'.update S _).objs.size=_;rw[uO];exact Zh
  ·by_cases hji:j=i
   ·subst hji;exact⟨_,_,hx,hy,oth _ _ (by lia) hpr⟩
   ·obtain⟨x,y,e1,e2,e3⟩:=hp j (by lia)
    exact⟨x,y,e1,e2,oth _ _ (by lia) (kp _ _ (by lia) (by lia) (by lia) (by lia) e3)⟩
  ·exact Zi
  ·exact hR h2 c2 (λb o c1 c2 c3 c4 c5 e=>UK b o c1 c2 c3 c4 c5 (oth b o c5 (kp b o c1 c2 c3 c4 e))) hS2 Zj
end
theorem AF:typeLookup (.type "zip") "__len__"=pure none:=by rw[zH,ze];kernel_rfl
theorem xZ:typeLookup (.type "zip") "__length_hint__"=pure none:=by rw[zH,ze];kernel_rfl
section
variable {prog:Program} {w:World} {A:Around} {E:Value->Shared->Prop} {s:Shared} {R:Result->Shared->Prop} {z TI TO i1 i2 l1 l2 S B n:Nat} {xs ys:Array Value}
theorem DT{c:Nat}(hh:A.handled=none)(hn:n=min xs.size ys.size)(hzS:z<S)(hB:s.heap.objs.size=B)(hSB:S<B)(ord:i1<z/\i2<z/\TO<z)(res:Value)(Js:n<=sizeLine)
  (Z:Zp s.heap z TI TO i1 i2 l1 l2 .none 0 xs ys) (hS:s.heap.get? S=some {cls:=.type "list",data:=.seq #[] c})
  (hR:∀h' c',(∀b o,b≠z->b≠TO->b≠i1->b≠i2->b≠S->s.heap.get? b=some o->h'.get? b=some o)->h'.get? S=some {cls:=.type "list",dict:=none,data:=.seq (lz B n) c',slots:=#[]}->mn h' B n xs ys->R (.ok (.ret res)) {s with heap:=h'}) :
  wpAny (model prog w) A.in1 (Builtin.List.listExtendWith (.ref S) (.ref z) res)
   (λgW s'=>match gW with | .done f=>R (.ok f) s' | .again c'=>c'.quiet=true/\codeAny (model prog w) A c' R s') (λe s'=>R (.error e) s') s:=by
 have hT:s.TypeIs (.ref z) "zip":=⟨_,Z.hz,rfl⟩;unfold Builtin.List.listExtendWith;refine ag (nj hT ?_);have h1:Builtin.List.listSameRef (.ref S) (.ref z)=false:=by
  have:(S==z)=false:=by simp;lia
  exact this
 have h2:(Value.type "zip"==Value.type "list")=false:=by decide
 have h3:(Value.type "zip"==Value.type "tuple")=false:=by decide
 simp only[h1,h2,h3,Bool.or_false,fT,dS];refine ag (zz Z.hz ?_);refine ag (eE ?_);unfold Builtin.List.listLengthHint;refine ag (wpAny_specialOf hT AF ?_);show wpAny _ A.in1 (specialOf (Value.ref z) (Str.ofString "__length_hint__") >>= _) _ _ _;refine ag (wpAny_specialOf hT xZ ?_);refine ar ?_;show wpAny _ A.in1 (rule "list.extend.makes-room" >>= λ_=>Builtin.List.listTouch (.ref S) >>= λ_ =>
  again (.builtin "list.extend.loop" ⟨[.ref S,.ref z,res],[]⟩)) _ _ _
 refine ag (k9 ?_);refine ag ?_;show wpAny _ A.in1 (updateSeq S (·.push .none) >>= λ_=>updateSeq S (·.pop)) _ _ _
 refine ag (pM hS rfl ?_);have Co:=mP (Obj.mapSeq (·.push Value.none)) hS rfl;refine pM (hz:=by seq_fits) Co rfl ?_
 have Vh:=mP (Obj.mapSeq (·.pop)) Co rfl;have oth:∀b o,b≠S->s.heap.get? b=some o->((s.heap.update S (Obj.mapSeq (·.push Value.none))).update S (Obj.mapSeq (·.pop))).get? b=some o :=
  λb o hb e=>(jl _ _ (cx hb)).trans ((jl _ _ (cx hb)).trans e)
 have Z0:ZS s.heap z TI TO i1 i2 l1 l2 B 0 xs ys:=.inl ⟨rfl,Z⟩;refine ar ⟨uZ uK _,Ll hh hn hzS hSB ord res Js n 0 _ _ rfl (jt _) (Z0.at (λb o hb e=>oth b o (by lia) e) λo e=>?_) ?_ (λj hj=>absurd hj (Nat.not_lt_zero _)) Vh λh' c' kp M6 hp=>?_⟩
 ·have q:=aH e;rw[hB]at q;exact absurd q (fB _)
 ·show((s.heap.update S _).update S _).objs.size=_;rw[uO,uO];exact hB
 ·exact hR h' c' (λb o c1 c2 c3 c4 c5 e=>kp b o c1 c2 c3 c4 c5 (oth b o c5 e)) M6 hp
theorem sx{Q:Value->Shared->Prop}(hh:A.handled=none)(hn:n=min xs.size ys.size)(Js:n<=sizeLine)(ord:i1<z/\i2<z/\TO<z)(Z:Zp s.heap z TI TO i1 i2 l1 l2 .none 0 xs ys)
  (hQ:∀h' c',(∀b o,b≠z->b≠TO->b≠i1->b≠i2->s.heap.get? b=some o->h'.get? b=some o)->h'.get? s.heap.objs.size=some {cls:=.type "list",dict:=none,data:=.seq (lz (s.heap.objs.size+1) n) c',slots:=#[]}->mn h' (s.heap.objs.size+1) n xs ys->Q (.ref s.heap.objs.size) {s with heap:=h'}) :
  wpAny (model prog w) A (call (.type "list") [.ref z]) Q E s:=by
 refine callType_codes (Q₁:=λobj s₁=>obj=.ref s.heap.objs.size/\s₁={s with heap:=s.heap.push {cls:=.type "list",data:=.seq #[]}}) F.called_list (F.typeCall_list_1 _) F.entry_list_init
  (code_list_new _ ⟨rfl,rfl⟩) λobj s₁ gL=>?_
 obtain⟨rfl,rfl⟩:=gL;have Zg:z<s.heap.objs.size:=aH Z.hz;have hS:(s.heap.push {cls:=.type "list",data:=.seq #[]}).get? s.heap.objs.size=some {cls:=.type "list",data:=.seq #[]}:=bP _ rfl
 refine⟨⟨_,hS,rfl⟩,F.args_list_init_2 _ _,?_⟩;show wpAny _ _ (do let old <-Builtin.List.listItems (.ref s.heap.objs.size);Builtin.List.listUpdate (.ref s.heap.objs.size) (λ_=>#[]);letGo old.toList.reverse;Builtin.List.listExtendWith (.ref s.heap.objs.size) (.ref z) .none) _ _ _
 refine ag ?_;unfold Builtin.List.listItems;refine ag (gz hS rfl (ar ?_));show wpAny _ _ (updateSeq s.heap.objs.size (λ_=>#[]) >>= λ_=>letGo (#[]:Array Value).toList.reverse >>= λ_=>Builtin.List.listExtendWith (.ref s.heap.objs.size) (.ref z) .none) _ _ _
 refine ag (pM hS rfl ?_);have Co:=mP (Obj.mapSeq (λ_=>(#[]:Array Value))) hS rfl
 have oth:∀b o,b≠s.heap.objs.size->s.heap.get? b=some o->((s.heap.push {cls:=.type "list",data:=.seq #[]}).update s.heap.objs.size (Obj.mapSeq (λ_=>(#[]:Array Value)))).get? b=some o :=
  λb o hb e=>(jl _ _ (cx hb)).trans (aK _ e)
 refine ag (pV ?_);have Z1:ZS ((s.heap.push {cls:=.type "list",data:=.seq #[]}).update s.heap.objs.size (Obj.mapSeq (λ_=>(#[]:Array Value)))) z TI TO i1 i2 l1 l2 0 0 xs ys :=
  ZS.at (h:=s.heap) (.inl ⟨rfl,Z⟩) (λb o hb e=>oth b o (by lia) e) λo e=>⟨o,oth _ o (by lia) e⟩
 rcases Z1 with⟨_,Z1⟩ | ⟨h0,_⟩
 ·refine DT (A:=A.in1) (by simp[hh]) hn Zg (B:=s.heap.objs.size+1) ?_ (pK _) ord .none Js Z1 Co λh' c' kp M6 hp=>⟨rfl,?_⟩
  ·show((s.heap.push _).update _ _).objs.size=_;rw[uO,eA]
  ·exact hQ h' c' (λb o c1 c2 c3 c4 e=>kp b o c1 c2 c3 c4 (bF (aH e)) (oth b o (bF (aH e)) e)) M6 hp
 ·exact absurd h0 (fB _)
end
theorem tQ{vs:List V}{us:List Value}(r:Vals vs us):∀{i:Nat} {u:Value},us[i]?=some u->∃v,vs[i]?=some v/\RelV v u:=by
 induction r with
 | nil=>intro i u e;simp at e
 | @cons v w vs ws h t ih =>
  intro i u e;cases i with
  | zero=>simp at e;subst e;exact⟨v,rfl,h⟩
  | succ i=>obtain⟨x,h1,h2⟩:=ih (i:=i) (u:=u) (by simpa using e);exact⟨x,by simpa using h1,h2⟩
theorem DU(B n:Nat):Vals ((List.range n).map λj=>V.ref (B+j)) (lz B n).toList:=by
 unfold lz;induction n with
 | zero=>exact .nil
 | succ n ih =>
  rw[zF,fW,fW];exact ih.append (.cons rfl .nil)
theorem ya{X:Cx}{af:List (Addr×Obj)}{σ:St}{H1 aa:Hp}{ae F1:Fz}{st:cq}{s:Shared}{B m:Nat}{xs ys:List Value}{vs ws:List V}{ps qs:List PV}(b0:Nat)(hb0:b0<=B)(fo:∀b,b0<=b->H1 b=none/\qd X af H1 b)(hsz:X.s₀.heap.objs.size<=b0)(I:Inv X af σ H1 s)(R:Rep X.K aa ae F1 st σ H1)(r1:Vals vs xs)(r2:Vals ws ys)(b1:aw X.K F1 ps vs)(b2:aw X.K F1 qs ws)
  (hp:mn s.heap B m xs.toArray ys.toArray):∀i,i<=m->∃Hi Fi,Inv X af σ Hi s/\Rep X.K aa ae Fi st σ Hi/\Gr F1 Fi/\aw X.K Fi ((List.zipWith fL ps qs).take i) ((List.range i).map λj=>V.ref (B+j))/\∀b,b0<=b->(b<B\/B+i<=b)->Hi b=none:=by
 intro i;induction i with
 | zero=>intro _;exact⟨H1,F1,I,R,Gr.refl _,by simp only[List.take_zero,List.range_zero,dQ];exact .nil,λb hb _=>(fo b hb).1⟩
 | succ i ih =>
  intro hi;obtain⟨Hi,Fi,Ii,Ri,si,bi,ni⟩:=ih (by lia)
  obtain⟨x,y,e1,e2,e3⟩:=hp i hi;obtain⟨v,ev,rv⟩:∃v,vs[i]?=some v/\RelV v x:=by
   exact tQ r1 (by simpa using e1)
  obtain⟨w,ew,Kj⟩:∃w,ws[i]?=some w/\RelV w y:=by
   exact tQ r2 (by simpa using e2)
  obtain⟨p,ep⟩:∃p,ps[i]?=some p:=⟨_,eu (by have:=(de.mp ev).1;rw[b1.length];exact this)⟩
  obtain⟨v',ev',bp⟩:=b1.get ep;cases bE (ev.symm.trans ev');obtain⟨q,eq'⟩:∃q,qs[i]?=some q:=⟨_,eu (by have:=(de.mp ew).1;rw[b2.length];exact this)⟩
  obtain⟨w',ew',bq⟩:=b2.get eq';cases bE (ew.symm.trans ew');have hn:Hi (B+i)=none:=ni (B+i) (by lia) (.inr (aF _))
  obtain⟨_,f2,f3,f4,f5,f6⟩:=(fo (B+i) (by lia)).2
  have I2:=Inv.adopt (D:=B+i) (o:=.ak [v,w]) Ii hn (aX hsz (by lia)) f2 f5 f6 ⟨(by show 2<=sizeLine;decide),[x,y],.cons rv (.cons Kj .nil),⟨_,e3,rfl,⟨0,rfl⟩,rfl⟩⟩
  obtain⟨R2,s2⟩:=Ri.laid (.ak [v,w]) hn;refine⟨_,_,I2,R2,si.trans s2,?_,λb hb hc=>?_⟩
  ·have hz:(List.zipWith fL ps qs)[i]?=some (fL p q):=by rw[List.getElem?_zipWith,ep,eq']
   rw[List.take_succ,hz,zF,fW];exact(bi.mono s2).append (.cons (bX.mpr ⟨B+i,[v,w],rfl,gZ.of ay,.cons (bp.mono (si.trans s2)) (.cons (bq.mono (si.trans s2)) .nil)⟩) .nil)
  ·rw[aM (show b≠B+i from λz=>by lia)]
   exact ni b hb (by lia)
def lzO(p q:PV):Option (List PV):=(oH p).bind λps=>(oH q).bind λqs=>if(List.zipWith fL ps qs).length<=gX then some (List.zipWith fL ps qs)else none
def Qa(m:Nat)(fa fb:Gx PV):Gx PV:=bnd fa λp=>bnd fb λq=>bnd (jZ (lzO p q)) λl=>G9 m l
section
variable {X:Cx} {aa:Hp} {ae:Fz} {a b:Expr} {fa fb:Gx PV} {pos p G6 zp:Pos} {m:Nat}
def Qb(hh:X.A.handled=none)(hgl:Gl X "list")(hml:X.mg "list"=none)(hg:Gl X "zip")(hm:X.mg "zip"=none)(ha:PE X a (tE X aa ae fa))(hb:PE X b (tE X aa ae fb))(hs:starEach [a,b] X.env=(false,eval a X.env)::starEach [b] X.env)(MH:starEach [b] X.env=[(false,eval b X.env)]) :
  PE X (.Call (.Name "list" p) [.Call (.Name "zip" zp) [a,b] [] G6] [] pos) (tE X aa ae (Qa m fa fb)):=by
 rintro af s σ H Q I ⟨F,st,Rp,h⟩
 refine mR (ld_blt I hgl hml (l9 .list) ?_ (by decide) (by decide))
 refine kG (M3 rfl ?_) rfl rfl;have hA:=g9 ha (g9 hb qk MH) hs G6 af s σ H (λvs H'=>∃F' st' x y pa pb,vs=[x,y]/\Rep X.K aa ae F' st' σ H'/\bB X.K F' pa x/\bB X.K F' pb y/\Tx X aa ae (bB X.K) F' st' (bnd (jZ (lzO pa pb)) λl=>G9 m l) σ Q) I
  ⟨F,st,Rp,h.bnd λpa v F1 st1 H1 R1 g1 b1 h1=>⟨F1,st1,R1,h1.bnd λpb w F2 dW H2 R2 g2 b2 h2=>⟨F2,dW,v,w,pa,pb,rfl,R2,b1.mono g2,b2,h2⟩⟩⟩
 refine Call_ (ld_blt I hg hm boot_zip (kG (thn hA λus s1 z9=>?_) hs (by rw[MH];rfl)))
 obtain⟨vs,H1,I1,r1,F1,st1,x,y,pa,pb,ev,R1,b1,b2,hT⟩:=z9;subst ev;obtain⟨l,e,hT⟩:=At.jZ (At.bnd hT);obtain⟨ps,f3,e⟩:=aQ e;obtain⟨qs,f4,e⟩:=aQ e;obtain⟨Ai,rfl⟩:=aB e;obtain⟨u1,u2,rfl,UM,Zk⟩:=FJ r1;obtain⟨c1,l1,vs1,rfl,q1,Sk,k1⟩:=jB f3 b1;obtain⟨c2,l2,vs2,rfl,q2,Xb,k2⟩:=jB f4 b2;cases UM;cases Zk;obtain⟨au,v1,K5⟩:=(k1 H1 R1.sub).get I1;obtain⟨eZ,v2,Sn⟩:=(k2 H1 R1.sub).get I1;have lt:∀{l:Addr} {xs:Array Value} {c:String},iH s1.heap l xs c->l<s1.heap.objs.size:=λh=>by
  rcases h with⟨_,⟨o,e,_⟩⟩ | ⟨_,⟨o,e,_⟩⟩
  ·exact aH e
  ·exact aH e
 have UN:=lt K5;have GA:=lt Sn;refine callType_new PySem.F.called_zip (by decide) (PySem.F.typeCall_zip_2 _ _) (PySem.F.newCall_zip_2 _ _) (λobj=>EN obj _ _) PySem.F.entry_zip_new (xY l1 l2 au.toArray eZ.toArray (kh c1) (kh c2)) ⟨K5,Sn,λh1 h2 h3 h4 e1 e2 e3 e4=>?_⟩
 have z1:h1.objs.size=s1.heap.objs.size+1:=by rw[e1];exact eA ..
 have z2:h2.objs.size=s1.heap.objs.size+2:=by rw[e2,eA,z1]
 have z3:h3.objs.size=s1.heap.objs.size+3:=by rw[e3,eA,z2]
 have z4:h4.objs.size=s1.heap.objs.size+4:=by rw[e4,eA,z3]
 generalize e5:h4.push {cls:=.type "zip",data:=.fields #[.none,.bool false,.bool false,.ref h2.objs.size,.ref h3.objs.size]}=h5
 have z5:h5.objs.size=s1.heap.objs.size+5:=by rw[<-e5,eA,z4]
 have p1:∀b o,s1.heap.get? b=some o->h1.get? b=some o:=λb o e=>by rw[e1];exact aK _ e
 have p2:∀b o,h1.get? b=some o->h2.get? b=some o:=λb o e=>by rw[e2];exact aK _ e
 have p3:∀b o,h2.get? b=some o->h3.get? b=some o:=λb o e=>by rw[e3];exact aK _ e
 have p4:∀b o,h3.get? b=some o->h4.get? b=some o:=λb o e=>by rw[e4];exact aK _ e
 have p5:∀b o,h4.get? b=some o->h5.get? b=some o:=λb o e=>by rw[<-e5];exact aK _ e
 have pp:∀b o,s1.heap.get? b=some o->h5.get? b=some o:=λb o e=>p5 _ _ (p4 _ _ (p3 _ _ (p2 _ _ (p1 _ _ e))))
 have g5:IsZip h5 h4.objs.size h2.objs.size h3.objs.size .none:=by rw[<-e5];exact bP _ rfl
 have g4:IsPair h5 h3.objs.size .none .none:=p5 _ _ (by rw[e4];exact bP _ rfl)
 have g3:IsPair h5 h2.objs.size (.ref s1.heap.objs.size) (.ref h1.objs.size):=p5 _ _ (p4 _ _ (by rw[e3];exact bP _ rfl))
 have g2:h5.get? h1.objs.size=some {cls:=.type (kh c2),data:=.fields #[.ref l2,.int 0 0]}:=p5 _ _ (p4 _ _ (p3 _ _ (by rw[e2];exact bP _ rfl)))
 have g1:h5.get? s1.heap.objs.size=some {cls:=.type (kh c1),data:=.fields #[.ref l1,.int 0 0]}:=p5 _ _ (p4 _ _ (p3 _ _ (p2 _ _ (by rw[e1];exact bP _ rfl))))
 have sic:∀{c:Bool} {it l:Addr} {xs:Array Value},h5.get? it=some {cls:=.type (kh c),data:=.fields #[.ref l,.int 0 0]}->iH s1.heap l xs (kh c)->SI h5 it l 0 xs:=λ{c it l xs} e k=>by
  cases c with
  | true =>
   rcases k with⟨_,⟨o,eo,r⟩⟩ | ⟨k,_⟩
   ·exact .inl ⟨⟨_,e,rfl,rfl⟩,⟨o,pp _ _ eo,r⟩⟩
   ·exact absurd k (by decide)
  | false =>
   rcases k with⟨k,_⟩ | ⟨_,⟨o,eo,r⟩⟩
   ·exact absurd k (by decide)
   ·exact .inr ⟨⟨_,e,rfl,rfl⟩,⟨o,pp _ _ eo,r⟩⟩
 have Z:Zp h5 h4.objs.size h2.objs.size h3.objs.size s1.heap.objs.size h1.objs.size l1 l2 .none 0 au.toArray eZ.toArray:=⟨g5,g3,⟨_,_,g4⟩,sic g1 K5,sic g2 Sn,⟨by lia,by lia,by lia,by lia⟩,UN,GA⟩
 refine⟨⟨_,g5,rfl⟩,?_⟩;have adR:=Sk.length;have adT:=Xb.length;have vl1:=v1.length;have vl2:=v2.length;have Zl:min au.toArray.size eZ.toArray.size=(List.zipWith fL ps qs).length:=by rw[List.length_zipWith,cE,cE];lia
 refine sx (s:={s1 with heap:=h5,toks:=s1.toks}) hh Zl.symm (eQ Ai) ⟨by lia,by lia,by lia⟩ Z λh' c' kp hS hp=>?_
 have hS:h'.get? h5.objs.size=some {cls:=.type "list",dict:=none,data:=.seq (lz (h5.objs.size+1) (List.zipWith fL ps qs).length) c',slots:=#[]}:=hS
 have I2:Inv X af σ H1 {s1 with heap:=h',toks:=s1.toks}:=I1.kept λb o e=>by
  have hb:@LT.lt Nat _ b s1.heap.objs.size:=aH e;exact kp b o (show @Ne Nat _ _ by lia) (show @Ne Nat _ _ by lia) (show @Ne Nat _ _ by lia) (show @Ne Nat _ _ by lia) (pp _ _ e)
 have fo:∀b,s1.heap.objs.size<=b->H1 b=none/\qd X af H1 b:=λb hb=>⟨I1.hok.fresh hb,I1.vh hb (I1.hok.fresh hb)⟩
 obtain⟨Hn,Fn,In,Rn,sn,bn,nn⟩:=ya s1.heap.objs.size (B:=h5.objs.size+1) (by lia) fo I1.sz I2 R1 v1 v2 Sk Xb hp _ (aF _)
 rw[List.take_length]at bn;have hnS:Hn h5.objs.size=none:=nn _ (by lia) (.inl (by lia))
 obtain⟨_,f2,f3,f4',f5,f6⟩:=(fo h5.objs.size (by lia)).2
 have I3:=Inv.adopt (D:=h5.objs.size) (o:=.lst ((List.range (List.zipWith fL ps qs).length).map λj=>V.ref (h5.objs.size+1+j))) In hnS (aX I1.sz (by lia)) f2 f5 f6
  ⟨by simp only[aN,mT];exact eQ Ai,(lz (h5.objs.size+1) (List.zipWith fL ps qs).length).toList,c',DU _ _,by simpa using hS⟩
 exact⟨.ref h5.objs.size,_,I3,rfl,Tx.G9 (Tx.mono hT sn λ_ _ z=>z) Rn hnS bn⟩
end
section
variable {X:Cx}
theorem vN{α:Type}(xs:List α):∀n:Nat,(List.replicate n xs).flatten.length=n*xs.length
 | 0=>by simp
 | n+1=>by rw[gu,kP,bR,vN xs n,Nat.succ_mul,Nat.add_comm]
theorem vO(au:List Value):∀(m:Nat) (acc:List Value),List.foldl (λx1 x2=>x1++x2) acc.toArray (List.replicate m au.toArray)=(acc++(List.replicate m au).flatten).toArray
 | 0,acc=>by simp
 | m+1,acc=>by
  rw[gu,kR,show acc.toArray++au.toArray=(acc++au).toArray by simp,vO au m,gu,kP,jn]
theorem qN{xs:List V}{au:List Value}(r:Vals xs au):∀n:Nat,Vals (List.replicate n xs).flatten (List.replicate n au).flatten
 | 0=>.nil
 | n+1=>by rw[gu,gu,kP,kP];exact r.append (qN r n)
theorem vP{K:W.Frag}{F:Fz}{ps:List PV}{vs:List V}(r:aw K F ps vs):∀n:Nat,aw K F (List.replicate n ps).flatten (List.replicate n vs).flatten
 | 0=>.nil
 | n+1=>by rw[gu,gu,kP,kP];exact r.append (vP r n)
def Vi(K:W.Frag):R2:=λx y H Q=>∃l k xs,x=.ref l/\y=.int k/\iZ K H l xs /\ -(2^63)<=k/\k<2^63/\xs.length*k.toNat<=sizeLine /\
 ∀p,H p=none->Q (.ref p) (cY H p (.lst (List.replicate k.toNat xs).flatten))
theorem Lm:OpR X (binaryOp .Mult) (Vi X.K):=by
 intro af s σ H x y v u Q I rx ry h;obtain⟨l,k,xs,rfl,rfl,hH,h1,h2,hz,q⟩:=h;cases rx;obtain⟨t,rfl⟩:=ry;obtain⟨au,n,r,e,z⟩:=I.qA hH;have hl:=r.length;have dX:au.toArray.size*k.toNat<=sizeLine:=by rw[cE,<-hl];exact hz
 have Zm:¬au.toArray.size*k.toNat>(2^63-1)/8:=by
  have:(sizeLine:Nat)<=(2^63-1)/8:=by decide
  lia
 have Uw:¬(!Builtin.List.listFitsIndex k)=true:=by
  rw[fitsIndex_both h1 h2];exact cR
 have Vj:¬Builtin.List.listTooLong (au.toArray.size*k.toNat)=true:=by
  rw[xm dX];exact cR
 have vM:List.foldl (λx1 x2=>x1++x2) #[] (List.replicate (if au.toArray.isEmpty=true then 0 else k.toNat) au.toArray)=(List.replicate k.toNat au).flatten.toArray:=by
  have f0:∀m:Nat,List.foldl (λx1 x2=>x1++x2) #[] (List.replicate m au.toArray)=(List.replicate m au).flatten.toArray:=λm=>by
   have:=vO au m [];rw[gy]at this;exact this
  rw[f0];cases au with
  | nil=>simp
  | cons a r'=>rw[if_neg (by simp)]
 refine wpAny_binaryOp_repeat_ref (T:="list") (U:="int") (by decide) ⟨_,e,rfl⟩ (λs'=>pW s' k t) noFill_list_mul F.fills_int_mul F.slot_int_rmul repeat_list F.slot_int_index.lookup
  (fX F.slot_int_rmul (pW s k t) F.entry_int_rmul (F.args_int_rmul_2 _ _) (int___rmul___int_list k t l au.toArray n)
   ⟨e,rfl,⟨_,e,rfl⟩,fX F.slot_list_mul ⟨_,e,rfl⟩ F.entry_list_mul (F.args_list_mul_2 _ _) (AutoListH.list___mul___list_int_3 l au.toArray n k t Uw Zm Vj) ⟨e,?_⟩⟩)
 rw[vM];exact⟨.ref _,_,I.TU (t':=s.toks) (qN r k.toNat) (by rw[vN,Nat.mul_comm];exact hz),rfl,q _ I.fresh⟩
theorem DV:fillsNumberSlot (.type "tuple") "mul"=pure false:=PySem.fillsNumberSlot_seq (id:="tuple.__mul__") (r:=some (.builtin "tuple.__rmul__")) F.slot_tuple_mul.lookup (by decide +kernel) F.slot_tuple_rmul.lookup (by decide +kernel)
theorem Qc:seqRepeat? (.type "tuple")=pure (some (.builtin "tuple.__mul__")):=by
  unfold seqRepeat?;rw[PySem.seqSlot_of (T:="tuple") (name:="__mul__") (id:="tuple.__mul__") F.slot_tuple_mul.lookup (by decide +kernel),PySem.seqSlot_of (T:="tuple") (name:="__rmul__") (id:="tuple.__rmul__") F.slot_tuple_rmul.lookup (by decide +kernel)]
  rfl
theorem Ln(a:Int)(t:Tok)(l:Addr)(items:Array Value)(n:Nat)(M4:Option Addr)(sl:Array (Option Value)) :
    Meets (Builtin.«int.__rmul__» ⟨[.int a t,.ref l],[]⟩) (λ_ R s=>s.heap.get? l=some {cls:=.type "tuple",dict:=M4,data:=.seq items n,slots:=sl}/\R (.ok (.ret Value.notImplemented)) s) :=
  .of_wp λprog w A R s h=>by
    obtain⟨hp,g,d,tk,os⟩:=s;obtain⟨hl,h⟩:=h
    wp_walk
    exact⟨_,rfl,h⟩
theorem Qd(l:Addr)(items:Array Value)(n:Nat)(u:Tok)(M4:Option Addr)(sl:Array (Option Value)) :
    Meets (Builtin.«tuple.__mul__» ⟨[.ref l,.int 1 u],[]⟩) (λ_ R s=>s.heap.get? l=some {cls:=.type "tuple",dict:=M4,data:=.seq items n,slots:=sl}/\R (.ok (.ret (.ref l))) s) :=
  .of_wp λprog w A R s h=>by
    obtain⟨hp,g,d,tk,os⟩:=s;obtain⟨hl,h⟩:=h
    wp_walk
    exact⟨_,rfl,h⟩
theorem Lo(l:Addr)(items:Array Value)(n:Nat)(x:Int)(u:Tok)(M4:Option Addr)(sl:Array (Option Value))(h2:2<=x)(h3:x<=1000)(ne:items.isEmpty=false)(hz:items.size<=1000) :
    Meets (Builtin.«tuple.__mul__» ⟨[.ref l,.int x u],[]⟩) (λ_ R s=>s.heap.get? l=some {cls:=.type "tuple",dict:=M4,data:=.seq items n,slots:=sl}/\R (.ok (.ret (.ref s.heap.objs.size))) {s with heap:=s.heap.push {cls:=.type "tuple",data:=.seq (List.foldl (λx1 x2=>x1++x2) #[] (List.replicate x.toNat items))}}) :=
  .of_wp λprog w A R s h=>by
    obtain⟨hp,g,d,tk,os⟩:=s;obtain⟨hl,h⟩:=h;have hx:(items.size:Int)*x<=1000*1000:=by
      have h0:(0:Int)<=items.size:=Int.natCast_nonneg _;have h1:(items.size:Int)<=1000:=by lia
      exact Int.mul_le_mul h1 h3 (by lia) (by lia)
    have hsz:(List.foldl (λx1 x2=>x1++x2) #[] (List.replicate x.toNat items)).size<=sizeLine:=by
      rw[AutoListH.size_joined,kZ];have h4:x.toNat*items.size<=1000*1000:=uT (by lia) hz
      simp
      lia
    wp_walk
    refine pP (cF ?_) ?_
    · simp
      lia
    wp_walk
    refine pP (cF ?_) ?_
    · rw[ne]
      simp
      lia
    wp_walk
    refine pP (cF ?_) ?_
    · rw[ne]
      simp
      lia
    wp_walk
    refine pP (cF ?_) ?_
    · lia
    wp_walk
    refine pP (cF ?_) ?_
    · unfold Builtin.Tuple.tupleTooMany
      rw[kZ];simp
      lia
    wp_walk
    exact⟨_,rfl,h⟩
theorem Lp(l:Addr)(items:Array Value)(n:Nat)(u:Tok)(M4:Option Addr)(sl:Array (Option Value))(ne:items.isEmpty=false) :
  Meets (Builtin.«tuple.__mul__» ⟨[.ref l,.int 0 u],[]⟩) (λ_ R s=>s.heap.get? l=some {cls:=.type "tuple",dict:=M4,data:=.seq items n,slots:=sl}/\R (.ok (.ret (.ref s.heap.objs.size))) {s with heap:=s.heap.push {cls:=.type "tuple",data:=.seq #[]}}) :=
 .of_wp λprog w A R s h=>by
  obtain⟨hp,g,d,tk,os⟩:=s;obtain⟨hl,h⟩:=h
  wp_walk
  exact⟨_,rfl,h⟩
theorem Qe{xs:List PV}{j:Int}(h1:0<=j)(h2:j<=1000)(h3:1<=xs.length)(h4:xs.length<=100){af:List (Addr×Obj)}{s:Shared}{σ τ:St}{H aa:Hp}{ae F:Fz}{st:cq}{x y:V}{v u:Value}{Q:V->Hp->Prop}(I:Inv X af σ H s)(rx:RelV x v)(ry:RelV y u)(R:Rep X.K aa ae F st τ H)(ba:bB X.K F (.ak xs) x)(bb:bB X.K F (.int j) y)
    (k:∀v' H' F',Rep X.K aa ae F' st τ H'->Gr F F'->bB X.K F' (.ak (List.replicate j.toNat xs).flatten) v'->Q v' H'):wpAny (model X.prog X.w) X.A (binaryOp .Mult v u) (EP X af σ Q) X.xe s:=by
  obtain⟨a,vs,rfl,ha,iE⟩:=bX.mp ba;rw[aC.mp bb]at ry;cases rx;obtain⟨t,rfl⟩:=ry;obtain⟨au,r,pl,_⟩:=I.tuple (bL R.sub ha);obtain⟨⟨cls,dd,data,sl⟩,e,hc,n,hd⟩:=id pl;simp only at hc hd;subst hc hd;have hl:=r.length;have hxl:=iE.length;refine wpAny_binaryOp_repeat_ref (T:="tuple") (U:="int") (by decide) ⟨_,e,rfl⟩ (λs'=>pW s' j t) DV PySem.F.fills_int_mul PySem.F.slot_int_rmul Qc PySem.F.slot_int_index.lookup
    (fX PySem.F.slot_int_rmul (pW s j t) PySem.F.entry_int_rmul (PySem.F.args_int_rmul_2 _ _) (Ln j t a au.toArray n dd sl) ⟨e,rfl,⟨_,e,rfl⟩,?_⟩)
  have nt:au.toArray.isEmpty=false:=by
    cases au with
    | nil=>rw[mX]at hl;lia
    | cons _ _=>simp
  by_cases hj0:j=0
  · subst hj0
    refine fX zc ⟨_,e,rfl⟩ zb (yY _ _) (Lp a au.toArray n t dd sl nt) ⟨e,?_⟩;obtain⟨R2,s2⟩:=R.laid (.ak []) I.fresh;exact⟨.ref s.heap.objs.size,_,I.laid (t':=s.toks) (o:=.ak []) (λb ob q=>aK _ q) (aF _) ⟨jt _,[],.nil,ot.new _ _⟩,rfl,k _ _ _ R2 s2 (bX.mpr ⟨_,_,rfl,gZ.of ay,.nil⟩)⟩
  by_cases hj:j=1
  · subst hj
    refine fX zc ⟨_,e,rfl⟩ zb (yY _ _) (Qd a au.toArray n t dd sl) ⟨e,?_⟩;refine⟨.ref a,H,I,rfl,k _ H F R (Gr.refl F) ?_⟩;simpa using ba
  · refine fX zc ⟨_,e,rfl⟩ zb (yY _ _) (Lo a au.toArray n j t dd sl (by lia) h2 nt (by rw[cE];lia)) ⟨e,?_⟩
    have vM:List.foldl (λx1 x2=>x1++x2) #[] (List.replicate j.toNat au.toArray)=(List.replicate j.toNat au).flatten.toArray:=by
      have:=vO au j.toNat [];rw[gy]at this;exact this
    rw[vM];obtain⟨R2,s2⟩:=R.laid (.ak (List.replicate j.toNat vs).flatten) I.fresh;have dX:(List.replicate j.toNat vs).flatten.length<=sizeLine:=by
      rw[vN,kZ];have:j.toNat*vs.length<=1000*100:=uT (by lia) (by lia)
      lia
    exact⟨.ref s.heap.objs.size,_,I.laid (t':=s.toks) (o:=.ak (List.replicate j.toNat vs).flatten) (λb ob q=>aK _ q) (aF _) ⟨dX,_,qN r j.toNat,ot.new _ _⟩,rfl,k _ _ _ R2 s2 (bX.mpr ⟨_,_,rfl,gZ.of ay,(vP iE j.toNat).mono s2⟩)⟩
def Qf{x':Str}{j:Int}(h1:2<=j)(h2:j<=100)(h3:1<=x'.length)(h4:x'.length<=100){af:List (Addr×Obj)}{s:Shared}{σ τ:St}{H aa:Hp}{ae F:Fz}{st:cq}{x y:V}{v u:Value}{Q:V->Hp->Prop}(I:Inv X af σ H s)(rx:RelV x v)(ry:RelV y u)(R:Rep X.K aa ae F st τ H)(ba:bB X.K F (.str x') x)(bb:bB X.K F (.int j) y)
 (k:∀v' H' F',Rep X.K aa ae F' st τ H'->Gr F F'->bB X.K F' (.str (Txt.mul x' j)) v'->Q v' H'):wpAny (model X.prog X.w) X.A (binaryOp .Mult v u) (EP X af σ Q) X.xe s:=by
 rw[aC.mp bb]at ry;rw[bN.mp ba]at rx;obtain⟨t,rfl⟩:=rx;obtain⟨t',rfl⟩:=ry;refine SB.mul ⟨by simp;lia,λ_ _=>?_,λ_ _=>?_⟩ λt' m=>⟨.str _,H,I.kept (t':=m) (λ_ _ e=>e),⟨t',rfl⟩,k _ H F R (Gr.refl F) (bN.mpr rfl)⟩
 ·have:100<=(2^63-1:Int)/j:=by
   rw[Int.le_ediv_iff_mul_le (by lia)]
   lia
  lia
 ·unfold Builtin.Str.tooLong;have:x'.length*j.toNat<=100*100:=uT h4 (by lia)
  exact cF (Nat.not_lt.mpr (aX this (by decide)))
def Zn(h:List ah)(p:PV)(j:Int):Option (List PV):=(Am h p).bind λxs=>if(-1000<=j/\j<=1000/\xs.length<=100)then some (List.replicate j.toNat xs).flatten else none
noncomputable def Jt:Nat:=1606938044258990275541962092341162602522202993782792835301376
theorem AG{i j:Int}(h:i.natAbs<Jt/\j.natAbs<Jt):IntMulOk i j:=by
 have h1:Builtin.Int.intBits i<=200:=PyProof.Rows.intBits_le (bV h.1 (by decide))
 have h2:Builtin.Int.intBits j<=200:=PyProof.Rows.intBits_le (bV h.2 (by decide))
 have hc:Builtin.Int.intTooBig (Builtin.Int.intBits i+Builtin.Int.intBits j)=false:=by
  unfold Builtin.Int.intTooBig bitsLine;exact cF (by lia)
 unfold IntMulOk;rw[hc];simp
def Zo:G2:=nD (λi j=>decide (((-oC<i/\i<oC)\/(-oC<j/\j<oC))\/(i.natAbs<Jt/\j.natAbs<Jt))) λi j=>.int (i*j)
theorem Hf:oY X (binaryOp .Mult) Zo:=eR (C:=IntMulOk) (Tn λ_ _ _ _ _ _ _ hc q=>mul_int q hc) (λi j e=>by
 rcases ip e with h | h
 ·exact J0.ok h
 ·exact AG h) λ_ _ _=>aC.mpr rfl
def lA:G2:=λh p q=>match p,q with
 | .int i,.int j=>if(((-oC<i/\i<oC)\/(-oC<j/\j<oC))\/(i.natAbs<Jt/\j.natAbs<Jt))then some (.int (i*j))else none
 | .nd .ak xs,.int j=>if(0<=j/\j<=1000/\1<=xs.length/\xs.length<=100)then some (.ak (List.replicate j.toNat xs).flatten)else none
 | .str x,.int j=>if(2<=j/\j<=100/\1<=x.length/\x.length<=100)then some (.str (Txt.mul x j))else none
 | p,.int j=>(Zn h p j).map .lst
 | _,_=>none
theorem Qg{xs:List PV}{vs:List V}{F:Fz}{j:Int}(h:-1000<=j/\j<=1000/\xs.length<=100)(b:aw X.K F xs vs):-(2^63)<=j/\j<2^63/\vs.length*j.toNat<=sizeLine:=by
 refine⟨by lia,by lia,?_⟩
 have:=b.length;rw[kZ];have:vs.length*j.toNat<=100*1000:=uT (by lia) (by lia)
 lia
theorem Hg:oY X (binaryOp .Mult) lA:=by
 rintro af s σ H x y v u Q I rx ry ⟨aa,ae,F,st,τ,pa,pb,p,e,R,ba,bb,k⟩;unfold lA at e;split at e
 ·rename_i i j;obtain⟨hc,rfl⟩:=aB e;exact Hf af s σ H x y v u Q I rx ry ⟨aa,ae,F,st,τ,.int i,.int j,.int (i*j),(show(if decide (((-oC<i/\i<oC)\/(-oC<j/\j<oC))\/(i.natAbs<Jt/\j.natAbs<Jt))=true then some (PV.int (i*j))else none)=_ from if_pos (ez hc)),R,ba,bb,k⟩
 ·obtain⟨⟨h1,h2,h3,h4⟩,rfl⟩:=aB e;exact Qe h1 h2 h3 h4 I rx ry R ba bb k
 ·obtain⟨⟨h1,h2,h3,h4⟩,rfl⟩:=aB e;exact Qf h1 h2 h3 h4 I rx ry R ba bb k
 ·obtain⟨qs,e1,rfl⟩:=aR e;obtain⟨xs,e2,e1⟩:=aQ e1;obtain⟨hc,rfl⟩:=aB e1;obtain⟨a,vs,rfl,ha,iE⟩:=R.at (iD e2) ba;obtain⟨c1,c2,c3⟩:=Qg hc iE;refine Lm af s σ H _ y v u Q I rx ry ⟨a,_,vs,rfl,aC.mp bb,ha,c1,c2,c3,λp hp=>?_⟩
  obtain⟨R2,s2⟩:=R.laid (.lst (List.replicate _ vs).flatten) hp;exact k _ _ _ R2 s2 (dr.mpr ⟨p,_,rfl,iZ.of ay,(vP iE _).mono s2⟩)
 ·cases e
def Lq(op:Operator):Option G2:=match op with
 | .Mult=>some lA
 | op=>Pa op
theorem Hh{op:Operator}{g:G2}(h:Lq op=some g):oY X (binaryOp op) g:=by
 cases op<;>first | (cases h;exact Hg) | exact Ky h
end
def Itz(K:W.Frag)(c1 c2:Bool)(l1 l2:Addr):It where
 go:=λi H=>∃vs ws v w,rY K H c1 l1 vs/\rY K H c2 l2 ws/\vs[i]?=some v/\ws[i]?=some w
 yld:=λi H x H'=>∃T v w,H T=none/\x=.ref T/\H'=cY H T (.ak [v,w])/\∀vs ws,rY K H c1 l1 vs->rY K H c2 l2 ws->vs[i]?=some v/\ws[i]?=some w
 stop:=λi H=>∃vs ws,rY K H c1 l1 vs/\rY K H c2 l2 ws/\(vs.length<=i\/ws.length<=i)
def zTn(z TI TO i1 i2 l1 l2:Nat)(c1 c2:Bool)(i:Nat)(h:Heap):Prop:=IsZip h z TI TO .none/\IsPair h TI (.ref i1) (.ref i2)/\(∃a b,IsPair h TO a b)/\EB h c1 i1 l1 i/\EB h c2 i2 l2 i
theorem Hj{P:Program}{w:World}{K:W.Frag}{elts:List Expr}{x1:Nat}{qj:Pos}{z TI TO i1 i2 l1 l2:Nat}{c1 c2:Bool}(ord:i1<i2/\i2<TI/\TI<TO/\TO<z)(o1:l1<i1)(o2:l2<i1) :
  Turn P w K (.Tuple elts x1 qj) (Itz K c1 c2 l1 l2) [z,TI,TO,i1,i2] z (zTn z TI TO i1 i2 l1 l2 c1 c2) where
 mem:=dy
 obj:=by
  rintro i h ⟨a1,a2,⟨_,_,a3⟩,a4,a5⟩ b hb
  simp only[aD,bu,bz]at hb;rcases hb with rfl | rfl | rfl | rfl | rfl
  ·exact⟨_,a1,λv=>by simp⟩
  ·exact⟨_,a2,λv=>by simp⟩
  ·exact⟨_,a3,λv=>by simp⟩
  ·exact a4.obj
  ·exact a5.obj
 keep:=λi h h' ⟨a1,a2,⟨p,q,a3⟩,a4,a5⟩ k=>⟨k z (by simp) _ a1,k TI (by simp) _ a2,⟨p,q,k TO (by simp) _ a3⟩,a4.at λo e=>k i1 (by simp) o e,a5.at λo e=>k i2 (by simp) o e⟩
 item:=by
  rintro X hP hw hK hc i af s σ H E I hf ⟨a1,a2,a3,a4,a5⟩ ⟨vs,ws,v,w',hv,Xc,ev,ew⟩
  subst hP hw hK;obtain⟨au,r1,k1⟩:=hv.get I;obtain⟨eZ,r2,k2⟩:=Xc.get I;obtain⟨x,ex,rx⟩:=r1.get ev;obtain⟨y,ey,ry⟩:=r2.get ew;have Z:Zp s.heap z TI TO i1 i2 l1 l2 .none i au.toArray eZ.toArray:=⟨a1,a2,a3,tJ a4 k1,tJ a5 k2,ord,o1,o2⟩;have hT:s.TypeIs (.ref z) "zip":=⟨_,a1,rfl⟩;unfold pyNext;refine ag (kU (fS (name:=Str.ofString "__next__") hT fU (gw fU hT mV
   (Ck Z (by simpa using ex) (by simpa using ey) λh' Z' Nb UD kp=>ar ⟨_,rfl,?_⟩) (mU _))))
  refine wpAny_letOwnedTupleGo_zip Z'.hz λJq Zr sb=>?_
  have UJ:∀b∈[z,TI,TO,i1,i2],b<s.heap.objs.size:=λb hb=>by
   simp only[aD,bu,bz]at hb;have h1:=aH a1;have h2:z<s.heap.objs.size:=h1;obtain⟨q1,q2,q3,q4⟩:=ord;rcases hb with rfl | rfl | rfl | rfl | rfl<;>lia
  have zT:z≠s.heap.objs.size:=bF (UJ z (by simp))
  have UK:∀b o,b∉[z,TI,TO,i1,i2]->s.heap.get? b=some o->Jq.get? b=some o:=λb o hb e=>by
   simp only[aD,bu,bz,not_or]at hb;exact sb.extBut _ _ hb.1 (kp b o hb.1 hb.2.2.1 hb.2.2.2.1 hb.2.2.2.2 e)
  have I1:Inv X af σ H {s with heap:=Jq,toks:=s.toks}:=Inv.turns I hf UK
  have hn:H s.heap.objs.size=none:=I.fresh;have K3:=I.vh (H':=H) (aF _) hn;have pr:IsPair Jq s.heap.objs.size x y:=sb.extBut _ _ (cx zT) Nb;have I2:=Inv.adopt (D:=s.heap.objs.size) (o:=.ak [v,w']) I1 hn (by
    rcases K3.2.2.2.1 with q | q
    ·exact I.sz
    ·exact q) K3.2.1 K3.2.2.2.2.1 K3.2.2.2.2.2 ⟨(by show 2<=sizeLine;decide),[x,y],.cons rx (.cons ry .nil),⟨_,pr,rfl,⟨0,rfl⟩,rfl⟩⟩
  refine⟨.ref s.heap.objs.size,_,I2,rfl,⟨s.heap.objs.size,v,w',hn,rfl,rfl,λwR ws' h1 h2=>?_⟩,⟨Zr,sb.extBut _ _ (by first | exact nl (by lia) | exact ng (by lia)) Z'.hTI,?_,?_,?_⟩,λb hb=>?_⟩
  ·rw[<-rY.inj I hv h1,<-rY.inj I Xc h2];exact⟨ev,ew⟩
  ·obtain⟨p,q,e⟩:=Z'.hTO;exact⟨p,q,sb.extBut _ _ (by first | exact nl (by lia) | exact ng (by lia)) e⟩
  ·have q:=vG (k':=i) Z'.s1 k1 λo e=>kp l1 o (by first | exact nl (by lia) | exact ng (by lia)) (by first | exact nl (by lia) | exact ng (by lia)) (by first | exact nl (by lia) | exact ng (by lia)) (by first | exact nl (by lia) | exact ng (by lia)) e
   exact q.at λo e=>sb.extBut _ _ (by first | exact nl (by lia) | exact ng (by lia)) e
  ·have q:=vG (k':=i) Z'.s2 k2 λo e=>kp l2 o (by first | exact nl (by lia) | exact ng (by lia)) (by first | exact nl (by lia) | exact ng (by lia)) (by first | exact nl (by lia) | exact ng (by lia)) (by first | exact nl (by lia) | exact ng (by lia)) e
   exact q.at λo e=>sb.extBut _ _ (by first | exact nl (by lia) | exact ng (by lia)) e
  ·rw[aM (bF (UJ b hb))];exact(hf b hb).1
 done:=by
  rintro X hP hw hK hc i af s σ H E I hf ⟨a1,a2,a3,a4,a5⟩ ⟨vs,ws,hv,Xc,he⟩
  subst hP hw hK;obtain⟨au,r1,k1⟩:=hv.get I;obtain⟨eZ,r2,k2⟩:=Xc.get I;have Z:Zp s.heap z TI TO i1 i2 l1 l2 .none i au.toArray eZ.toArray:=⟨a1,a2,a3,tJ a4 k1,tJ a5 k2,ord,o1,o2⟩;have hT:s.TypeIs (.ref z) "zip":=⟨_,a1,rfl⟩;have xX:au.toArray[i]?=none\/eZ.toArray[i]?=none:=by
   rcases he with q | q
   ·exact .inl (kK (by rw[cE,<-r1.length];exact q))
   ·exact .inr (kK (by rw[cE,<-r2.length];exact q))
  unfold pyNext;refine ag (kU (fS (name:=Str.ofString "__next__") hT fU (gw fU hT mV (Hd (I.ok.hd hc) Z xX λh' e kp ⟨o,ho,hcl⟩=>?_) (mU _))))
  refine ag (uN (T:="StopIteration") (b:=true) ⟨o,ho,hcl⟩ uU (ar ⟨rfl,?_⟩));exact Inv.turns (t':=s.toks) I hf λb o hb e=>by
   simp only[aD,bu,bz,not_or]at hb;exact kp b o hb.1 hb.2.2.1 hb.2.2.2.1 hb.2.2.2.2 e
 self:=λA i s Q E ⟨a1,_⟩ q=>zz a1 q
theorem Hk{K:W.Frag}{F:Fz}{c1 c2:Bool}{l1 l2:Addr}{ps qs:List PV}{vs ws:List V}(k1:∀F',cA F.F F'->rY K F' c1 l1 vs)(k2:∀F',cA F.F F'->rY K F' c2 l2 ws)(b1:aw K F ps vs)(b2:aw K F qs ws):Walk K F (List.zipWith fL ps qs) (Itz K c1 c2 l1 l2):=by
 intro aa ae F' ρ σ H R s i;have h1:=k1 H (s.s.trans R.sub);have h2:=k2 H (s.s.trans R.sub);refine⟨λp e=>?_,λe=>?_⟩
 ·rw[List.getElem?_zipWith]at e;cases z1:ps[i]? with
  | none=>rw[z1]at e;cases e
  | some p1 =>
   cases z2:qs[i]? with
   | none=>rw[z1,z2]at e;cases e
   | some p2 =>
    rw[z1,z2]at e;cases e;obtain⟨v,e1,YR⟩:=b1.get z1;obtain⟨w,e2,c2'⟩:=b2.get z2;refine⟨⟨vs,ws,v,w,h1,h2,e1,e2⟩,λx H' ⟨T,v',w',hn,hx,hH,FU⟩=>?_⟩
    obtain⟨g1,g2⟩:=FU vs ws h1 h2;rw[e1]at g1;rw[e2]at g2;cases g1;cases g2;subst hx hH;obtain⟨R2,s2⟩:=R.laid (.ak [v,w]) hn;exact⟨_,R2,s2,bX.mpr ⟨T,[v,w],rfl,gZ.of ay,.cons (YR.mono (s.trans s2)) (.cons (c2'.mono (s.trans s2)) .nil)⟩⟩
 ·refine⟨vs,ws,h1,h2,?_⟩;have:=ik.mp e;rw[List.length_zipWith,b1.length,b2.length]at this
  lia
section
variable {X:Cx} {aa:Hp} {ae:Fz} {a b tg:Expr} {fa fb:Gx PV} {pos p:Pos}
def Hl(p q:PV):Option (List PV):=(oH p).bind λps=>(oH q).map λqs=>List.zipWith fL ps qs
def Qh(fa fb:Gx PV):Gx (List PV):=bnd fa λp=>bnd fb λq=>jZ (Hl p q)
theorem Vk(ht:BY tg=true)(hg:Gl X "zip")(hm:X.mg "zip"=none)(ha:PE X a (tE X aa ae fa))(hb:PE X b (tE X aa ae fb))(hs:starEach [a,b] X.env=(false,eval a X.env)::starEach [b] X.env)(MH:starEach [b] X.env=[(false,eval b X.env)]) :
  PI X tg (.Call (.Name "zip" p) [a,b] [] pos) (tI X aa ae (Qh fa fb)):=by
 rintro af s σ H R I ⟨F,st,Rp,h⟩
 have hA:=g9 ha (g9 hb qk MH) hs pos af s σ H (λvs H'=>∃F' st' x y pa pb ps qs,vs=[x,y]/\Rep X.K aa ae F' st' σ H'/\bB X.K F' pa x/\bB X.K F' pb y/\oH pa=some ps/\oH pb=some qs/\∀b UL Gb,Rep X.K aa ae Gb st' σ UL->Gr F' Gb->Walk X.K Gb (List.zipWith fL ps qs) b->R b UL) I
  ⟨F,st,Rp,h.bnd λp v F1 st1 H1 R1 g1 b1 h1=>⟨F1,st1,R1,h1.bnd λq w F2 dW H2 R2 g2 b2 h2=>by
   obtain⟨o,e,z⟩:=h2.jZ;obtain⟨ps,e1,e⟩:=aQ e;obtain⟨qs,e2,rfl⟩:=aR e;exact⟨F2,dW,v,w,p,q,ps,qs,rfl,R2,b1.mono g2,b2,e1,e2,z⟩⟩⟩
 refine Call_ (ld_blt I hg hm boot_zip (kG (thn hA λus s1 z9=>?_) hs (by rw[MH];rfl)))
 obtain⟨vs,H1,I1,r1,F1,st1,x,y,pa,pb,ps,qs,ev,R1,b1,b2,f3,f4,q⟩:=z9;subst ev;obtain⟨u1,u2,rfl,UM,Zk⟩:=FJ r1;obtain⟨c1,l1,vs1,rfl,q1,Sk,k1⟩:=jB f3 b1;obtain⟨c2,l2,vs2,rfl,q2,Xb,k2⟩:=jB f4 b2;cases UM;cases Zk;obtain⟨au,v1,K5⟩:=(k1 H1 R1.sub).get I1;obtain⟨eZ,v2,Sn⟩:=(k2 H1 R1.sub).get I1;have lt:∀{l:Addr} {xs:Array Value} {c:String},iH s1.heap l xs c->l<s1.heap.objs.size:=λh=>by
  rcases h with⟨_,⟨o,e,_⟩⟩ | ⟨_,⟨o,e,_⟩⟩
  ·exact aH e
  ·exact aH e
 have UN:=lt K5;have GA:=lt Sn;refine callType_new PySem.F.called_zip (by decide) (PySem.F.typeCall_zip_2 _ _) (PySem.F.newCall_zip_2 _ _) (λobj=>EN obj _ _) PySem.F.entry_zip_new (xY l1 l2 au.toArray eZ.toArray (kh c1) (kh c2)) ⟨K5,Sn,λh1 h2 h3 h4 e1 e2 e3 e4=>?_⟩
 have z1:h1.objs.size=s1.heap.objs.size+1:=by rw[e1];exact eA ..
 have z2:h2.objs.size=s1.heap.objs.size+2:=by rw[e2,eA,z1]
 have z3:h3.objs.size=s1.heap.objs.size+3:=by rw[e3,eA,z2]
 have z4:h4.objs.size=s1.heap.objs.size+4:=by rw[e4,eA,z3]
 generalize e5:h4.push {cls:=.type "zip",data:=.fields #[.none,.bool false,.bool false,.ref h2.objs.size,.ref h3.objs.size]}=h5
 have p1:∀b o,s1.heap.get? b=some o->h1.get? b=some o:=λb o e=>by rw[e1];exact aK _ e
 have p2:∀b o,h1.get? b=some o->h2.get? b=some o:=λb o e=>by rw[e2];exact aK _ e
 have p3:∀b o,h2.get? b=some o->h3.get? b=some o:=λb o e=>by rw[e3];exact aK _ e
 have p4:∀b o,h3.get? b=some o->h4.get? b=some o:=λb o e=>by rw[e4];exact aK _ e
 have p5:∀b o,h4.get? b=some o->h5.get? b=some o:=λb o e=>by rw[<-e5];exact aK _ e
 have g5:IsZip h5 h4.objs.size h2.objs.size h3.objs.size .none:=by rw[<-e5];exact bP _ rfl
 have g4:IsPair h5 h3.objs.size .none .none:=p5 _ _ (by rw[e4];exact bP _ rfl)
 have g3:IsPair h5 h2.objs.size (.ref s1.heap.objs.size) (.ref h1.objs.size):=p5 _ _ (p4 _ _ (by rw[e3];exact bP _ rfl))
 have g2:h5.get? h1.objs.size=some {cls:=.type (kh c2),data:=.fields #[.ref l2,.int 0 0]}:=p5 _ _ (p4 _ _ (p3 _ _ (by rw[e2];exact bP _ rfl)))
 have g1:h5.get? s1.heap.objs.size=some {cls:=.type (kh c1),data:=.fields #[.ref l1,.int 0 0]}:=p5 _ _ (p4 _ _ (p3 _ _ (p2 _ _ (by rw[e1];exact bP _ rfl))))
 have itc:∀{c:Bool} {it l:Addr},h5.get? it=some {cls:=.type (kh c),data:=.fields #[.ref l,.int 0 0]}->EB h5 c it l 0:=λ{c it l} e=>by
  cases c with
  | true=>exact(show h5.IsListIter it l 0 from⟨_,e,rfl,rfl⟩)
  | false=>exact(show h5.IsTupleIter it l 0 from⟨_,e,rfl,rfl⟩)
 have I2:Inv X af σ H1 {s1 with heap:=h5,toks:=s1.toks}:=I1.kept λb o e=>p5 _ _ (p4 _ _ (p3 _ _ (p2 _ _ (p1 _ _ e))))
 have fD:∀b,s1.heap.objs.size<=b->H1 b=none:=λb hb=>I1.hok.fresh hb
 refine⟨⟨_,g5,rfl⟩,?_⟩;show wpAny _ _ (pyIter (.ref h4.objs.size)) _ _ {s1 with heap:=h5,toks:=s1.toks}
 refine zz g5 ?_;cases tg with
 | Tuple elts x1 qj =>
  refine⟨h4.objs.size,[h4.objs.size,h2.objs.size,h3.objs.size,s1.heap.objs.size,h1.objs.size],_,_,H1,rfl,I2,Hj (TI:=h2.objs.size) (TO:=h3.objs.size) (i1:=s1.heap.objs.size) (i2:=h1.objs.size) (l1:=l1) (l2:=l2) (c1:=c1) (c2:=c2) ⟨by lia,by lia,by lia,by lia⟩ UN GA,⟨g5,g3,⟨_,_,g4⟩,itc g1,itc g2⟩,λb hb=>?_,q _ H1 F1 R1 (Gr.refl _) (Hk k1 k2 Sk Xb)⟩
  simp only[aD,bu,bz]at hb;have UO:s1.heap.objs.size<=b:=by rcases hb with rfl | rfl | rfl | rfl | rfl<;>lia
  have fo:=I1.vh (H':=H1) UO (fD b UO);exact fo
 | _=>cases ht
end
end L2.U
namespace L2
open PySem PySem.Spec PyProof.Rows
section
variable {prog:Program} {w:World} {A:Around} {E:Value->Shared->Prop} {s:Shared} {K:W.Frag} {x dx C f:Addr} {mA:Str->Option Value} {name:Str} {v:Value}
theorem Hm{pl:Sem Bool}{Q:Value×List Value->Shared->Prop}(X:K.In s.heap)(I:z0 s.heap x dx C mA)(hg:W.plainGet K C name=true)
    (hf:W.findIn K (.ref C) name=some (some (.ref f))) (ht:W.isFn K (.ref f)=true) (hv:mA name=none) (h:Q (.ref f,[.ref x]) s) :
    wpAny (model prog w) A (getMethod (.ref x) name pl) Q E s:=by
  obtain⟨od,J,hl⟩:=I.lp;exact W.method_fn X J (W.plainGet_of hg).1 (W.plainGet_of hg).2 hf (nv.mp ht) (by show(W.lookIn name od).map (·.isSome)=some false;rw[hl,hv];rfl) h
end
section
variable {X:Cx} {af:List (Addr×Obj)} {σ:St} {H:Hp} {s:Shared} {a C dx:Addr} {fs:List (Str×V)} {f:Str} {v:V} {A:Around} {E:Value->Shared->Prop}
theorem AH{m:Str}{g:Addr}{pl:Sem Bool}{Q:Value×List Value->Shared->Prop}(I:Inv X af σ H s)(e:H a=some (.ins C dx fs))(c:sO X.K C)(k:ES X.K C m g)(l:fs.lookup m=none)
    (h:Q (.ref g,[.ref a]) s):wpAny (model X.prog X.w) A (getMethod (.ref a) m pl) Q E s:=by
  obtain⟨mA,O,r,_,_,_⟩:=vj I.hok e;have hn:mA m=none:=oq.none_of (by rw[<-l];exact r m)
  exact Hm I.ou O (c.get m) k.at_ k.fn hn h
end
section
variable {X:Cx} {o e value:Expr} {f:Str} {pos ow qj:Pos} {ta tv:TE}
theorem og{pl:Sem Bool}{m:Str}{eM:Pos}{args:List Expr}{af:List (Addr×Obj)}{s:Shared}{σ:St}{H:Hp}{Q:Value->Shared->Prop}{te:TE}(he:PE X e te)(I:Inv X af σ H s)
    (h:te σ H λx H1=>∃a C dx fs g,x=.ref a/\H1 a=some (.ins C dx fs)/\sO X.K C/\ES X.K C m g/\fs.lookup m=none /\
      ∀s1,Inv X af σ H1 s1->wpAny (model X.prog X.w) X.A (callWith pos (.ref g) [.ref a] (backTo pos (starEach args X.env)) (backToKw pos (keywordEach [] X.env))) Q X.xe s1)
    (ht:eval (.Call (.Attribute e m eM) args [] pos) X.env=(do
      let ov <-eval e X.env
      standAt eM.atName
      let (f,first) <-holding [ov] (getMethod ov m pl)
      callWith pos f first (backTo pos (starEach args X.env)) (backToKw pos (keywordEach [] X.env)))) :
    wpAny (model X.prog X.w) X.A (eval (.Call (.Attribute e m eM) args [] pos) X.env) Q X.xe s:=by
  refine W.methodCall_KW (pl:=pl) (thn (he af s σ H _ I h) λu s1 zz=>?_) ht;obtain⟨x,H1,I1,rx,a,C,dx,fs,g,ex,ea,c,k,l,q⟩:=zz
  subst ex;obtain rfl:u=Value.ref a:=rx;exact AH I1 ea c k l (q s1 I1)
end
section
def Zs(X:Cx)(op:Operator)(rd:V->V->Hp->VK->Prop):Prop :=
  ∀(af:List (Addr×Obj)) (s:Shared) (σ:St) (H:Hp) (x y:V) (u v:Value) (Q:VK),Inv X af σ H s->RelV x u->RelV y v->rd x y H Q->wpAny (model X.prog X.w) X.A (inplaceOp op u v) (EP X af σ Q) X.xe s
end
section
def Lr(K:W.Frag)(ta tv:TE)(rd:V->V->Hp->VK->Prop)(f:Str):TS:=λD σ H=>ta σ H λx H1=>∃a C dx fs v,x=.ref a/\H1 a=some (.ins C dx fs)/\sO K C/\ir K C f/\fs.lookup f=some v /\
  tv σ H1 λy H2=>rd v y H2 λz H3=>∃So Mz,H3 a=some (.ins C So Mz)/\Mz.length<1000/\D.nx σ (cY H3 a (.ins C So (iu f z Mz)))
end
section
variable {X:Cx} {o e value:Expr} {f:Str} {pos ow qj:Pos} {ta tv:TE}
theorem DW{op:Operator}{rd:V->V->Hp->VK->Prop}(ha:PE X o ta)(hv:PE X value tv)(hop:Zs X op rd):PS X (.AugAssign (.Attribute o f qj) op value pos) (Lr X.K ta tv rd f):=by
  intro af s σ H D I h;refine wpAny_AugAssign_AttributeAny (thn (ha af s σ H _ I h) λov s1 zz=>?_)
  obtain⟨x,H1,I1,rx,a,C,dx,fs,v,ex,ea,c,n,l,q⟩:=zz;subst ex;obtain rfl:ov=Value.ref a:=rx;refine qh I1 ea c n l λu s2 I2 ru=>thn (hv af s2 σ H1 _ I2 q) λw3 s3 ⟨y,H2,I3,ry,q3⟩=>thn (hop af s3 σ H2 v y u w3 _ I3 ru ry q3) λw4 s4 zz=>?_;obtain⟨z,H3,I4,rz,So,Mz,ea',l',q4⟩:=zz
  exact qi I4 ea' c n l' rz λs5 I5=>⟨σ,_,I5,q4⟩
end
section
variable {X:Cx} {CX:C8} {k:Nat} {f C:Addr} {fd:FuncData} {ps:List Str} {sp:Sp} {ju:List V} {ds:List Value} {E:XK} {x m:Str} {p pos eM:Pos} {e o:Expr} {es:List Expr} {ta:TE} {t:TA}
theorem Ho(M:Mk X.K C f)(F:FnOk X.prog X.w X.K X.mg X.base CX k f fd ps sp)(hr:c7 (k+1) X.A)(hg:Gl X x)(hm:X.mg x=some (.ref C))(hb:cK X.K fd ps ds)(hd:Vals ju ds)(hx:vk CX X E)
    (Ds:(x==("__debug__":Str))=false:=by decide):PE X (.Call (.Name x p) [] [] pos) (BC C sp ju E OC):=by
  intro af s σ H Q I h;refine mR (ld_glob I hg hm ?_ Ds);exact W.callWith_K0 I.ou M.kp (xi (us:=[]) M F hr hb hd hx I .nil h)
end
section
theorem Vals.dropLast{xs:List V}{us:List Value}(h:Vals xs us):Vals xs.dropLast us.dropLast:=by
  induction h with
  | nil=>exact .nil
  | cons r t ih =>
    cases t with
    | nil=>exact .nil
    | cons q t'=>exact .cons r ih
end
section
theorem AI{α:Type}(l:List α):l.eraseIdx (l.length-1)=l.dropLast:=by
  induction l with
  | nil=>rfl
  | cons a r ih =>
    cases r with
    | nil=>rfl
    | cons b r =>
      have e:(a::b::r).length-1=((b::r).length-1)+1:=by
        have h1:(a::b::r).length=r.length+2:=rfl;have h2:(b::r).length=r.length+1:=rfl
        lia
      rw[e,List.eraseIdx_cons_succ,ih]
      all_goals rfl
end
section
variable {X:Cx}
def Nc:V->List V->Hp->VK->Prop:=λx vs H Q=>∃l xs y,x=.ref l/\vs=[]/\H l=some (.lst xs)/\xs[xs.length-1]?=some y/\Q y (cY H l (.lst xs.dropLast))
end
section
variable {X:Cx}
theorem Ls:Yo X "list.pop" Nc:=by
  intro af s σ H x vs v us Q I rx rv h;obtain⟨l,xs,y,rfl,rfl,hH,hy,q⟩:=h;cases rx;have hus:=rv.zero;subst hus;obtain⟨z,au,n,r,hl,e⟩:=I.dY hH;obtain⟨u,hu,ru⟩:=r.get hy;have hy':au.toArray[au.toArray.size-1]?=some u:=by
    show au.toArray[au.length-1]?=some u;rw[<-zf,<-hl];exact hu
  refine fX F.slot_list_pop ⟨_,e,rfl⟩ F.entry_list_pop (F.args_list_pop_1 _) (MeetsSeq.list_pop_last l au.toArray n u hy' (by rw[cE];lia)) ⟨e,?_⟩
  refine⟨y,_,I.ON (its':=au.dropLast) hH e ?_ r.dropLast ?_,ru,q⟩
  · show au.toArray.eraseIdxIfInBounds (au.toArray.size-1)=au.dropLast.toArray
    rw[cE,List.eraseIdxIfInBounds_toArray,AI]
  · rw[List.length_dropLast]
    lia
end
end L2
namespace L2.U
open PySem PySem.Spec PyProof.Rows
section
variable {X:Cx} {aa:Hp} {ae:Fz} {e o:Expr} {es:List Expr} {ts:Gx (List PV)} {fo:Gx PV} {pos p eM:Pos} {k n:Nat} {f:Addr} {fd:FuncData} {ps:List Str} {x m:Str} {g:jD} {ds:List PV} {ju:List V} {pY:List Value}
def o8{CX:C8}{sp:Sp}{E:XK}{af:List (Addr×Obj)}{σ:St}{H:Hp}{s:Shared}{Q:VK}{us:List Value}{vs:List V}(F:FnOk X.prog X.w X.K X.mg X.base CX k f fd ps sp)(hr:c7 k X.A)(hb:cK X.K fd ps pY)(hd:Vals ju pY)(hx:∀e s',CX X.stack H s E e s'->X.xe e s')
  (I:Inv X af σ H s) (r:Vals vs us) (h:sp (vs++ju) H Q E):wpAny (model X.prog X.w) X.A (call (.ref f) us) (EP X af σ Q) X.xe s:=by
 have r2:Vals (vs++ju) (us++pY):=r.append hd;have Sh:=hb s us I.ou (by rw[<-r2.length];exact F.len _ _ _ _ h)
 refine wpAny_call (pT (F.run X.A X.stack s H ⟨us,[]⟩ (us++pY) (vs++ju) Q E hr I.OE Sh r2 h) λr s' hq=>?_)
 cases r with
 | error e=>exact hx e s' hq
 | ok fl =>
  cases fl with
  | ret u=>exact I.after hq
  | next=>exact False.elim hq
  | brk=>exact False.elim hq
  | cont=>exact False.elim hq
def Vl(G:FnOk X.prog X.w X.K X.mg X.base (iA X.prog X.w) k f fd ps (tM X.K n g))(hr:c7 k X.A)(hb:cK X.K fd ps pY)(hd:Vals ju pY)(bd:∀F,aw X.K F ds ju):AA X f (λas=>iy n g (as++ds)):=by
 rintro aa H ae F st σ af s Q as us vs I R b r ⟨q,e1,e2⟩
 obtain⟨hl,e1⟩:=bU e1;obtain⟨⟨rs,h'⟩,e3,e4⟩:=aR e1;subst e4;obtain⟨C,full⟩:=R.c.enter;have b2:=b.append (bd F);cases rs with
 | ok p'=>exact o8 G hr hb hd (λe s' hx=>tm af σ H s e s' I hx) I r ⟨_,F,st.h,as++ds,_,h',C,full,b2,hl,e3,λv F' H' D b'=>e2 v H' F' ⟨R.c.leave D,R.l.mono D.base⟩ D.base b'⟩
 | ex m c=>exact thn (o8 (Q:=λ_ _=>False) G hr hb hd (λe s' hx=>e2 σ af H s e s' I hx) I r ⟨_,F,st.h,as++ds,_,h',C,full,b2,hl,e3,λcls F' H' D hc=>⟨hc,F',⟨R.c.leave D,R.l.mono D.base⟩,D.base⟩⟩) (by rintro v s3 ⟨_,_,_,_,z⟩;exact z.elim)
def Vm(G:FnOk X.prog X.w X.K X.mg X.base (iA X.prog X.w) k f fd ps (tM X.K n g))(hr:c7 k X.A)(hb:cK X.K fd ps pY)(hd:Vals ju pY)(bd:∀F,aw X.K F ds ju):AA X f (λas=>jE n g (as++ds)):=by
 rintro aa H ae F st σ af s Q as us vs I R b r ⟨q,e1,e2⟩
 obtain⟨⟨hl,hn⟩,e1⟩:=bU e1;obtain⟨⟨rs,h'⟩,e3,e4⟩:=aQ e1;have full:∀b o,H b=some o->H b=some o\/∃n:Nat,(Fz.mk F.F []).μ[n]?=some b:=by grind
 have b3:=tN R hn (b.append (bd F)) [];cases rs with
 | ok p' =>
  obtain⟨p2,e5,e6⟩:=aR e4;subst e6;refine o8 G hr hb hd (λe s' hx=>tm af σ H s e s' I hx) I r ⟨H,⟨F.F,[]⟩,[],as++ds,_,h',R.c.pure,full,b3,hl,e3,λv F' H' D b'=>?_⟩
  obtain⟨R3,g3⟩:=R.back (cA.refl _) D;exact e2 v H' _ R3 g3 (xN F.μ D e5 b')
 | ex m c =>
  cases e4;refine thn (o8 (Q:=λ_ _=>False) G hr hb hd (λe s' hx=>e2 σ af H s e s' I hx) I r ⟨H,⟨F.F,[]⟩,[],as++ds,_,h',R.c.pure,full,b3,hl,e3,λcls F' H' D hc=>?_⟩) (by rintro v s3 ⟨_,_,_,_,z⟩;exact z.elim)
  obtain⟨R3,g3⟩:=R.back (cA.refl _) D;exact⟨hc,_,R3,g3⟩
noncomputable def Lu(C:Str)(n:Nat)(g:jD)(as:List PV):Gx PV:=λst=>if as.length+1=n then(g (.ref st.h.length::as) (st.h++[⟨.ins C [],[]⟩])).bind λr=>match r with
 | (.ok .aP,h')=>some (.ok (.ref st.h.length),⟨st.ρ,h'⟩)
 | _=>none else none
def Vn(C:Str)(n:Nat)(g:jD)(ts:Gx (List PV)):Gx PV:=bnd ts (Lu C n g)
variable {C:Str} {Ca:Addr}
def Cp(hC:ClsAt X.K C (.ref Ca))(c:sO X.K Ca)(h:tE X aa ae (Vn C n g ts) σ H Q):BC Ca (tM X.K n g) [] E0 (tA X aa ae ts) σ H Q:=by
 obtain⟨F,st,R,h⟩:=h;refine⟨F,st,R,h.bnd λas vs F1 st1 H1 R1 g1 b1 h1 y dx hy hdx fZ=>?_⟩
 obtain⟨q,e1,e2⟩:=h1;obtain⟨hl,e1⟩:=bU e1;obtain⟨r,e3,e4⟩:=aQ e1;have hyd:cY H1 dx (.own y) y=none:=by rw[aM fZ.symm];exact hy
 have up:cA H1 (cY H1 dx (.own y)):=fK hdx;have R2:Rep X.K aa ae F1 st1 σ (cY H1 dx (.own y)):=R1.after (F':=F1) up (cA.refl _) rfl (R1.sub.trans up) λ_ _ z=>.inl z
 obtain⟨C2,g2,hm⟩:=R2.c.alloc (c:=⟨.ins C [],[]⟩) (o:=.ins Ca dx []) (vs:=[]) hyd ⟨Ca,dx,[],hC,c,(λ_ z=>nomatch z),ay,rfl,rfl⟩ .nil
 obtain⟨C3,full⟩:=C2.enter;have b2:aw X.K ⟨F1.F,F1.μ++[y]⟩ (.ref st1.h.length::as) (.ref y::vs):=.cons (dq.mpr ⟨y,hm,rfl⟩) (b1.mono g2)
 match r,e4 with
 | (.ok .aP,h'),e4 =>
  cases e4;exact⟨_,_,_,.ref st1.h.length::as,_,h',C3,full,by rw[dz];exact b2,by grind,e3,λv F' H' D b'=>⟨cV.mp b',e2 _ H' F' ⟨C2.leave D,(R2.l.mono g2).mono D.base⟩ (g2.trans D.base) (dq.mpr ⟨y,D.base.m _ _ hm,rfl⟩)⟩⟩
 | (.ok (.bl _),_),e4=>cases e4
 | (.ok (.int _),_),e4=>cases e4
 | (.ok (.str _),_),e4=>cases e4
 | (.ok (.ref _),_),e4=>cases e4
 | (.ok (.fn _),_),e4=>cases e4
 | (.ok (.nd _ _),_),e4=>cases e4
 | (.ex _ _,_),e4=>cases e4
end
def Hq{X:Cx}{aa:Hp}{ae:Fz}{C:Str}{Ca:Addr}{n:Nat}{g:jD}(hC:ClsAt X.K C (.ref Ca))(c:sO X.K Ca)(h:tE X aa ae (Vn C n g (cC [])) σ H Q):BC Ca (tM X.K n g) [] E0 OC σ H Q:=by
 have:=Cp hC c h;obtain⟨F,st,R,h1⟩:=this;exact Tx.cC h1 [] H F R (Gr.refl _) .nil
noncomputable def Vo(o:Expr)(env:Env):Sem Bool:=do
 let b <-importBound o env
 pure (b.getD true)
theorem tU{o:Expr}{m:Str}{eM cp:Pos}{args:List Expr}{env:Env}(hb:attributeBase o m env (eval o env)=eval o env)
  (hf:((backTo cp (starEach args env)).all (λx=>!x.1)&&(backToKw cp (keywordEach [] env)).all (λx=>x.1.isSome)&&decide (args.length+([]:List Keyword).length+(if([]:List Keyword).isEmpty then 0 else 1)<30))=true)
  (hl:(eM.endLine==cp.line)=true):eval (.Call (.Attribute o m eM) args [] cp) env=(do
   let ov <-eval o env
   standAt eM.atName
   let (f,first) <-holding [ov] (getMethod ov m (Vo o env))
   callWith cp f first (backTo cp (starEach args env)) (backToKw cp (keywordEach [] env))):=by
 rw[arm_eval_Call,hb];have e1:methodCallForm (args.length+([]:List Keyword).length) (backTo cp (starEach args env)) (backToKw cp (keywordEach [] env))=true:=by
  unfold methodCallForm;rw[aG]at hf ⊢;exact⟨hf.1,hf.2⟩
 have e2:methodCallPos true o env eM cp=pure cp:=by
  unfold methodCallPos;rw[hl];rfl
 unfold methodCall;simp only[e1,e2];unfold calleeOf;simp only[if_pos];rfl
theorem fM{α β:Type} [BEq α] [LawfulBEq α] {k:α} {v:β}:∀{l:List (α×β)},l.lookup k=some v->(k,v)∈l
 | [],h=>by cases h
 | (a,b)::l,h=>by
  rw[eN]at h;cases z:k==a with
  | true =>
   rw[z]at h;cases h;rw[aY z];exact dy
  | false =>
   rw[z]at h;exact cW _ (fM h)
def Lv(h:List ah)(p:PV)(m:Str):Option Str:=match da h p with
 | some (.ins C ns,_)=>if ns.contains m=true then none else some C
 | _=>none
abbrev Vp:=List ((Str×Str)×(Str×Nat))
noncomputable def tV(mt:Vp)(m:Str):List (Str×(Str×Nat)):=(mt.filter λd=>d.1.2==m).map λd=>(d.1.1,d.2)
def AJ(L:List (Str×(Str×Nat)))(m:Str)(p:PV)(h:List ah):Option (Str×Nat):=(Lv h p m).bind λC=>L.lookup C
theorem tW{mt:Vp}{m C:Str}{y:Str×Nat}(h:(tV mt m).lookup C=some y):((C,m),y)∈mt:=by
 obtain⟨d,hd,e⟩:=dR.mp (fM h);obtain⟨h1,h2⟩:=zC.mp hd;cases e;rw[<-aY h2];exact h1
def yb(L:List (Str×(Str×Nat)))(call:Str->jD)(m:Str)(fo:Gx PV)(ts:Gx (List PV)):Gx PV :=
 bnd fo λp=>bnd (hp (AJ L m p)) λq=>bnd ts λas=>iy q.2 (call q.1) (p::as)
def vQ(X:Cx)(mt:Vp)(call:Str->jD):Prop:=∀C m y,((C,m),y)∈mt->∃j f fd ps Ca,ClsAt X.K C (.ref Ca)/\ES X.K Ca m f/\FnOk X.prog X.w X.K X.mg X.base (iA X.prog X.w) j f fd ps (tM X.K y.2 (call y.1))/\c7 j X.A/\cK X.K fd ps []
section
variable {X:Cx} {aa:Hp} {ae:Fz} {e o:Expr} {es:List Expr} {ts:Gx (List PV)} {fo:Gx PV} {pos p eM cp:Pos} {m:Str} {mt:Vp} {call:Str->jD}
def Qi(hM:vQ X mt call)(ho:PE X o (tE X aa ae fo))(ha:PA X (e::es) (tA X aa ae ts))(hb:attributeBase o m X.env (eval o X.env)=eval o X.env)
  (hf:((backTo cp (starEach (e::es) X.env)).all (λx=>!x.1)&&(backToKw cp (keywordEach [] X.env)).all (λx=>x.1.isSome)&&decide ((e::es).length+([]:List Keyword).length+(if([]:List Keyword).isEmpty then 0 else 1)<30))=true)
  (hl:(eM.endLine==cp.line)=true) (rW:starEach (e::es) X.env=(false,eval e X.env)::starEach es X.env) (p8:(backTo cp (starEach es X.env)).any (·.1)=false) :
  PE X (.Call (.Attribute o m eM) (e::es) [] cp) (tE X aa ae (yb (tV mt m) call m fo ts)):=by
 rintro af s σ H Q I ⟨F,st,R,h⟩
 refine og ho I ⟨F,st,R,h.bnd λq v F1 st1 H1 R1 g1 b1 h1=>?_⟩ (tU hb hf hl)
 obtain⟨⟨key,n⟩,e1,z⟩:=At.hp (At.bnd h1);obtain⟨C,e2,e4⟩:=aQ e1;unfold Lv at e2;split at e2
 ·rename_i D ns ps hd;split at e2
  ·cases e2
  ·rename_i EA;cases e2;obtain⟨a,vs,rfl,⟨Ca,dx,fs,k1,k2,k3,k4,k5,k6⟩,k7⟩:=R1.at hd b1;obtain⟨j,f,fd,wQ,Cb,m1,m2,m3,m4,m5⟩:=hM _ _ _ (tW e4);have eC:Ca=Cb:=by
    have:=k1.symm.trans m1;cases this;rfl
   subst eC;refine⟨a,Ca,dx,fs,f,rfl,k4,k2,m2,?_,λs1 I1=>?_⟩
   ·cases hl:fs.lookup m with
    | none=>rfl
    | some w =>
     exact absurd (by rw[<-k5];simpa using zh (f:=λy:Str×V=>y.1) (fM hl)) EA
   ·have z:Tx X aa ae (bB X.K) F1 st1 (bnd ts λas=>iy n (call key) (q::as)) σ Q:=z
    refine W.callWith_K (first:=[.ref a]) (h₀:=X.base) I1.ok.mod.kin m2.kp (thn (ha cp af s1 σ H1 (λvs H2=>∃F2 dW as,Rep X.K aa ae F2 dW σ H2/\aw X.K F2 as vs/\Gr F1 F2/\Tx X aa ae (bB X.K) F2 dW (iy n (call key) (q::as)) σ Q) I1
     ⟨F1,st1,R1,z.bnd λas vs F2 dW H2 R2 g2 b2 h2=>⟨F2,dW,as,R2,b2,g2,h2⟩⟩) (by
      rintro us s2 ⟨ws,H2,I2,r,F2,dW,as,R2,b2,g2,z⟩
      exact⟨I2.ou,PU m3 m4 m5 _ _ _ _ _ _ _ _ _ (q::as) (.ref a::us) (.ref a::ws) I2 R2 (.cons (b1.mono g2) b2) (.cons rfl r) z⟩)) rW p8
 ·cases e2
def Lw(hM:vQ X mt call)(ho:PE X o (tE X aa ae fo))(hb:attributeBase o m X.env (eval o X.env)=eval o X.env)(hl:(eM.endLine==cp.line)=true) :
  PE X (.Call (.Attribute o m eM) [] [] cp) (tE X aa ae (yb (tV mt m) call m fo (cC []))):=by
 rintro af s σ H Q I ⟨F,st,R,h⟩
 refine og ho I ⟨F,st,R,h.bnd λq v F1 st1 H1 R1 g1 b1 h1=>?_⟩ (tU hb rfl hl)
 obtain⟨⟨key,n⟩,e1,z⟩:=At.hp (At.bnd h1);obtain⟨C,e2,e4⟩:=aQ e1;unfold Lv at e2;split at e2
 ·rename_i D ns ps hd;split at e2
  ·cases e2
  ·rename_i EA;cases e2;obtain⟨a,vs,rfl,⟨Ca,dx,fs,k1,k2,k3,k4,k5,k6⟩,k7⟩:=R1.at hd b1;obtain⟨j,f,fd,wQ,Cb,m1,m2,m3,m4,m5⟩:=hM _ _ _ (tW e4);have eC:Ca=Cb:=by
    have:=k1.symm.trans m1;cases this;rfl
   subst eC;refine⟨a,Ca,dx,fs,f,rfl,k4,k2,m2,?_,λs1 I1=>?_⟩
   ·cases hl:fs.lookup m with
    | none=>rfl
    | some w =>
     exact absurd (by rw[<-k5];simpa using zh (f:=λy:Str×V=>y.1) (fM hl)) EA
   ·have z:Tx X aa ae (bB X.K) F1 st1 (iy n (call key) [q]) σ Q:=At.cC (At.bnd z);exact W.callWith_K0 (first:=[.ref a]) I1.ou m2.kp (PU m3 m4 m5 _ _ _ _ _ _ _ _ _ [q] [.ref a] [.ref a] I1 R1 (.cons b1 .nil) (.cons rfl .nil) z)
 ·cases e2
end
def qO(f:Str)(p:PV)(h:List ah):Option (Str×PV):=match da h p with
 | some (.ins C ns,ps)=>(xP f ns ps).map λq=>(C,q)
 | _=>none
def qP(h:List ah)(p:PV)(C:Str):Bool:=match kf h p with
 | some (_,⟨.ins D _,_⟩)=>C==D
 | _=>false
def Hr(cls flds:List Str)(f:Str)(g:G2)(fo fv:Gx PV):Gx dw:=bnd fo λp=>bnd (hp (qO f p)) λx=>bnd fv λy=>bnd (hp λh=>g h x.2 y) λz=>stp λst=>if qP st.h p x.1=true then eG cls flds f p z st else none
section
variable {X:Cx} {aa:Hp} {ae:Fz} {e o:Expr} {fo fv:Gx PV} {pos qj:Pos} {f:Str} {g:G2} {op:Operator}
def Qj{cls flds:List Str}(hc:Cg X.K cls flds)(ho:PE X o (tE X aa ae fo))(he:PE X e (tE X aa ae fv))(hop:oY X (inplaceOp op) g):PS X (.AugAssign (.Attribute o f qj) op e pos) (tS X aa ae (Hr cls flds f g fo fv)) :=
 (DW (rd:=rT X.K g) ho he (λaf s σ H x y u v Q I r1 r2 t=>hop af s σ H x y u v Q I r1 r2 t)).imp λD σ H ⟨F,st,R,h⟩=>⟨F,st,R,h.bnd λpo v F1 st1 H1 R1 g1 b1 h1=>by
  obtain⟨r,e1,e2⟩:=At.bnd h1;obtain⟨q,e3,e4⟩:=aR e1;subst e4;have h2:Sa X aa ae F1 D st1 (bnd fv λy=>bnd (hp λh=>g h q.2 y) λz=>stp λst=>if qP st.h po q.1=true then eG cls flds f po z st else none):=e2
  unfold qO at e3;split at e3
  ·rename_i C ns ps hd;obtain⟨q',Hs,rfl⟩:=aR e3;obtain⟨a,vs,rfl,⟨Ca,dx,fs,k2,k3,k4,k5,k6,k7⟩,k8⟩:=R1.at hd b1;subst k6 k7;obtain⟨hm,w,hl,bw⟩:=qJ Hs k8;refine⟨a,Ca,dx,fs,w,rfl,k5,k3,k4 f hm,hl,F1,st1,R1,h2.bnd λpy y F2 dW H2 R2 g2 b2 h3=>?_⟩
   obtain⟨r,e5,e6⟩:=At.bnd h3;obtain⟨pz,e7,e8⟩:=aR e5;subst e8;have h4:Sa X aa ae F2 D dW (stp λst=>if qP st.h po C=true then eG cls flds f po pz st else none):=e6
   refine⟨aa,ae,F2,dW,σ,q',py,pz,e7,R2,bw.mono g2,b2,λz H3 F3 R3 g3 b3=>?_⟩
   obtain⟨st',e9,z9⟩:=h4.stp;obtain⟨hC,e9⟩:=bU e9;obtain⟨_,_,So,Mz,k1,m1,m2,m3,m4,m5,m6⟩:=sAt hc R3 b1 (g2.trans g3) b3 e9;cases k1
   unfold qP at hC;split at hC
   ·rename_i h;cases eq_of_beq hC;cases k2.symm.trans (m6 _ _ _ _ h rfl);exact⟨So,Mz,m1,Nat.le_add_left_of_le m4,z9 F3 σ _ m5 g3⟩
   ·cases hC
  ·cases e3⟩
end
noncomputable def qQ:MG:=λc as=>match c.k,as with
 | .lst,[]=>(c.ps[c.ps.length-1]?).map λp=>(⟨.lst,c.ps.dropLast⟩,p)
 | _,_=>none
section
variable {X:Cx} {aa:Hp} {ae:Fz} {e o:Expr} {fo fv:Gx PV} {eM iR:Pos}
theorem aw.dropLast{K:W.Frag}{F:Fz}{ps:List PV}{vs:List V}(h:aw K F ps vs):aw K F ps.dropLast vs.dropLast:=by
 rw[List.dropLast_eq_take,List.dropLast_eq_take,h.length];exact h.take _
def Ht:Gv X.K Nc qQ:=by
 intro aa H ae F st σ n c c' a as ws q Q R hc hl ha hg hb k;unfold qQ at hg;split at hg
 ·rename_i hk;obtain⟨p,e1,e2⟩:=aR hg;cases e2;obtain⟨_,vs,h2,h3⟩:=R.c.cell n c a hc ha hl;rw[hk]at h2;obtain⟨v,e3,b3⟩:=h3.get e1;exact⟨a,vs,v,rfl,hb.cH,h2,by rw[<-h3.length];exact e3,k v F _ (R.put hc hl ha ay h3.dropLast) (Gr.refl _) b3⟩
 ·cases hg
def Qk(ho:PE X o (tE X aa ae fo))(lS:attributeBase o "pop" X.env (eval o X.env)=eval o X.env)(lT:(eM.endLine==iR.line)=true) :
  PE X (.Call (.Attribute o "pop" eM) [] [] iR) (tE X aa ae (Jr "list" (fH qQ) fo (cC []))) :=
 (OM za PySem.F.slot_list_pop PySem.F.type_list_pop Ls ho lS lT).imp λ_ _ _ h=>K9 (GW Ht) h
end
noncomputable def DX(f:Gx dw):Gx dw:=λst=>match f st with
 | some (.ok x,st')=>some (.ok x,st')
 | _=>none
section
variable {X:Cx} {aa:Hp} {ae:Fz} {body:List Stmt} {hd:ExceptHandler} {hs:List ExceptHandler} {pos:Pos} {f:Gx dw}
def Vq(hb:PSs X.R8 body (tS X.R8 aa ae f)):PS X (.Try body (hd::hs) [] [] pos) (tS X aa ae (DX f)):=by
 rintro af s σ H D I ⟨F,st,R,r,e1,e2⟩
 unfold DX at e1;split at e1
 ·rename_i x st' hf;cases e1;refine wpAny_Try_except (ny (hb af s σ H D (I.sh _) ⟨F,st,R,_,hf,?_⟩) (λfl s1 h1=>?_) λ_ _ z=>False.elim z)
  ·cases x<;>exact e2
  ·have h1:=h1.jw;cases fl with
   | next=>exact pN h1
   | brk=>exact h1
   | cont=>exact h1
   | ret u=>exact h1
 ·cases e1
def vS(m n:Nat)(g:jD)(ds as:List PV):Gx PV:=λst=>if((m==0)&&(st.h.isEmpty || aj as))=true then jE n g (as++ds) st else iy n g (as++ds) st
variable {k n:Nat} {fa:Addr} {fd:FuncData} {ps:List Str} {g:jD} {ds:List PV} {ju:List V} {pY:List Value}
def Vr{m:Nat}(G:FnOk X.prog X.w X.K X.mg X.base (iA X.prog X.w) k fa fd ps (tM X.K n g))(hr:c7 k X.A)(hb:cK X.K fd ps pY)(hd:Vals ju pY)(bd:∀F,aw X.K F ds ju):AA X fa (vS m n g ds):=by
 rintro aa H ae F st σ af s Q as us vs I R b r ⟨q,e1,e2⟩
 unfold vS at e1;split at e1
 ·exact Vm G hr hb hd bd aa H ae F st σ af s Q as us vs I R b r ⟨q,e1,e2⟩
 ·exact Vl G hr hb hd bd aa H ae F st σ af s Q as us vs I R b r ⟨q,e1,e2⟩
end
structure Gm where
 sc:List (Str×NameKind)
 N:List Str
 own:Bool
 fns:List (Str×Nat)
 call:Str->jD
 cons:List (Str×PV)
 dB:List Str
 tabs:List (Str×List (Str×Str))
 eL:List (Str×List (Str×PV))
 cls:List (Str×Nat)
 make:Str->jD
 clss:List Str
 flds:List Str
 /-- what Ql in a cell: 1 a list,2 a list of cells,10 a dict Mt keys Xs tuples -/
 SJ:List (Str×Nat)
 DY:Option ((PV->Gx PV)->Nat->jD)
 DZ:Option (Nat×(PV->Gx PV))
 /-- Xe: class,name -> key,params -/
 Hu:Vp
 /-- what Ql Zt JA given args -/
 jv:List (Str×List PV)
 /-- classes without __init__ -/
 wW:List Str
noncomputable def slot(Γ:Gm)(x:Str):Option Nat:=Γ.N.findIdx? (· == x)
noncomputable def Sb(Γ:Gm)(x:Str):Bool:=match Γ.sc.lookup x with | some .local=>true | some .cell=>true | some .free=>true | _=>false
noncomputable def Sq(Γ:Gm)(x:Str):Bool:=match Γ.sc.lookup x with | some .local=>true | some .cell=>Γ.own | _=>false
noncomputable def vT(Γ:Gm)(x:Str):Bool:=match Γ.sc.lookup x with | some .globalImplicit=>true | _=>false
noncomputable def iT(x:Str):Bool:=!(x==("__debug__":Str))&&!(x==("__classdict__":Str))&&!(x==("__name__":Str))
noncomputable def md(Γ:Gm)(x:Str):Nat:=(Γ.SJ.lookup x).getD 0
noncomputable def D4(m:Nat):Nat:=if m<10 then m-1 else m-20
noncomputable def cpm(m:Nat):Bool:=m != 0&&Nat.blt m 20
def Nd(X:Cx)(fns:List (Str×Nat))(call:Str->jD)(jv:List (Str×List PV)):Prop:=∀x ds n,jv.lookup x=some ds->fns.lookup x=some n->∃j f fd ps ju pY,FnOk X.prog X.w X.K X.mg X.base (iA X.prog X.w) j f fd ps (tM X.K n (call x))/\c7 j X.A/\X.mg x=some (.ref f)/\W.keepIn X.K (.ref f)=true/\Vals ju pY/\(∀F,aw X.K F ds ju)/\cK X.K fd ps pY
def Vt(X:Cx)(k:Nat)(fns:List (Str×Nat))(call:Str->jD):Prop:=∀x n,fns.lookup x=some n->∃j f fd ps,j<=k/\FnOk X.prog X.w X.K X.mg X.base (iA X.prog X.w) j f fd ps (tM X.K n (call x))/\X.mg x=some (.ref f)/\W.keepIn X.K (.ref f)=true/\cK X.K fd ps []
structure Nf (Γ:Gm) (X:Cx) (rs:(PV->Gx PV)->Nat->jD):Prop where
 ex:∃(st:Stmt) (fs:Addr) (fds:FuncData) (pr Ns:List Str) (k:Nat) (rb:(PV->Gx PV)->Nat->Gx dw),rs=(λω n=>iI (rb ω n) Ns.length)/\Mu X.K "spread" "spread" st fs fds/\X.mg "spread"=some (.ref fs)/\cK X.K fds pr []/\cL Ns pr (ao st)/\pr.length=2/\c7 (k+2) X.A /\
  (∀(cU:Value) (A:Around) (ax:List Env) (s:Shared) (H:Hp) (E:XK) (aa:Hp) (ae:Fz) (n:Nat) (ω:PV->Gx PV),c7 (k+1) (A.deeper (envOfC "spread" (ao st) s.heap.objs.size fs cU))->G5 (eY (iA X.prog X.w) X.prog X.w X.K X.mg X.base Ns "spread" (ao st) fs cU A ax s H E) aa ae n ω ->
   PSs (eY (iA X.prog X.w) X.prog X.w X.K X.mg X.base Ns "spread" (ao st) fs cU A ax s H E) (cj st) (tS (eY (iA X.prog X.w) X.prog X.w X.K X.mg X.base Ns "spread" (ao st) fs cU A ax s H E) aa ae (rb ω n))) /\
  Vt X k Γ.fns Γ.call
 lam:U9 X
structure GOk (Γ:Gm) (X:Cx) (aa:Hp) (ae:Fz):Prop where
 names:X.env.scope.names=Γ.sc
 N:X.N=Γ.N
 nd:X.N.Nodup
 kind:X.env.scope.kind=.function
 calm:X.calm=true
 hd:X.A.handled=none
 un:X.A.units+1150<cLine
 own:Γ.own=true->∀x,X.fn x=true
 fns:M0 X Γ.fns Γ.call
 cons:∀x p,Γ.cons.lookup x=some p->∃u v,X.mg x=some u/\RelV v u/\∀F,bB X.K F p v
 dB:∀x,Γ.dB.contains x=true->X.mg x=none
 tabs:∀T rows,Γ.tabs.lookup T=some rows->Ce X.K X.mg X.w.params T rows
 eL:∀T rows,Γ.eL.lookup T=some rows->vI X.K X.mg X.w.params T rows
 ns:∀x a,W.nsIn X.K mainGlobals x=some (some (.ref a))->X.mg x=some (.ref a)
 Ng:Cg X.K Γ.clss Γ.flds
 cls:∀C n,Γ.cls.lookup C=some n->∃k Ca f fd ps,ClsAt X.K C (.ref Ca)/\sO X.K Ca/\Mk X.K Ca f/\FnOk X.prog X.w X.K X.mg X.base (iA X.prog X.w) k f fd ps (tM X.K n (Γ.make C))/\c7 (k+1) X.A/\X.mg C=some (.ref Ca)/\cK X.K fd ps []
 DY:∀rs,Γ.DY=some rs->Nf Γ X rs
 DZ:∀n ω,Γ.DZ=some (n,ω)->G5 X aa ae n ω
 Hu:vQ X Γ.Hu Γ.call
 jv:Nd X Γ.fns Γ.call Γ.jv
 wW:∀C,Γ.wW.contains C=true->∃Ca,ClsAt X.K C (.ref Ca)/\sO X.K Ca/\Xv X.K Ca/\X.mg C=some (.ref Ca)
def GOk.R8{Γ:Gm}{X:Cx}{aa:Hp}{ae:Fz}(G:GOk Γ X aa ae)(h:(Γ.DY.isNone&&Γ.DZ.isNone)=true):GOk Γ X.R8 aa ae :=
 ⟨G.names,G.N,G.nd,G.kind,G.calm,G.hd,G.un,G.own,G.fns,G.cons,G.dB,G.tabs,G.eL,G.ns,G.Ng,G.cls,(λrs e=>by rw[e]at h;cases h),(λn ω e=>by rw[e,Bool.and_comm]at h;cases h),G.Hu,G.jv,G.wW⟩
noncomputable def bt:Expr->Bool
 | .Starred _ _=>false
 | .Set _ _ _=>false
 | _=>true
noncomputable def o9:Expr->Bool
 | .Slice _ _ _ _=>false
 | _=>true
noncomputable def Cq:Expr->Bool
 | .Tuple _ _ _=>false
 | .ListComp _ _ _ _=>false
 | .SetComp _ _ _ _=>false
 | .DictComp _ _ _ _ _=>false
 | _=>true
noncomputable def jG:Expr->Bool
 | .ListComp _ _ _ _=>false
 | .SetComp _ _ _ _=>false
 | .DictComp _ _ _ _ _=>false
 | _=>true
noncomputable def vU:Expr->Bool
 | .Name _ _=>true
 | .Subscript _ _ _=>true
 | .Attribute _ _ _=>true
 | .Call _ (_::_) _ _=>true
 | _=>false
def j4(h:vU e=true):attributeBase e f env (eval e env)=eval e env:=by
 cases e with
 | Call f as ks=>cases as with
  | nil=>cases h
  | cons=>cases f<;>rfl
 | _=>first | rfl | cases h
def vV(h:Cq e=true):jG e=true:=by
 cases e<;>first | rfl | cases h
noncomputable def AK:Expr->Bool
 | .UnaryOp .Not _ _=>false
 | .BoolOp _ _ _=>false
 | .IfExp _ _ _ _=>false
 | .Compare _ _ _ _=>false
 | _=>true
def bM(h:bt e=true)(es:List Expr)(env:Env):starEach (e::es) env=(false,eval e env)::starEach es env:=by
 cases e<;>first | rfl | cases h
def hJ(h:bt e=true)(op:CmpOp):behindInMarks op e=false:=by
 cases e<;>first | rfl | cases h
def gM(h:bt e=true)(env:Env)(x:Value):foldedSetIterable e env x=pure x:=by
 cases e<;>first | rfl | cases h
def qR(h:o9 e=true):lQ e:=by
 intro o i;cases e<;>first | rfl | cases h
def Hv(h:AK e=true)(env:Env)(i6:Sem Value):isTrue e env i6=(do let v <-i6;standAt e.pos;holding [v] (truthy v)):=by
 cases e with
 | UnaryOp op a p=>cases op<;>first | rfl | cases h
 | BoolOp _ _ _=>cases h
 | IfExp _ _ _ _=>cases h
 | Compare _ _ _ _=>cases h
 | _=>rfl
def jH(h:jG e=true)(t:Option Expr)(l:Nat)(env:Env):swapsWith e t l env=pure false:=by
 cases e<;>first | rfl | cases h
def hZ(h:es.all bt=true)(env:Env)(pos:Pos):(backTo pos (starEach es env)).any (·.1)=false:=by
 induction es with
 | nil=>rfl
 | cons e es ih =>
  rw[jr,aG]at h;rw[bM h.1];exact ih h.2
def AL(h:es.all bt=true)(env:Env)(pos:Pos):(backTo pos (starEach es env)).all (λx=>!x.1)=true:=by
 induction es with
 | nil=>rfl
 | cons e es ih =>
  rw[jr,aG]at h;rw[bM h.1];exact ih h.2
def Cr(h:es.all bt=true)(hl:es.length<30):((backTo cp (starEach es env)).all (λx=>!x.1)&&(backToKw cp (keywordEach [] env)).all (λx=>x.1.isSome)
   && decide (es.length+([]:List Keyword).length+(if([]:List Keyword).isEmpty then 0 else 1)<30))=true:=by
 rw[AL h];simp only[nc,aG,uM];exact⟨rfl,hl⟩
def gN(h:iT x=true):(x==("__debug__":Str))=false/\(x==("__classdict__":Str))=false/\x≠"__name__":=by
 unfold iT at h;simp only[aG,zm]at h;exact⟨h.1.1,h.1.2,by simpa using h.2⟩
noncomputable def vW:Nat->Gm->Expr->Option (Tg×List Nat)
 | 0,_,_=>none
 | n+1,Γ,e=>match e with
  | .Name x _=>if Sq Γ x=true then(slot Γ x).map λi=>(cS i,[i])else none
  | .Tuple es _ _=>(es.foldr (λe r=>(vW n Γ e).bind λg=>r.map λgs=>(qz g.1 gs.1,g.2++gs.2)) (some (DA,[]))).map λgs=>(Ak es.length gs.1,gs.2)
  | _=>none
def Hw(h:slot Γ x=some i):Γ.N[i]?=some x:=by
 unfold slot at h;obtain⟨hi,hp,_⟩:=List.findIdx?_eq_some_iff_getElem.mp h;rw[eu hi];exact gA some (aY hp)
section
variable {Γ:Gm} {X:Cx} {x:Str} {pos:Pos} {aa:Hp} {ae:Fz}
def GOk.Zu(G:GOk Γ X aa ae)(h:Sb Γ x=true):SW X.env.scope x:=by
 unfold Sb at h;unfold SW;rw[G.names];split at h<;>simp_all
def GOk.Qm(G:GOk Γ X aa ae)(h:Sq Γ x=true):MA X.env.scope x/\(X.fn x=true\/X.env.scope.names.lookup x=some .local):=by
 unfold Sq at h;unfold MA;rw[G.names];split at h
 ·grind
 ·rename_i z;exact⟨.inr z,.inl (G.own h x)⟩
 ·cases h
def GOk.kj(G:GOk Γ X aa ae)(h:vT Γ x=true):Gl X x:=by
 unfold vT at h;show X.env.scope.names.lookup x=_;rw[G.names];split at h
 ·assumption
 ·cases h
def GOk.tY(G:GOk Γ X aa ae)(h:slot Γ x=some i):X.N[i]?=some x:=by
 rw[G.N];exact Hw h
theorem mq(G:GOk Γ X aa ae):∀(n:Nat) (e:Expr) (g:Tg×List Nat),vW n Γ e=some g->PG X e (tG X.K aa ae g.1)/\KG g.2 g.1/\(∀env:Env,(assignEach [e] env).map (·.2)=[assign e env])/\∀(es:List Expr) (env:Env),assignEach (e::es) env=(false,assign e env)::assignEach es env
 | 0,_,_,h=>by cases h
 | n+1,e,g,h=>by
  cases e with
  | Name x p =>
   have h:=h;obtain⟨hs,h⟩:=bU h;obtain⟨i,z,rfl⟩:=aR h;obtain⟨h1,h2⟩:=G.Qm hs;exact⟨O4 i (JV G.nd (G.tY z) h1 h2),KW i,λ_=>rfl,λ_ _=>rfl⟩
  | Tuple es k p =>
   have all:∀es gs,es.foldr (λe r=>(vW n Γ e).bind λg=>r.map λgs=>(qz g.1 gs.1,g.2++gs.2)) (some (DA,[]))=some gs ->
     PGs X es (Ul X.K aa ae gs.1)/\UI gs.2 gs.1/\∀env:Env,(assignEach es env).length=es.length/\(assignEach es env).findIdx? (·.1)=none:=by
    intro es;induction es with
    | nil =>
     intro gs h;cases h;exact⟨O5,KY,λenv=>⟨rfl,rfl⟩⟩
    | cons e es ih =>
     intro gs h;rw[List.foldr_cons]at h;obtain⟨g1,e1,h⟩:=aQ h;obtain⟨g2,z,rfl⟩:=aR h;obtain⟨a1,a2,a3,a4⟩:=mq G n e g1 e1;obtain⟨b1,b2,b3⟩:=ih g2 z;refine⟨Ku a1 b1 (by grind),GB a2 b2,λenv=>?_⟩
     rw[a4];obtain⟨c1,c2⟩:=b3 env;exact⟨by rw[cz,cz,c1],by grind⟩
   have h:=h;obtain⟨gs,z,rfl⟩:=aR h;obtain⟨b1,b2,b3⟩:=all es gs z;exact⟨Um G.calm b1 (b3 _).1 (b3 _).2,Py b2,λ_=>rfl,λ_ _=>rfl⟩
  | _=>cases h
def D5(G:GOk Γ X aa ae)(hn:iT x=true)(hv:Sb Γ x=true)(hs:slot Γ x=some i):PE X (.Name x pos) (N1 i) :=
 pe_var (G.tY hs) (G.Zu hv) (gN hn).1 (gN hn).2.1
end
def vX(x:Str):Option GC :=
 if x==("len":Str)then some fE
 else if x==("tuple":Str)then some xB
 else if x==("int":Str)then some Gi
 else if x==("sum":Str)then some KJ
 else if x==("str":Str)then some KI
 else none
def Hx:bootBuiltins "sum"=some (.builtin "sum"):=by kernel_rfl
set_option maxHeartbeats 4000000 in
theorem Qn(h:vX x=some g)(hh:X.A.handled=none)(hg:Gl X x)(hm:X.mg x=none)(ha:PA X (a::es) (tA X aa ae ts))
  (he:starEach (a::es) X.env=(false,eval a X.env)::starEach es X.env) (p8:(backTo pos (starEach es X.env)).any (·.1)=false):PE X (.Call (.Name x p) (a::es) [] pos) (tE X aa ae (KH g ts)):=by
 unfold vX at h;split at h
 ·rename_i e;cases h;have e:=aY e;subst e;exact(qm DB hg hm PySem.boot_len ha (by decide) (by decide) he p8).imp λ_ _ _ h=>l8 h
 ·split at h
  ·rename_i e;cases h;have e:=aY e;subst e;exact(nC DC hg hm (l9 .tuple) ha (by decide) (by decide) he p8).imp λ_ _ _ h=>l8 h
  ·split at h
   ·rename_i e;cases h;have e:=aY e;subst e;exact(nC DD hg hm (l9 .int) ha (by decide) (by decide) he p8).imp λ_ _ _ h=>l8 h
   ·split at h
    ·rename_i e;cases h;have e:=aY e;subst e;exact(qm (DF hh) hg hm Hx ha (by decide) (by decide) he p8).imp λ_ _ _ h=>l8 h
    ·split at h
     ·rename_i e;cases h;have e:=aY e;subst e;exact(nC DE hg hm (l9 .str) ha (by decide) (by decide) he p8).imp λ_ _ _ h=>l8 h
     ·cases h
noncomputable def Hy:ScopeKind->Bool
 | .function=>true
 | _=>false
noncomputable def tZ(scope:Scope):List Str:=(scope.names.filter λy=>match y.2 with | .local=>true | .free=>true | _=>false).map (·.1)
def gO(Γ:Gm)(scope:Scope):List (Option Nat):=(tZ scope).map λx=>match scope.names.lookup x with | some .free=>slot Γ x | _=>none
noncomputable def AM(Γ:Gm)(scope:Scope):List (Str×NameKind):=scope.names.map fun(n,k)=>if(k==NameKind.free&&Γ.sc.lookup n==some .cell)then(n,NameKind.cell)else(n,k)
def t8(Γ:Gm)(scope:Scope):Gm:={Γ with sc:=AM Γ scope,N:=tZ scope,own:=false,DY:=none,DZ:=none}
def qS(Γ:Gm)(scope:Scope)(L:List Nat):Bool :=
 Hy scope.kind&&scope.names.all (λy=>match y.2 with
  | .cell=>false
  | .local=>(match scope.names.lookup y.1 with | some .local=>true | _=>false)
  | .free=>(match Γ.sc.lookup y.1 with | some .cell=>true | some .free=>true | _=>false)
  | _=>true)&&decide (tZ scope).Nodup&&L.all λi=>match(gO Γ scope)[i]? with | some none=>true | _=>false
section
variable {Γ:Gm} {X:Cx} {scope:Scope} {L:List Nat} {aa:Hp} {ae:Fz}
def mr(h:qS Γ scope L=true):scope.kind=.function/\(∀y∈scope.names,(match y.2 with
  | .cell=>false
  | .local=>(match scope.names.lookup y.1 with | some .local=>true | _=>false)
  | .free=>(match Γ.sc.lookup y.1 with | some .cell=>true | some .free=>true | _=>false)
  | _=>true)=true)/\(tZ scope).Nodup/\∀i∈L,(gO Γ scope)[i]?=some none:=by
 unfold qS at h;simp only[aG,fA,uM]at h;obtain⟨⟨⟨h1,h2⟩,h3⟩,h4⟩:=h;refine⟨?_,h2,h3,λi hi=>?_⟩
 ·unfold Hy at h1;split at h1
  ·assumption
  ·cases h1
 ·grind
def AN(G:GOk Γ X aa ae)(h:qS Γ scope L=true):iG X (tZ scope) (gO Γ scope) scope:=by
 obtain⟨h1,h2,h3,h4⟩:=mr h;refine⟨h1,λy hy z=>?_,λy hy z=>?_,λy hy z=>?_,by unfold gO;rw[aN],λi j x hl hx=>?_⟩
 ·grind
 ·grind
 ·have:=h2 y hy;rw[z]at this;simp only at this;show X.env.scope.names.lookup y.1=_\/X.env.scope.names.lookup y.1=_;rw[G.names];split at this
  ·grind
  ·grind
  ·cases this
 ·unfold gO at hl;rw[bK,hx]at hl;have hl:(match scope.names.lookup x with | some .free=>slot Γ x | _=>none)=some j:=by grind
  split at hl
  ·exact⟨G.tY hl,by assumption⟩
  ·cases hl
def Hz(G:GOk Γ X aa ae)(h:qS Γ scope L=true)(C:Addr)(s:Shared)(H:Hp)(fp:List Addr)(Zv:Hp)(Zw:Fz):GOk (t8 Γ scope) (cy X (tZ scope) scope C s H fp) Zv Zw where
 names:=by
  show(relabel scope X.env).names=AM Γ scope;have e:∀n,X.env.kindOf n=Γ.sc.lookup n:=λn=>by show X.env.scope.names.lookup n=_;rw[G.names]
  unfold AM relabel;simp only[G.kind,e]
  congr 1
  funext y
  obtain⟨n,k⟩:=y;simp
 N:=rfl
 nd:=(mr h).2.2.1
 kind:=by
  exact(mr h).1
 calm:=G.calm
 hd:=G.hd
 un:=G.un
 own:=λz=>by cases z
 fns:=G.fns
 cons:=G.cons
 dB:=G.dB
 tabs:=G.tabs
 eL:=G.eL
 ns:=G.ns
 Ng:=G.Ng
 cls:=G.cls
 DY:=λ_ z=>by cases z
 DZ:=λ_ _ z=>by cases z
 Hu:=G.Hu
 jv:=G.jv
 wW:=G.wW
end
noncomputable def cw{α:Type}:Gx α:=λ_=>none
section
variable {X:Cx} {aa:Hp} {ae:Fz} {e:Expr} {es:List Expr}
def t9{C:Prop}(h:tX X aa ae rl cw σ H Q):C:=by
 obtain⟨F,st,R,r,z,_⟩:=h;cases z
def aZ:PE X e (tE X aa ae cw):=λ_ _ _ _ _ _ h=>t9 h
def ua:PT X e (tT X aa ae cw):=λ_ _ _ _ _ _ h=>t9 h
def HA:PW X e (tT X aa ae cw):=λ_ _ _ _ _ _ _ h=>t9 h
def Nh:PA X es (tA X aa ae cw):=λ_ _ _ _ _ _ _ h=>t9 h
def Ni{tg:Expr}:PI X tg e (EC X aa ae cw):=λ_ _ _ _ _ _ h=>t9 h
end
def mv(m n:Nat)(g:jD)(as:List PV):Gx PV:=λst=>if((m==0)&&(st.h.isEmpty || aj as))=true then jE n g as st else iy n g as st
def Zx(G:FnOk X.prog X.w X.K X.mg X.base (iA X.prog X.w) k f fd ps (tM X.K n g))(hr:c7 k X.A)(hb:cK X.K fd ps []):AA X f (mv m n g):=by
 rintro aa H ae F st σ af s Q as us vs I R b r ⟨q,e1,e2⟩
 unfold mv at e1;split at e1
 ·exact UY G hr hb aa H ae F st σ af s Q as us vs I R b r ⟨q,e1,e2⟩
 ·exact PU G hr hb aa H ae F st σ af s Q as us vs I R b r ⟨q,e1,e2⟩
def Vu(Γ:Gm):Expr->Nat
 | .Name x _=>D4 (md Γ x)
 | .Attribute _ f _=>D4 (md Γ f)
 | _=>0
def Zy(Γ:Gm)(g:Str)(o:Expr):Nat:=if g==("get":Str)then 0 else Vu Γ o
noncomputable def vY(e:Expr):Option {x:Option Expr×Option Expr // ∃p,e=.Slice x.1 x.2 none p}:=match e with
 | .Slice lo hi none p=>some ⟨(lo,hi),p,rfl⟩
 | _=>none
noncomputable def AO(e:Expr):Option {x:Option Expr×Expr // ∃p,e=.Slice x.1 none (some x.2) p}:=match e with
 | .Slice lo none (some m) p=>some ⟨(lo,m),p,rfl⟩
 | _=>none
def Zz:Const->Gx PV
 | .int i=>cC (.int i)
 | .bool i=>cC (.bl i)
 | .none=>cC .aP
 | .str i=>cC (.str i)
 | _=>cw
def Qo(Γ:Gm)(x:Str):Gx PV:=if iT x=true then(if Sb Γ x=true then(match slot Γ x with | some i=>rd i | none=>cw)else if vT Γ x=true then(match Γ.cons.lookup x with | some p=>cC p | none=>cw)else cw)else cw
noncomputable def AQ(a:Expr):Option {x:Str×Expr×List Expr // ∃p q,a=.Call (.Name x.1 p) (x.2.1::x.2.2) [] q}:=match a with
 | .Call (.Name z p) (b::bs) [] q=>some ⟨(z,b,bs),p,q,rfl⟩
 | _=>none
def kC(Γ:Gm)(x:Str):Bool:=vT Γ x&&Γ.dB.contains x
mutual
noncomputable def bj:Nat->Gm->Nat->Expr->Gx PV
 | 0,_,_,_=>cw
 | n+1,Γ,m,e=>match e with
  | .Constant c _ _=>Zz c
  | .Name x _=>Qo Γ x
  | .BinOp a op b _=>(match Lq op with | some g=>op2 g (bj n Γ 0 a) (bj n Γ 0 b) | none=>cw)
  | .UnaryOp .Not a _=>OR (bj n Γ 0 a)
  | .UnaryOp .USub a _=>Pm (bj n Γ 0 a)
  | .BoolOp op vs _=>HB n Γ op vs
  | .Compare a ops bs _=>Qp n Γ a ops bs
  | .IfExp c a b _=>oB (sy n Γ c) (bj n Γ m a) (bj n Γ m b)
  | .Tuple es _ _=>OT .ak (kl n Γ m es)
  | .List es _=>(match m with | 0=>OT .lst (kl n Γ 0 es) | _=>Dz (kl n Γ (D4 m) es))
  | .Dict [] [] _=>PZ (m==10)
  | .Subscript a b _=>Qq n Γ a b
  | .ListComp elt gens scope _=>Qr n Γ m elt gens scope
  | .Attribute o f _=>if vU o=true then Lb f (bj n Γ 0 o)else cw
  | .Call f (a::es) [] cp=>if(a::es).all bt=true then Qs n Γ m f a es cp else cw
  | .Call (.Attribute o f ap) [] [] cp=>if(vU o&&(ap.endLine==cp.line))=true then(if f==("pop":Str)then Jr "list" (fH qQ) (bj n Γ 0 o) (cC [])else match GX f with | some w=>Jr w.1 w.2 (bj n Γ 0 o) (cC []) | none=>yb (tV Γ.Hu f) Γ.call f (bj n Γ 0 o) (cC []))else cw
  | .Call (.Name C _) [] [] _=>if(iT C&&vT Γ C)=true then(match Γ.cls.lookup C with | some k=>Vn C k (Γ.make C) (cC []) | none=>cw)else cw
  | _=>cw
termination_by structural n=>n
noncomputable def Qs:Nat->Gm->Nat->Expr->Expr->List Expr->Pos->Gx PV
 | 0,_,_,_,_,_,_=>cw
 | n+1,Γ,m,f,a,es,cp=>match f with
  | .Name x _=>if iT x=true then(if vT Γ x=true then Qt n Γ m x a es else cw)else cw
  | .Subscript v k p=>Cf Γ.fns Γ.call (bj n Γ 0 (.Subscript v k p)) (kl n Γ 0 (a::es))
  | .Attribute o g ap=>if(vU o&&(ap.endLine==cp.line)&&decide ((a::es).length<30))=true then(match xO g with | some w=>Jr w.1 w.2 (bj n Γ 0 o) (kl n Γ (Zy Γ g o) (a::es)) | none=>yb (tV Γ.Hu g) Γ.call g (bj n Γ 0 o) (kl n Γ 0 (a::es)))else cw
  | _=>cw
termination_by structural n=>n
noncomputable def Qt:Nat->Gm->Nat->Str->Expr->List Expr->Gx PV
 | 0,_,_,_,_,_=>cw
 | n+1,Γ,m,x,a,es=>if x==("spread":Str)then HC n Γ a es else match Γ.fns.lookup x with
  | some k=>if(a::es).length==k then bnd (kl n Γ 0 (a::es)) (mv m k (Γ.call x))else(match Γ.jv.lookup x with | some ds=>bnd (kl n Γ 0 (a::es)) (vS m k (Γ.call x) ds) | none=>cw)
  | none=>match Γ.cls.lookup x with
   | some k=>(match m with | 0=>cw | _=>Vn x k (Γ.make x) (kl n Γ 0 (a::es)))
   | none=>if Γ.dB.contains x=true then(if x==("isinstance":Str)then HE n Γ a es else if x==("sorted":Str)then HF n Γ a es else if x==("dict":Str)then Qu n Γ a es else if x==("list":Str)then HG n Γ m a es else match vX x with | some g=>KH g (kl n Γ 0 (a::es)) | none=>cw)else cw
termination_by structural n=>n
noncomputable def HC:Nat->Gm->Expr->List Expr->Gx PV
 | 0,_,_,_=>cw
 | n+1,Γ,a,es=>cw
termination_by structural n=>n
noncomputable def HG:Nat->Gm->Nat->Expr->List Expr->Gx PV
 | 0,_,_,_,_=>cw
 | n+1,Γ,m,a,es=>match es with
  | []=>(match AQ a with
   | some ⟨zs,_⟩=>(match zs.2.2 with
    | [b]=>if(zs.1==("zip":Str)&&kC Γ zs.1&&bt zs.2.1&&bt b)=true then Qa m (bj n Γ 0 zs.2.1) (bj n Γ 0 b)else cw
    | _=>cw)
   | none=>cw)
  | _=>cw
termination_by structural n=>n
noncomputable def Qu:Nat->Gm->Expr->List Expr->Gx PV
 | 0,_,_,_=>cw
 | n+1,Γ,a,es=>match es with
  | []=>Lh (bj n Γ 0 a)
  | _=>cw
termination_by structural n=>n
noncomputable def HF:Nat->Gm->Expr->List Expr->Gx PV
 | 0,_,_,_=>cw
 | n+1,Γ,a,es=>cw
termination_by structural n=>n
noncomputable def HE:Nat->Gm->Expr->List Expr->Gx PV
 | 0,_,_,_=>cw
 | n+1,Γ,a,es=>match es with
  | [.Name t _]=>if kC Γ t=true then(match BQ t with | some g=>WU g (bj n Γ 0 a) | none=>cw)else cw
  | _=>cw
termination_by structural n=>n
noncomputable def Qp:Nat->Gm->Expr->List CmpOp->List Expr->Gx PV
 | 0,_,_,_,_=>cw
 | n+1,Γ,a,ops,bs=>match ops,bs with
  | [op],[b]=>if bt b=true then(match Ap op with | some g=>op2 g (bj n Γ 0 a) (bj n Γ 0 b) | none=>cw)else cw
  | [op,wO],[b,c]=>if bt c=true then(match Ap op,Ap wO with | some g,some g'=>chain g g' (bj n Γ 0 a) (bj n Γ 0 b) (bj n Γ 0 c) | _,_=>cw)else cw
  | _,_=>cw
termination_by structural n=>n
noncomputable def Qq:Nat->Gm->Expr->Expr->Gx PV
 | 0,_,_,_=>cw
 | n+1,Γ,a,b=>match vY b with
  | some ⟨lh,_⟩=>cutE (bj n Γ 0 a) (D6 n Γ lh.1) (D6 n Γ lh.2)
  | none=>match AO b with
  | some ⟨lm,_⟩=>Pn (bj n Γ 0 a) (D6 n Γ lm.1) (D6 n Γ (some lm.2))
  | none=>if o9 b=true then(match a with
   | .Name T p=>if(iT T&&vT Γ T)=true then(match Γ.eL.lookup T with
    | some rows=>DQ (λk=>rows.lookup k) (bj n Γ 0 b)
    | none=>match Γ.tabs.lookup T with
     | some rows=>DQ (λk=>(rows.lookup k).map .fn) (bj n Γ 0 b)
     | none=>op2 aJ (bj n Γ 0 (.Name T p)) (bj n Γ 0 b))else op2 aJ (bj n Γ 0 (.Name T p)) (bj n Γ 0 b)
   | a=>op2 aJ (bj n Γ 0 a) (bj n Γ 0 b))else cw
termination_by structural n=>n
noncomputable def sy:Nat->Gm->Expr->Gx Bool
 | 0,_,_=>cw
 | n+1,Γ,e=>match e with
  | .UnaryOp .Not a _=>Kr (sy n Γ a)
  | .BoolOp op vs _=>HH n Γ op vs
  | .Compare a [op] [b] _=>if bt b=true then(match Ap op with | some g=>toB (op2 g (bj n Γ 0 a) (bj n Γ 0 b)) | none=>cw)else cw
  | .Compare a [op,wO] [b,c] _=>if bt c=true then(match Ap op,Ap wO with | some g,some g'=>toB (chain g g' (bj n Γ 0 a) (bj n Γ 0 b) (bj n Γ 0 c)) | _,_=>cw)else cw
  | e=>if AK e=true then sk (bj n Γ 0 e)else cw
termination_by structural n=>n
noncomputable def HB:Nat->Gm->BoolOp->List Expr->Gx PV
 | 0,_,_,_=>cw
 | n+1,Γ,op,[a]=>bj n Γ 0 a
 | n+1,Γ,.And,a::b::r=>OQ (bj n Γ 0 a) (HB n Γ .And (b::r))
 | n+1,Γ,.Or,a::b::r=>WS (bj n Γ 0 a) (HB n Γ .Or (b::r))
 | _,_,_,_=>cw
termination_by structural n=>n
noncomputable def HH:Nat->Gm->BoolOp->List Expr->Gx Bool
 | 0,_,_,_=>cw
 | n+1,Γ,op,[a]=>sy n Γ a
 | n+1,Γ,.And,a::b::r=>oB (sy n Γ a) (HH n Γ .And (b::r)) (cC false)
 | n+1,Γ,.Or,a::b::r=>oB (sy n Γ a) (cC true) (HH n Γ .Or (b::r))
 | _,_,_,_=>cw
termination_by structural n=>n
noncomputable def kl:Nat->Gm->Nat->List Expr->Gx (List PV)
 | 0,_,_,_=>cw
 | n+1,Γ,m,[]=>cC []
 | n+1,Γ,m,e::es=>if bt e=true then i7 (bj n Γ m e) (kl n Γ m es)else cw
termination_by structural n=>n
noncomputable def D6:Nat->Gm->Option Expr->Gx (Option Int)
 | 0,_,_=>cw
 | n+1,Γ,none=>cC none
 | n+1,Γ,some e=>Gg (bj n Γ 0 e)
termination_by structural n=>n
noncomputable def HI:Nat->Gm->Expr->Expr->Gx B3
 | 0,_,_,_=>cw
 | n+1,Γ,tg,e=>match e with
  | .Call (.Name x p) [a] [] cp=>if(x==("range":Str)&&kC Γ x&&bt a)=true then Sl (PF oI (kl n Γ 0 [a]))
    else if(x==("enumerate":Str)&&kC Γ x&&bt a&&BY tg)=true then Sl (BZ (bj n Γ 0 a))
    else Ax (bj n Γ 0 (.Call (.Name x p) [a] [] cp))
  | .Call (.Name x p) [a,b] [] cp=>if(x==("zip":Str)&&kC Γ x&&bt a&&bt b&&BY tg)=true then Sl (Qh (bj n Γ 0 a) (bj n Γ 0 b))
    else Ax (bj n Γ 0 (.Call (.Name x p) [a,b] [] cp))
  | e=>if bt e=true then Ax (bj n Γ 0 e)else cw
termination_by structural n=>n
noncomputable def Qr:Nat->Gm->Nat->Expr->List Comprehension->Scope->Gx PV
 | 0,_,_,_,_,_=>cw
 | n+1,Γ,m,elt,gens,scope=>match gens with
  | [⟨tg,iter,ifs,0⟩]=>if bt iter=true then(match vW n (t8 Γ scope) tg with
   | some g=>if qS Γ scope g.2=true then(match ifs with
    | []=>jC (cpm m) (gO Γ scope) (HI n Γ tg iter) (oG g.1 (bj n (t8 Γ scope) (D4 m) elt))
    | [c]=>jC (cpm m) (gO Γ scope) (HI n Γ tg iter) (xG g.1 (sy n (t8 Γ scope) c) (bj n (t8 Γ scope) (D4 m) elt))
    | _=>cw)else cw
   | none=>cw)else cw
  | _=>cw
termination_by structural n=>n
end
def CC(X:Cx)(aa:Hp)(ae:Fz)(elt:Expr)(gens:List Comprehension)(scope:Scope)(p:Pos)(f:Gx PV):Prop:=PE X (.ListComp elt gens scope p) (tE X aa ae f) /\
  ∀i x p' sp,X.N[i]?=some x->X.env.scope.names.lookup x=some .local->swapsWith (.ListComp elt gens scope p) (some (.Name x p')) sp.line X.env=pure true ->
   PS X (.Assign [.Name x p'] (.ListComp elt gens scope p) sp) (tS X aa ae (lW f (cS i)))
structure ZA (n:Nat):Prop where
 e:∀Γ X aa ae m e,GOk Γ X aa ae->PE X e (tE X aa ae (bj n Γ m e))
 f:∀Γ X aa ae m f a es cp,GOk Γ X aa ae->(a::es).all bt=true->PE X (.Call f (a::es) [] cp) (tE X aa ae (Qs n Γ m f a es cp))
 cn:∀Γ X aa ae m x a es p cp,GOk Γ X aa ae->(a::es).all bt=true->iT x=true->vT Γ x=true->PE X (.Call (.Name x p) (a::es) [] cp) (tE X aa ae (Qt n Γ m x a es))
 sp:∀Γ X aa ae a es p cp,GOk Γ X aa ae->(a::es).all bt=true->vT Γ "spread"=true->PE X (.Call (.Name "spread" p) (a::es) [] cp) (tE X aa ae (HC n Γ a es))
 st:∀Γ X aa ae a es p cp,GOk Γ X aa ae->(a::es).all bt=true->vT Γ "sorted"=true->Γ.dB.contains "sorted"=true->PE X (.Call (.Name "sorted" p) (a::es) [] cp) (tE X aa ae (HF n Γ a es))
 d:∀Γ X aa ae a es p cp,GOk Γ X aa ae->(a::es).all bt=true->vT Γ "dict"=true->Γ.dB.contains "dict"=true->PE X (.Call (.Name "dict" p) (a::es) [] cp) (tE X aa ae (Qu n Γ a es))
 li:∀Γ X aa ae m a es p cp,GOk Γ X aa ae->(a::es).all bt=true->vT Γ "list"=true->Γ.dB.contains "list"=true->PE X (.Call (.Name "list" p) (a::es) [] cp) (tE X aa ae (HG n Γ m a es))
 is:∀Γ X aa ae a es p cp,GOk Γ X aa ae->(a::es).all bt=true->vT Γ "isinstance"=true->Γ.dB.contains "isinstance"=true->PE X (.Call (.Name "isinstance" p) (a::es) [] cp) (tE X aa ae (HE n Γ a es))
 k:∀Γ X aa ae a ops bs p,GOk Γ X aa ae->PE X (.Compare a ops bs p) (tE X aa ae (Qp n Γ a ops bs))
 x:∀Γ X aa ae a b p,GOk Γ X aa ae->PE X (.Subscript a b p) (tE X aa ae (Qq n Γ a b))
 t:∀Γ X aa ae e,GOk Γ X aa ae->PT X e (tT X aa ae (sy n Γ e))
 b:∀Γ X aa ae op vs p,GOk Γ X aa ae->PE X (.BoolOp op vs p) (tE X aa ae (HB n Γ op vs))
 w:∀Γ X aa ae op vs p,GOk Γ X aa ae->PW X (.BoolOp op vs p) (tT X aa ae (HH n Γ op vs))
 a:∀Γ X aa ae m es,GOk Γ X aa ae->PA X es (tA X aa ae (kl n Γ m es))
 l:∀Γ X aa ae e,GOk Γ X aa ae->PO X e (KD X aa ae (D6 n Γ e))
 i:∀Γ X aa ae tg e,GOk Γ X aa ae->PI X tg e (EC X aa ae (HI n Γ tg e))
 c:∀Γ X aa ae m elt gens scope p,GOk Γ X aa ae->CC X aa ae elt gens scope p (Qr n Γ m elt gens scope)
def pI{X:Cx}{aa:Hp}{ae:Fz}{e:Expr}{c:Prop} [Decidable c] {f g:Gx PV} (h:c->PE X e (tE X aa ae f)) (h':PE X e (tE X aa ae g)):PE X e (tE X aa ae (if c then f else g)):=by
 split
 ·exact h ‹_›
 ·exact h'
def pJ{X:Cx}{aa:Hp}{ae:Fz}{e:Expr}{c:Prop} [Decidable c] {f:Gx PV} (h:c->PE X e (tE X aa ae f)):PE X e (tE X aa ae (if c then f else cw)):=pI h aZ
def gh:PS X s (tS X aa ae cw):=λ_ _ _ _ _ _ ⟨F,st,R,r,z,_⟩=>by cases z
def vZ:PS X s (tS X aa ae (lW cw g)):=λ_ _ _ _ _ _ ⟨F,st,R,r,z,_⟩=>by cases z
def Vv{ae:Fz}:PO X e (KD X aa ae cw):=λ_ _ _ _ _ _ h=>t9 h
def HJ:ZA 0 where
 e:=λ_ _ _ _ _ _ _=>aZ
 f:=λ_ _ _ _ _ _ _ _ _ _ _=>aZ
 cn:=λ_ _ _ _ _ _ _ _ _ _ _ _ _ _=>aZ
 sp:=λ_ _ _ _ _ _ _ _ _ _ _=>aZ
 st:=λ_ _ _ _ _ _ _ _ _ _ _ _=>aZ
 d:=λ_ _ _ _ _ _ _ _ _ _ _ _=>aZ
 li:=λ_ _ _ _ _ _ _ _ _ _ _ _ _=>aZ
 is:=λ_ _ _ _ _ _ _ _ _ _ _ _=>aZ
 k:=λ_ _ _ _ _ _ _ _ _=>aZ
 x:=λ_ _ _ _ _ _ _ _=>aZ
 t:=λ_ _ _ _ _ _=>ua
 b:=λ_ _ _ _ _ _ _ _=>aZ
 w:=λ_ _ _ _ _ _ _ _=>HA
 a:=λ_ _ _ _ _ _ _=>Nh
 l:=λ_ _ _ _ _ _=>Vv
 i:=λ_ _ _ _ _ _ _=>Ni
 c:=λ_ _ _ _ _ _ _ _ _ _=>⟨aZ,λ_ _ _ _ _ _ _=>vZ⟩
section
variable {n:Nat} (S:ZA n)
include S
def Vw(Γ:Gm)(X:Cx)(aa:Hp)(ae:Fz)(op:BoolOp)(vs:List Expr)(p:Pos)(G:GOk Γ X aa ae):PE X (.BoolOp op vs p) (tE X aa ae (HB (n+1) Γ op vs)):=by
 match op,vs with
 | .And,[]=>exact aZ
 | .Or,[]=>exact aZ
 | .And,[a]=>exact Fp (S.e Γ X aa ae 0 a G)
 | .Or,[a]=>exact Fp (S.e Γ X aa ae 0 a G)
 | .And,a::b::r=>exact Ug (S.e Γ X aa ae 0 a G) (S.b Γ X aa ae .And (b::r) p G)
 | .Or,a::b::r=>exact Yv (S.e Γ X aa ae 0 a G) (S.b Γ X aa ae .Or (b::r) p G)
def Vx(Γ:Gm)(X:Cx)(aa:Hp)(ae:Fz)(op:BoolOp)(vs:List Expr)(p:Pos)(G:GOk Γ X aa ae):PW X (.BoolOp op vs p) (tT X aa ae (HH (n+1) Γ op vs)):=by
 match op,vs with
 | .And,[]=>exact HA
 | .Or,[]=>exact HA
 | .And,[a]=>exact JP (S.t Γ X aa ae a G)
 | .Or,[a]=>exact N6 (S.t Γ X aa ae a G)
 | .And,a::b::r=>exact Ud (S.t Γ X aa ae a G) (S.w Γ X aa ae .And (b::r) p G)
 | .Or,a::b::r=>exact Yu (S.t Γ X aa ae a G) (S.w Γ X aa ae .Or (b::r) p G)
def Vy(Γ:Gm)(X:Cx)(aa:Hp)(ae:Fz)(m:Nat)(es:List Expr)(G:GOk Γ X aa ae):PA X es (tA X aa ae (kl (n+1) Γ m es)):=by
 match es with
 | []=>exact Ui
 | e::es =>
  unfold kl;split
  ·rename_i hp;exact OS (S.e Γ X aa ae m e G) (S.a Γ X aa ae m es G) (bM hp _ _)
  ·exact Nh
def Vz(Γ:Gm)(X:Cx)(aa:Hp)(ae:Fz)(e:Option Expr)(G:GOk Γ X aa ae):PO X e (KD X aa ae (D6 (n+1) Γ e)):=by
 match e with
 | none=>exact Ph
 | some e=>exact Pj (S.e Γ X aa ae 0 e G)
def VA(Γ:Gm)(X:Cx)(aa:Hp)(ae:Fz)(a:Expr)(ops:List CmpOp)(bs:List Expr)(p:Pos)(G:GOk Γ X aa ae):PE X (.Compare a ops bs p) (tE X aa ae (Qp (n+1) Γ a ops bs)):=by
 rcases ops with _ | ⟨op,_ | ⟨wO,_ | _⟩⟩<;>rcases bs with _ | ⟨b,_ | ⟨c,_ | _⟩⟩<;>try exact aZ
 ·show PE X _ (tE X aa ae (ite _ _ _));split
  ·rename_i hp;split
   ·rename_i g h1;exact Ua (j2 G.un h1) (S.e Γ X aa ae 0 _ G) (S.e Γ X aa ae 0 _ G) (hJ hp _)
   ·exact aZ
  ·exact aZ
 ·show PE X _ (tE X aa ae (ite _ _ _));split
  ·rename_i hp;split
   ·rename_i g g' h1 h2;exact Kp (j2 G.un h1) (j2 G.un h2) (S.e Γ X aa ae 0 _ G) (S.e Γ X aa ae 0 _ G) (S.e Γ X aa ae 0 _ G) (hJ hp _)
   ·exact aZ
  ·exact aZ
def VB(Γ:Gm)(X:Cx)(aa:Hp)(ae:Fz)(e:Expr)(G:GOk Γ X aa ae):PT X e (tT X aa ae (sy (n+1) Γ e)):=by
 have df:∀e,PT X e (tT X aa ae (if AK e=true then sk (bj n Γ 0 e)else cw)):=λe=>by
  split
  ·rename_i hp;exact Uc (S.e Γ X aa ae 0 _ G) λi6=>Hv hp _ i6
  ·exact ua
 cases e with
 | UnaryOp op=>cases op with
  | Not=>exact Ue (S.t Γ X aa ae _ G)
  | _=>exact df _
 | BoolOp=>exact(S.w Γ X aa ae _ _ _ G).pt
 | Compare a ops bs =>
  rcases ops with _ | ⟨op,_ | ⟨wO,_ | _⟩⟩<;>rcases bs with _ | ⟨b,_ | ⟨c,_ | _⟩⟩<;>try exact df _
  ·show PT X _ (tT X aa ae (ite _ _ _));split
   ·rename_i hp;split
    ·rename_i g h1;exact Ub (j2 G.un h1) (S.e Γ X aa ae 0 _ G) (S.e Γ X aa ae 0 _ G) (hJ hp _)
    ·exact ua
   ·exact ua
  ·show PT X _ (tT X aa ae (ite _ _ _));split
   ·rename_i hp;split
    ·rename_i g g' h1 h2;exact Kq (j2 G.un h1) (j2 G.un h2) (S.e Γ X aa ae 0 _ G) (S.e Γ X aa ae 0 _ G) (S.e Γ X aa ae 0 _ G) (hJ hp _)
    ·exact ua
   ·exact ua
 | _=>exact df _
def Qv(Γ:Gm)(X:Cx)(aa:Hp)(ae:Fz)(a:Expr)(es:List Expr)(p cp:Pos)(G:GOk Γ X aa ae)(hp:(a::es).all bt=true)(hg:vT Γ "sorted"=true)(hb:Γ.dB.contains "sorted"=true):PE X (.Call (.Name "sorted" p) (a::es) [] cp) (tE X aa ae (HF (n+1) Γ a es)):=by
 exact aZ
def VC(Γ:Gm)(X:Cx)(aa:Hp)(ae:Fz)(a:Expr)(es:List Expr)(p cp:Pos)(G:GOk Γ X aa ae)(hp:(a::es).all bt=true)(hg:vT Γ "dict"=true)(hb:Γ.dB.contains "dict"=true):PE X (.Call (.Name "dict" p) (a::es) [] cp) (tE X aa ae (Qu (n+1) Γ a es)):=by
 rw[jr,aG]at hp;cases es with
 | cons=>exact aZ
 | nil=>exact P5 G.hd (G.kj hg) (G.dB _ hb) (S.e Γ X aa ae 0 _ G) (bM hp.1 _ _)
def Qw(Γ:Gm)(X:Cx)(aa:Hp)(ae:Fz)(m:Nat)(a:Expr)(es:List Expr)(p cp:Pos)(G:GOk Γ X aa ae)(hp:(a::es).all bt=true)(hg:vT Γ "list"=true)(hb:Γ.dB.contains "list"=true):PE X (.Call (.Name "list" p) (a::es) [] cp) (tE X aa ae (HG (n+1) Γ m a es)):=by
 rw[jr,aG]at hp;cases es with
 | cons=>exact aZ
 | nil =>
  show PE X _ (tE X aa ae (match AQ a with | some ⟨zs,_⟩=>_ | none=>cw))
  rcases AQ a with _ | ⟨⟨z,b,bs⟩,zp,G6,rfl⟩
  ·exact aZ
  ··rcases bs with _ | ⟨c,_ | _⟩
    ·exact aZ
    ·refine pJ λhc=>?_
     simp only[kC,aG]at hc;obtain⟨⟨⟨hx,g1,g2⟩,p1⟩,p2⟩:=hc;have hx:=aY hx;subst hx;exact Qb G.hd (G.kj hg) (G.dB _ hb) (G.kj g1) (G.dB _ g2) (S.e Γ X aa ae 0 _ G) (S.e Γ X aa ae 0 _ G) (bM p1 _ _) (bM p2 _ _)
    ·exact aZ
def Qx(Γ:Gm)(X:Cx)(aa:Hp)(ae:Fz)(a:Expr)(es:List Expr)(p cp:Pos)(G:GOk Γ X aa ae)(hp:(a::es).all bt=true)(hg:vT Γ "isinstance"=true)(hb:Γ.dB.contains "isinstance"=true):PE X (.Call (.Name "isinstance" p) (a::es) [] cp) (tE X aa ae (HE (n+1) Γ a es)):=by
 cases es with
 | nil=>exact aZ
 | cons e es=>cases e with
  | Name t=>cases es with
   | cons=>exact aZ
   | nil =>
    refine pJ λhc=>?_
    unfold kC at hc;rw[aG]at hc;rw[jr,aG]at hp;cases h1:BQ t with
    | none=>exact aZ
    | some g=>exact YC h1 (G.kj hg) (G.dB _ hb) (G.kj hc.1) (G.dB _ hc.2) (S.e Γ X aa ae 0 a G) λes=>bM hp.1 es _
  | _=>exact aZ
def VD(Γ:Gm)(X:Cx)(aa:Hp)(ae:Fz)(a b:Expr)(p:Pos)(G:GOk Γ X aa ae):PE X (.Subscript a b p) (tE X aa ae (Qq (n+1) Γ a b)):=by
 show PE X _ (tE X aa ae (match vY b with | some ⟨lh,_⟩=>_ | none=>_))
 rcases vY b with _ | ⟨⟨lo,hi⟩,ps,rfl⟩
 ·show PE X _ (tE X aa ae (match AO b with | some ⟨lm,_⟩=>_ | none=>_))
  rcases AO b with _ | ⟨⟨lo,hi⟩,ps,rfl⟩
  rotate_left
  ·exact UB (S.e Γ X aa ae 0 _ G) (S.l Γ X aa ae _ G) (S.l Γ X aa ae _ G)
  refine pJ λhp=>?_
  have gen:=λa=>YD (pos:=p) G.un (S.e Γ X aa ae 0 a G) (S.e Γ X aa ae 0 b G) (qR hp)
  cases a with
  | Name T =>
   refine pI (λhc=>?_) (gen _)
   rw[aG]at hc;cases h0:Γ.eL.lookup T with
   | some rows=>exact U4 (G.eL _ rows h0) (G.kj hc.2) (S.e Γ X aa ae 0 _ G) (qR hp) (gN hc.1).1
   | none =>
    cases h1:Γ.tabs.lookup T with
    | some rows=>exact U5 (G.tabs _ rows h1) (G.kj hc.2) (S.e Γ X aa ae 0 _ G) (qR hp) (gN hc.1).1
    | none=>exact gen _
  | _=>exact gen _
 ·exact Uu (S.e Γ X aa ae 0 _ G) (S.l Γ X aa ae _ G) (S.l Γ X aa ae _ G)
def VE(Γ:Gm)(X:Cx)(aa:Hp)(ae:Fz)(tg e:Expr)(G:GOk Γ X aa ae):PI X tg e (EC X aa ae (HI (n+1) Γ tg e)):=by
 have df:∀e,PI X tg e (EC X aa ae (if bt e=true then Ax (bj n Γ 0 e)else cw)):=λe=>by
  split
  ·exact GP (S.e Γ X aa ae 0 _ G)
  ·exact Ni
 cases e with
 | Call f as ks=>cases f with
  | Name x p =>
   rcases as with _ | ⟨a,_ | ⟨b,_ | _⟩⟩<;>rcases ks with _ | _<;>try exact df _
   ·show PI X _ _ (EC X aa ae (ite _ _ _));split
    ·rename_i hc;simp only[kC,aG]at hc;obtain⟨⟨hx,hg,hb⟩,hp⟩:=hc;have hx:=aY hx;subst hx;exact PJ <| GI (G.kj hg) (G.dB _ hb) (S.a Γ X aa ae 0 _ G) (bM hp _ _)
    ·split
     ·rename_i hc;simp only[kC,aG]at hc;obtain⟨⟨⟨hx,hg,hb⟩,hp⟩,ht⟩:=hc;have hx:=aY hx;subst hx;exact PJ <| YS ht (G.kj hg) (G.dB _ hb) (S.e Γ X aa ae 0 _ G) (bM hp _ _)
     ·exact GP (S.e Γ X aa ae 0 _ G)
   ·show PI X _ _ (EC X aa ae (ite _ _ _));split
    ·rename_i hc;simp only[kC,aG]at hc;obtain⟨⟨⟨⟨hx,hg,hb⟩,hp⟩,Zj⟩,ht⟩:=hc;have hx:=aY hx;subst hx;exact PJ <| Vk ht (G.kj hg) (G.dB _ hb) (S.e Γ X aa ae 0 _ G) (S.e Γ X aa ae 0 _ G) (bM hp _ _) (bM Zj _ _)
    ·exact GP (S.e Γ X aa ae 0 _ G)
  | _=>exact df _
 | _=>exact df _
def Lx:CC X aa ae elt gens scope p cw:=⟨aZ,λ_ _ _ _ _ _ _=>vZ⟩
def cI{c:Prop} [Decidable c] (h:c->CC X aa ae elt gens scope p f):CC X aa ae elt gens scope p (if c then f else cw):=by
 split
 ·exact h ‹_›
 ·exact Lx
def VF(Γ:Gm)(X:Cx)(aa:Hp)(ae:Fz)(m:Nat)(elt:Expr)(gens:List Comprehension)(scope:Scope)(p:Pos)(G:GOk Γ X aa ae):CC X aa ae elt gens scope p (Qr (n+1) Γ m elt gens scope):=by
 rcases gens with _ | ⟨⟨tg,iter,ifs,(_ | _) | _⟩,_ | _⟩<;>try exact Lx
 refine cI λhp=>?_
 cases h2:vW n (t8 Γ scope) tg with
 | none=>exact Lx
 | some g =>
  refine cI λhc=>?_
  have SC:=AN G hc;have hL:=(mr hc).2.2.2;have GK:=Hz G hc;have hi:=S.i Γ X aa ae tg iter G;have hg:=λC s H fp=>(mq (GK C s H fp aa ae) n tg g h2).1
  have kg:=(mq (GK 0 X.s₀ X.aa [] aa ae) n tg g h2).2.1;have he:=λC s H fp=>S.e _ _ _ _ (D4 m) elt (GK C s H fp aa ae)
  rcases ifs with _ | ⟨c,_ | _⟩
  ·exact⟨(BW G.calm SC hi (pb1 hg he) (gM hp _)).imp λσ H Q h=>GQ kg hL h,λi x p' sp hx hl hw=>(BX G.calm G.nd hx hl SC hi (pb1 hg he) hw (gM hp _)).imp λD σ H h=>GQ kg hL (o6 h)⟩
  ·have ht:=λC s H fp=>S.t _ _ _ _ c (GK C s H fp aa ae)
   exact⟨(BW G.calm SC hi (pb2 hg he ht) (gM hp _)).imp λσ H Q h=>GR kg hL h,λi x p' sp hx hl hw=>(BX G.calm G.nd hx hl SC hi (pb2 hg he ht) hw (gM hp _)).imp λD σ H h=>GR kg hL (o6 h)⟩
  ·exact Lx
def Qy(Γ:Gm)(X:Cx)(aa:Hp)(ae:Fz)(a:Expr)(es:List Expr)(p cp:Pos)(G:GOk Γ X aa ae)(hp:(a::es).all bt=true)(hg:vT Γ "spread"=true):PE X (.Call (.Name "spread" p) (a::es) [] cp) (tE X aa ae (HC (n+1) Γ a es)):=by
 exact aZ
def VG(Γ:Gm)(X:Cx)(aa:Hp)(ae:Fz)(m:Nat)(x:Str)(a:Expr)(es:List Expr)(p cp:Pos)(G:GOk Γ X aa ae)(hp:(a::es).all bt=true)(hn:iT x=true)(hg:vT Γ x=true):PE X (.Call (.Name x p) (a::es) [] cp) (tE X aa ae (Qt (n+1) Γ m x a es)):=by
 have DJ:=hp;rw[jr,aG]at DJ;obtain⟨n1,n2,n3⟩:=gN hn;have ha:=S.a Γ X aa ae 0 (a::es) G;have h1:=bM DJ.1 es X.env;have h2:=hZ DJ.2 X.env cp;refine pI (λhx=>?_) ?_
 ·cases aY hx;exact S.sp Γ X aa ae a es p cp G hp hg
 cases hk:Γ.fns.lookup x with
 | some k =>
  refine pI (λ_=>?_) ?_
  ·obtain⟨j,f,fd,ps,F,hr,q1,q2,q3⟩:=G.fns _ k hk;exact GU (Zx F hr q3) (G.kj hg) q1 q2 ha n1 h1 h2
  ·cases hd:Γ.jv.lookup x with
   | none=>exact aZ
   | some ds =>
    obtain⟨j,f,fd,ps,ju,pY,F,hr,q1,q2,r1,r2,q3⟩:=G.jv x ds k hd hk;exact GU (Vr F hr q3 r1 r2) (G.kj hg) q1 q2 ha n1 h1 h2
 | none=>cases hk:Γ.cls.lookup x with
  | some k=>cases m with
   | zero=>exact aZ
   | succ =>
    obtain⟨j,Ca,f,fd,ps,hC,c,M,F,hr,q1,q2⟩:=G.cls _ k hk;exact(Kb (p:=p) M F hr (G.kj hg) q1 q2 .nil tm ha n1 h1 h2).imp λσ H Q h=>Cp hC c h
  | none =>
   refine pJ λhb=>pI (λhx=>?_) (pI (λhx=>?_) (pI (λhx=>?_) (pI (λhx=>?_) ?_)))
   ·cases aY hx;exact S.is Γ X aa ae a es p cp G hp hg hb
   ·cases aY hx;exact S.st Γ X aa ae a es p cp G hp hg hb
   ·cases aY hx;exact S.d Γ X aa ae a es p cp G hp hg hb
   ·cases aY hx;exact S.li Γ X aa ae m a es p cp G hp hg hb
   cases hg':vX x with
   | some g=>exact Qn hg' G.hd (G.kj hg) (G.dB _ hb) ha h1 h2
   | none=>exact aZ
def VH(Γ:Gm)(X:Cx)(aa:Hp)(ae:Fz)(m:Nat)(f a:Expr)(es:List Expr)(cp:Pos)(G:GOk Γ X aa ae)(hp:(a::es).all bt=true):PE X (.Call f (a::es) [] cp) (tE X aa ae (Qs (n+1) Γ m f a es cp)):=by
 have DJ:=hp;rw[jr,aG]at DJ;cases f with
 | Name=>exact pJ λhn=>pJ λhg=>S.cn Γ X aa ae m _ a es _ cp G hp hn hg
 | Subscript=>exact La G.fns G.ns (S.e Γ X aa ae 0 _ G) (S.a Γ X aa ae 0 _ G) (bM DJ.1 _ _) (hZ DJ.2 _ _)
 | Attribute o g ap =>
  refine pJ λhc=>?_
  simp only[aG,uM]at hc;show PE X _ (tE X aa ae (match xO g with | some w=>_ | none=>yb (tV Γ.Hu g) Γ.call g (bj n Γ 0 o) (kl n Γ 0 (a::es))))
  cases hw:xO g with
  | none=>exact Qi G.Hu (S.e Γ X aa ae 0 _ G) (S.a Γ X aa ae _ _ G) (j4 hc.1.1) (Cr hp hc.2) hc.1.2 (bM DJ.1 _ _) (hZ DJ.2 _ _)
  | some w=>exact YZ G.un hw (S.e Γ X aa ae 0 _ G) (S.a Γ X aa ae _ _ G) (j4 hc.1.1) (Cr hp hc.2) hc.1.2 (bM DJ.1 _ _) (hZ DJ.2 _ _)
 | _=>exact aZ
def VI(Γ:Gm)(X:Cx)(aa:Hp)(ae:Fz)(m:Nat)(e:Expr)(G:GOk Γ X aa ae):PE X e (tE X aa ae (bj (n+1) Γ m e)):=by
 cases e with
 | Constant c=>cases c<;>first | exact aZ | exact T8 | exact Ys | exact T7 | exact T9
 | Name x =>
  show PE X _ (tE X aa ae (Qo Γ x));unfold Qo;split
  ·rename_i hn;split
   ·rename_i hv;split
    ·rename_i i hi;exact T6 i (D5 G hn hv hi)
    ·exact aZ
   ·split
    ·rename_i hg;split
     ·rename_i q hq;obtain⟨u,v,g1,g2,g3⟩:=G.cons _ q hq;exact xq (ve (G.kj hg) g1 g2 (gN hn).1) g3
     ·exact aZ
    ·exact aZ
  ·exact aZ
 | BinOp a op b =>
  show PE X _ (tE X aa ae (match Lq op with | some g=>op2 g (bj n Γ 0 a) (bj n Γ 0 b) | none=>cw))
  cases h1:Lq op with
  | none=>exact aZ
  | some=>exact Yt (Hh h1) (S.e Γ X aa ae 0 _ G) (S.e Γ X aa ae 0 _ G)
 | UnaryOp op=>cases op with
  | Not=>exact Uh (S.e Γ X aa ae 0 _ G)
  | USub=>exact Uz (S.e Γ X aa ae 0 _ G)
  | _=>exact aZ
 | BoolOp=>exact S.b Γ X aa ae _ _ _ G
 | Compare=>exact S.k Γ X aa ae _ _ _ _ G
 | IfExp=>exact Yw (S.t Γ X aa ae _ G) (S.e Γ X aa ae m _ G) (S.e Γ X aa ae m _ G)
 | Tuple=>exact Uj (S.a Γ X aa ae m _ G)
 | List=>cases m with
  | zero=>exact Uk (S.a Γ X aa ae 0 _ G)
  | succ=>exact OU (S.a Γ X aa ae _ _ G)
 | Dict ks vs=>rcases ks with _ | _<;>rcases vs with _ | _<;>first | exact U3 _ | exact aZ
 | Subscript=>exact S.x Γ X aa ae _ _ _ G
 | ListComp=>exact(S.c Γ X aa ae m _ _ _ _ G).1
 | Attribute =>
  show PE X _ (tE X aa ae (ite _ _ _));split
  ·rename_i hb;exact U6 (S.e Γ X aa ae 0 _ G) (j4 hb)
  ·exact aZ
 | Call f as ks=>cases as with
  | cons=>cases ks with
   | cons=>exact aZ
   | nil =>
    show PE X _ (tE X aa ae (ite _ _ _));split
    ·rename_i hp;exact S.f Γ X aa ae m _ _ _ _ G hp
    ·exact aZ
  | nil=>cases ks with
   | cons=>cases f<;>exact aZ
   | nil=>cases f with
    | Attribute =>
     show PE X _ (tE X aa ae (ite _ _ _));split
     ·rename_i hc;rw[aG]at hc;split
      ·rename_i hx;have hx:=aY hx;subst hx;exact Qk (S.e Γ X aa ae 0 _ G) (j4 hc.1) hc.2
      split
      ·rename_i w hw;exact U0 hw (S.e Γ X aa ae 0 _ G) (j4 hc.1) hc.2
      ·exact Lw G.Hu (S.e Γ X aa ae 0 _ G) (j4 hc.1) hc.2
     ·exact aZ
    | Name C =>
     refine pJ λhc=>?_
     rw[aG]at hc;obtain⟨n1,n2,n3⟩:=gN hc.1
     ·cases hk:Γ.cls.lookup C with
      | none=>exact aZ
      | some k =>
       obtain⟨j,Ca,f,fd,ps,hC,c,M,F,hr,q1,q2⟩:=G.cls _ k hk;exact(Ho M F hr (G.kj hc.2) q1 q2 .nil tm n1).imp λσ H Q h=>Hq hC c h
    | _=>exact aZ
 | _=>exact aZ
end
theorem snd:∀n:Nat,ZA n
 | 0=>HJ
 | n+1 =>
  have S:=snd n
  ⟨VI S,VH S,VG S,Qy,Qv,VC S,Qw S,Qx S,VA S,VD S,VB S,Vw S,Vx S,Vy S,Vz S,VE S,VF S⟩
structure ZC (Γ:Gm) (X:Cx) (aa:Hp) (ae:Fz):Prop extends GOk Γ X aa ae where
 never:PassesOwn (model X.prog X.w) X.A X.env X.xe
noncomputable def HK:Expr->Bool
 | .ListComp _ _ _ _=>true
 | _=>false
def sE:G2:=nD (λ_ _=>true) λi j=>.int (i+j)
def AR:Operator->Option G2
 | .Add=>some sE
 | _=>none
def sI{c:Prop} [Decidable c] (h:c->PS X e (tS X aa ae f)):PS X e (tS X aa ae (if c then f else cw)):=by
 split
 ·exact h ‹_›
 ·exact gh
section
variable {Γ:Gm} {X:Cx} {x:Str} {p sp:Pos} {e:Expr} {op:Operator} {i:Nat} {aa:Hp} {ae:Fz} {fe:Gx PV} {g:G2}
def Cs(h:AR op=some g):oY X (inplaceOp op) g:=by
 cases op<;>cases h
 exact eR (tu J2) (λ_ _ _=>trivial) λ_ _ _=>aC.mpr rfl
def Ly{st:cq}(h:rd i st=some r):∃p,st.ρ[i]?=some (some p)/\r=(.ok p,st):=by
 obtain⟨p,e1,e2⟩:=aR h;cases z:st.ρ[i]? with
 | none=>rw[z]at e1;cases e1
 | some o =>
  rw[z]at e1;cases o with
  | none=>cases e1
  | some p'=>cases e1;exact⟨p,rfl,e2.symm⟩
def VJ(ho:oY X (inplaceOp op) g)(he:PE X e (tE X aa ae fe))(hN:X.N.Nodup)(hi:X.N[i]?=some x)(hx:MA X.env.scope x)(hf:X.fn x=true\/X.env.scope.names.lookup x=some .local):PS X (.AugAssign (.Name x p) op e sp) (tS X aa ae (lW (op2 g (rd i) fe) (cS i))):=by
 refine(Og hN hi hx he (λaf s σ H x y v u Q I r1 r2 t=>ho af s σ H x y v u Q I r1 r2 t) hf).imp λD σ H h=>?_
 obtain⟨F,st,R,h⟩:=o6 h;obtain⟨r,e1,e2⟩:=At.bnd h;obtain⟨q,e3,rfl⟩:=Ly e1;obtain⟨v,h3,h4⟩:=R.l.av i q e3;refine⟨v,h3,F,st,R,Tx.bnd (e2) λy w F1 st1 H1 R1 g1 b1 h1=>?_⟩
 obtain⟨z,hz,k⟩:=h1.hp;exact⟨aa,ae,F1,st1,σ,q,y,z,hz,R1,h4.mono g1,b1,k⟩
def yc(G:GOk Γ X aa ae)(hs:slot Γ x=some i)(hx:Sq Γ x=true)(he:PE X e (tE X aa ae fe))(hsw:swapsWith e (some (.Name x p)) sp.line X.env=pure false):PS X (.Assign [.Name x p] e sp) (tS X aa ae (lW fe (cS i))):=by
 obtain⟨h1,h2⟩:=G.Qm hx;exact(Of G.nd (G.tY hs) h1 he hsw h2).imp λD σ H h=>o6 h
def AS :
  (swapsWith (.ListComp elt gens scope cp) (some (.Name x p)) sp.line X.env=pure true/\X.env.scope.names.lookup x=some .local)\/swapsWith (.ListComp elt gens scope cp) (some (.Name x p)) sp.line X.env=pure false:=by
 have e:swapsWith (.ListComp elt gens scope cp) (some (.Name x p)) sp.line X.env=pure (X.env.blockKind==.function&&X.env.kindOf x==some .local&&p.line==(Expr.ListComp elt gens scope cp).pos.line&&!(scope.names.any fun(n,k)=>n==x&&(k==.local || k==.cell))):=rfl
 rw[e];cases hb:(X.env.blockKind==.function&&X.env.kindOf x==some .local&&p.line==(Expr.ListComp elt gens scope cp).pos.line&&!(scope.names.any fun(n,k)=>n==x&&(k==.local || k==.cell)))with
 | true =>
  refine .inl ⟨rfl,?_⟩;simp only[aG]at hb;exact aY hb.1.1.2
 | false=>exact .inr rfl
def D7(h:(jG e || HK e)=true)(l:Nat)(env:Env):swapsWith e (some (.Attribute a x p)) l env=pure false:=by
 cases e<;>first | rfl | cases h
def D8{a x:Expr}(h:(jG e || HK e)=true)(l:Nat)(env:Env):swapsWith e (some (.Subscript a x p)) l env=pure false:=by
 cases e<;>first | rfl | cases h
def AU(h:o9 k=true)(env:Env)(v:Value):assign (.Subscript o k p) env v=(do
   let ov <-holding [v] (eval o env)
   let iv <-holding [v,ov] (eval k env)
   standAt p
   holding [v,ov,iv] (setItem ov iv v)
   release [v,ov,iv] []):=by
 cases k<;>first | rfl | cases h
def AV(env:Env):swappedStores [.Subscript o k p] e env=pure none:=by
 cases e<;>rfl
end
def WHL:Nat:=8000000
def isD(Γ:Gm):Expr->Bool
 | .Name x _=>md Γ x==10
 | _=>false
def RET:Str:="[return]"
def asName(n:Nat)(Γ:Gm)(x:Str)(e:Expr):Gx dw:=if(Sq Γ x&&(jG e || HK e))=true then(match slot Γ x with | some i=>lW (bj n Γ (md Γ x) e) (cS i) | none=>cw)else cw
noncomputable def Nj(n:Nat)(Γ:Gm)(tg e:Expr):Gx dw:=match tg with
 | .Name x _=>asName n Γ x e
 | .Tuple ts k p=>if Cq e=true then(match vW n Γ (.Tuple ts k p)with | some g=>lW (bj n Γ 0 e) g.1 | none=>cw)else cw
 | .Subscript o k _=>if(o9 k&&(jG e || HK e))=true then PY (bj n Γ (Vu Γ o) e) (bj n Γ 0 o) (bj n Γ 0 k)else cw
 | .Attribute o f _=>if(jG e || HK e)=true then Ld Γ.clss Γ.flds f (bj n Γ (md Γ f) e) (bj n Γ 0 o)else cw
 | _=>cw
noncomputable def Nk(n:Nat)(Γ:Gm)(tg:Expr)(op:Operator)(e:Expr):Gx dw:=match tg with
 | .Name x _=>if Sq Γ x=true then(match slot Γ x,AR op with | some i,some g=>lW (op2 g (rd i) (bj n Γ 0 e)) (cS i) | _,_=>cw)else cw
 | .Attribute o f _=>(match AR op with | some g=>Hr Γ.clss Γ.flds f g (bj n Γ 0 o) (bj n Γ 0 e) | none=>cw)
 | _=>cw
mutual
noncomputable def Qz:Nat->Gm->Stmt->Gx dw
 | 0,_,_=>cw
 | n+1,Γ,st=>match st with
  | .Pass _=>cC .nx
  | .Break _=>cC .bk
  | .Continue _=>cC .ct
  | .Return none _=>cC (.rt .aP)
  | .Return (some e) _=>if md Γ RET==7 then Ga (PL (bj n Γ 1 e))else Ga (bj n Γ (md Γ RET) e)
  | .If c a b _=>oB (sy n Γ c) (jb n Γ a) (jb n Γ b)
  | .While c b [] _=>lr (sy n Γ c) (jb n Γ b) WHL
  | .For tg iter body [] _=>if bt iter=true then(match vW n Γ tg with | some g=>if isD Γ iter=true then cw else K7 (HI n Γ tg iter) g.1 (jb n Γ body) | none=>cw)else cw
  | .Expr e _=>if jG e=true then BK (bj n Γ 0 e)else cw
  | .Assign [tg] e _=>Nj n Γ tg e
  | .AugAssign tg op e _=>Nk n Γ tg op e
  | .Try body (_::_) [] [] _=>if(Γ.DY.isNone&&Γ.DZ.isNone)=true then DX (jb n Γ body)else cw
  | _=>cw
termination_by structural n=>n
noncomputable def jb:Nat->Gm->List Stmt->Gx dw
 | 0,_,_=>cw
 | n+1,Γ,[]=>cC .nx
 | n+1,Γ,[st]=>Qz n Γ st
 | n+1,Γ,st::Sr=>xw (Qz n Γ st) (jb n Γ Sr)
termination_by structural n=>n
end
structure ZD (n:Nat):Prop where
 s:∀Γ X aa ae st,ZC Γ X aa ae->PS X st (tS X aa ae (Qz n Γ st))
 ss:∀Γ X aa ae Sr,ZC Γ X aa ae->PSs X Sr (tS X aa ae (jb n Γ Sr))
def QA:PSs X s (tS X aa ae cw):=λ_ _ _ _ _ _ ⟨F,st,R,r,z,_⟩=>by cases z
def QB(G:GOk Γ X aa ae):PS X (.Assign [tg] e sp) (tS X aa ae (Nj n Γ tg e)):=by
 have S:=snd n;cases tg with
 | Name x p =>
  refine sI λhc=>?_
  rw[aG]at hc;cases hi:slot Γ x with
  | none=>exact gh
  | some i =>
   rcases Bool.or_eq_true _ _▸hc.2 with hn | hl
   ·exact yc G hi hc.1 (S.e Γ X aa ae _ _ G) (jH hn _ _ _)
   ·cases e<;>try (exact absurd hl cR)
    rcases AS with⟨z,hl⟩ | z
    ·cases n with
     | zero=>exact vZ
     | succ n=>exact((snd n).c Γ X aa ae _ _ _ _ _ G).2 i x p sp (G.tY hi) hl z
    ·exact yc G hi hc.1 (S.e Γ X aa ae _ _ G) z
 | Tuple ts k tp =>
  refine sI λhc=>?_
  cases h1:vW n Γ (.Tuple ts k tp)with
  | none=>exact gh
  | some g =>
   obtain⟨g1,g2,g3,g4⟩:=mq G n _ g h1;refine Uo (S.e Γ X aa ae _ _ G) g1 (jH (vV hc) (some (Expr.Tuple ts k tp)) sp.line X.env) ?_ (g3 _);cases e<;>first | rfl | cases hc
 | Subscript o k tp =>
  refine sI λhc=>?_
  rw[aG]at hc;exact U2 G.un (S.e Γ X aa ae _ _ G) (S.e Γ X aa ae _ _ G) (S.e Γ X aa ae _ _ G) (AU hc.1 _) (D8 (a:=o) (x:=k) (p:=tp) hc.2 sp.line X.env) (AV _)
 | Attribute=>exact sI λhc=>U7 G.Ng (S.e Γ X aa ae _ _ G) (S.e Γ X aa ae _ _ G) (D7 hc _ _)
 | _=>exact gh
def QC(G:GOk Γ X aa ae):PS X (.AugAssign tg op e sp) (tS X aa ae (Nk n Γ tg op e)):=by
 cases tg with
 | Name x p =>
  refine sI λhc=>?_
  cases h1:slot Γ x with
  | none=>exact gh
  | some i=>cases h2:AR op with
   | none=>exact gh
   | some g =>
    obtain⟨l1,l2⟩:=G.Qm hc;exact VJ (Cs h2) ((snd n).e Γ X aa ae _ _ G) G.nd (G.tY h1) l1 l2
 | Attribute o f p =>
  cases h2:AR op with
  | none=>show PS X _ (tS X aa ae (match AR op with | some g=>Hr Γ.clss Γ.flds f g (bj n Γ 0 o) (bj n Γ 0 e) | none=>cw));rw[h2];exact gh
  | some g=>show PS X _ (tS X aa ae (match AR op with | some g=>Hr Γ.clss Γ.flds f g (bj n Γ 0 o) (bj n Γ 0 e) | none=>cw));rw[h2];exact Qj G.Ng ((snd n).e Γ X aa ae _ _ G) ((snd n).e Γ X aa ae _ _ G) (Cs h2)
 | _=>exact gh
theorem ZE:∀n:Nat,ZD n
 | 0=>⟨λ_ _ _ _ _ _=>gh,λ_ _ _ _ _ _=>QA⟩
 | n+1=>by
  have T:=ZE n;have S:=snd n;refine⟨λΓ X aa ae st G=>?_,λΓ X aa ae Sr G=>?_⟩
  ·cases st with
   | Pass=>exact OY
   | Break=>exact Kt
   | Continue=>exact OZ
   | Return e=>cases e with
    | none=>exact O0
    | some e =>
     show PS X _ (tS X aa ae (ite _ _ _));split
     ·exact MN (UT (S.e Γ X aa ae _ _ G.toGOk))
     ·exact MN (S.e Γ X aa ae _ _ G.toGOk)
   | If=>exact Yx (S.t Γ X aa ae _ G.toGOk) (T.ss Γ X aa ae _ G) (T.ss Γ X aa ae _ G)
   | While c b o=>cases o with
    | nil=>exact Kw WHL G.never (S.t Γ X aa ae _ G.toGOk) (T.ss Γ X aa ae _ G)
    | cons=>exact gh
   | For tg iter body o=>cases o with
    | cons=>exact gh
    | nil =>
     refine sI λhp=>?_
     cases h1:vW n Γ tg with
     | none=>exact gh
     | some g =>
      show PS X _ (tS X aa ae (ite _ _ _));split
      ·exact gh
      ·exact PK G.never G.calm (S.i Γ X aa ae _ _ G.toGOk) (mq G.toGOk n _ g h1).1 (T.ss Γ X aa ae _ G) (gM hp _)
   | Expr=>exact sI λhc=>O1 (S.e Γ X aa ae _ _ G.toGOk) (jH hc _ _ _)
   | Assign ts=>rcases ts with _ | ⟨_,_ | _⟩<;>first | exact QB G.toGOk | exact gh
   | AugAssign=>exact QC G.toGOk
   | Try body hs el gW =>
    rcases hs with _ | _<;>rcases el with _ | _<;>rcases gW with _ | _<;>try exact gh
    exact sI λhc=>Vq (T.ss Γ X.R8 aa ae body ⟨G.toGOk.R8 hc,λ_ _ z=>False.elim z⟩)
   | _=>exact gh
  ·rcases Sr with _ | ⟨st,_ | _⟩
   ·exact OW
   ·exact OX (T.s Γ X aa ae st G)
   ·exact Ks (T.s Γ X aa ae st G) (T.ss Γ X aa ae _ G)
def Lz{P:Program}{w:World}{K:W.Frag}{mg:Str->Option Value}{base:Heap}{x qual:Str}{st:Stmt}{f:Addr}{fd:FuncData}{dV:Value}{N ps:List Str}{k:Nat}{sp:Sp}(F:r9 K x qual st f fd dV)(S:cL N ps (ao st))(len:∀vs H Q E,sp vs H Q E->vs.length=ps.length)
  (hbody:∀(cU:Value) (A:Around) (ax:List Env) (s:Shared) (H:Hp) (vs:List V) (Q:VK) (E:XK),vH K f cU->c7 k (A.deeper (envOfC qual (ao st) s.heap.objs.size f cU))->sp vs H Q E ->
   ∃t,PSs (eY (iA P w) P w K mg base N qual (ao st) f cU A ax s H E) (cj st) t/\t {nx:=λ_ H'=>Q .aP H',rt:=Q} (start N vs) H):FnOk P w K mg base (iA P w) (k+1) f fd ps sp:=by
 obtain⟨oc,od,kV,doc,pm,an,cU,ct,pX,rfl,lk,yO⟩:=F.ex;exact MI lk yO S len λA ax s H vs Q E hr MJ=>hbody cU A ax s H vs Q E ⟨oc,od,_,pX,lk,rfl⟩ hr MJ
def QD{P:Program}{w:World}{K:W.Frag}{mg:Str->Option Value}{base:Heap}{x qual:Str}{st:Stmt}{f:Addr}{fd:FuncData}{N ps:List Str}{k:Nat}{fb:Gx dw}{dV:Value}(F:r9 K x qual st f fd dV)(S:cL N ps (ao st))
  (hbody:∀(cU:Value) (A:Around) (ax:List Env) (s:Shared) (H:Hp) (E:XK),vH K f cU->c7 k (A.deeper (envOfC qual (ao st) s.heap.objs.size f cU))->∀(aa:Hp) (ae:Fz),
   PSs (eY (iA P w) P w K mg base N qual (ao st) f cU A ax s H E) (cj st) (tS (eY (iA P w) P w K mg base N qual (ao st) f cU A ax s H E) aa ae fb)):FnOk P w K mg base (iA P w) (k+1) f fd ps (tM K ps.length (iI fb N.length)):=by
 refine Lz F S (by rintro vs H Q E ⟨_,_,_,_,_,_,_,_,b,hl,_⟩;rw[<-b.length];exact hl) λcU A ax s H vs Q E WZ hr z9=>?_
 obtain⟨aa,F,h,as,r,h',C,full,b,hl,hf,res⟩:=z9;refine⟨_,hbody cU A ax s H E WZ hr aa F,F,⟨ix N.length as,h⟩,⟨C,xK b⟩,?_⟩;obtain⟨q,e1,e2⟩:=aQ hf;refine⟨q,e1,?_⟩;rcases q with⟨f | ⟨m,c⟩,st⟩
 ·cases f with
  | rt=>cases e2;exact λv F' H' C' g b'=>res v F' H' C' b'
  | nx=>cases e2;exact λF' bC H' R g=>res .aP F' H' R.c (cV.mpr rfl)
  | _=>cases e2
 ·cases e2;cases m with
  | true=>exact λF' bC H' af s1 h1 a cls vs R sf I hc hm=>B9 I hm (Cd full R.c) (res cls F' H' R.c hc)
  | false=>exact λbC af H1 s1 e s' I h=>xJ I h (by rintro cls H2 ⟨hc,F',R,sf⟩;exact⟨Cd full R.c,res cls F' H2 R.c hc⟩)
def AW:Nat:=120
abbrev CT:=Str->jD
noncomputable def noFn:CT:=λ_ _ _=>none
def LA(P:Pg):List (Str×Nat):=P.cls.map λd=>(d.1,(params d.2).length)
def VL(P:Pg)(x:Str)(st:Stmt)(cls:List (Str×Nat))(make:CT)(DY:Option ((PV->Gx PV)->Nat->jD))(DZ:Option (Nat×(PV->Gx PV)))(c:CT):Gm where
 sc:=(ao st).names
 N:=bS st
 own:=true
 fns:=P.defs.map λd=>(d.1,(params d.2).length)
 call:=c
 cons:=P.cons
 dB:=P.dB
 tabs:=P.tabs
 eL:=P.eL
 cls:=cls
 make:=make
 clss:=P.cls.map (·.1)
 flds:=P.flds
 SJ:=(P.SJ.lookup x).getD []
 DY:=DY
 DZ:=DZ
 Hu:=P.gC.map λd=>((d.2.1,d.2.2.1),(d.1,(params d.2.2.2).length))
 jv:=P.jv
 wW:=P.wW
def rdI(P:Pg)(C:Str)(st:Stmt)(c:CT):Gx dw:=jb AW (VL P C st [] noFn none none c) (cj st)
def Ss(P:Pg)(c:CT):CT:=λC=>match P.cls.lookup C with | some st=>iI (rdI P C st c) (bS st).length | none=>λ_ _=>none
noncomputable def VM(P:Pg)(x:Str)(c:CT):Option ((PV->Gx PV)->Nat->jD):=none
def ZF(P:Pg)(x:Str)(st:Stmt)(c:CT):Gx dw:=jb AW (VL P x st (LA P) (Ss P c) (VM P x c) none c) (cj st)
noncomputable def lp(P:Pg)(x:Str):Option Stmt:=match P.defs.lookup x with | some st=>some st | none=>(P.gC.lookup x).map (·.2.2)
def run(P:Pg):Nat->CT
 | 0=>noFn
 | k+1=>λx=>match lp P x with | some st=>iI (ZF P x st (run P k)) (bS st).length | none=>λ_ _=>none
def QE{P:Pg}{k:Nat}{x:Str}{st:Stmt}(h:lp P x=some st):run P (k+1) x=iI (ZF P x st (run P k)) (bS st).length:=by
 show(match lp P x with | some st=>iI (ZF P x st (run P k)) (bS st).length | none=>λ_ _=>none)=_
 rw[h]
theorem ia{α β:Type}(g:α->β)(x:Str):∀l:List (Str×α),(l.map λd=>(d.1,g d.2)).lookup x=(l.lookup x).map g
 | []=>rfl
 | (n,a)::r=>by
  rw[aO,eN,eN];cases x==n with
  | true=>rfl
  | false=>exact ia g x r
section
variable {prog:Program} {w:World} {K:W.Frag} {mg:Str->Option Value} {base:Heap}
structure jI (P:Pg) (w:World) (K:W.Frag) (mg:Str->Option Value):Prop where
 fns:∀x st,P.defs.lookup x=some st->∃f fd dV,r9 K x x st f fd dV/\cK K fd (params st) []/\mg x=some (.ref f)/\cL (bS st) (params st) (ao st)/\∀ds,P.jv.lookup x=some ds->∃ju pY,Vals ju pY/\(∀F,aw K F ds ju)/\cK K fd (params st) pY
 gC:∀d∈P.gC,∃Ca f fd dV,ClsAt K d.2.1 (.ref Ca)/\ES K Ca d.2.2.1 f/\r9 K d.2.2.1 d.1 d.2.2.2 f fd dV/\cK K fd (params d.2.2.2) []/\cL (bS d.2.2.2) (params d.2.2.2) (ao d.2.2.2)/\lp P d.1=some d.2.2.2
 wW:∀C,P.wW.contains C=true->∃Ca,ClsAt K C (.ref Ca)/\sO K Ca/\Xv K Ca/\mg C=some (.ref Ca)
 cons:∀x p,P.cons.lookup x=some p->∃u v,mg x=some u/\RelV v u/\∀F,bB K F p v
 dB:∀x,P.dB.contains x=true->mg x=none
 tabs:∀T rows,P.tabs.lookup T=some rows->Ce K mg w.params T rows
 eL:∀T rows,P.eL.lookup T=some rows->vI K mg w.params T rows
 ns:∀x a,W.nsIn K mainGlobals x=some (some (.ref a))->mg x=some (.ref a)
 Ng:Cg K (P.cls.map (·.1)) P.flds
 cls:∀C st,P.cls.lookup C=some st->∃Ca f fd,ClsAt K C (.ref Ca)/\sO K Ca/\Mk K Ca f/\mg C=some (.ref Ca)/\Mu K "__init__" (C++".__init__") st f fd/\cK K fd (params st) []/\cL (bS st) (params st) (ao st)
def FR(P:Pg)(prog:Program)(w:World)(K:W.Frag)(mg:Str->Option Value)(base:Heap)(k:Nat):Prop:=∀(x nm q:Str) (st:Stmt) (f:Addr) (fd:FuncData) (dV:Value),lp P x=some st->r9 K nm q st f fd dV->cL (bS st) (params st) (ao st) ->
 FnOk prog w K mg base (iA prog w) (3*k) f fd (params st) (tM K (params st).length (run P k x))
def qT{P:Pg}{x:Str}{st:Stmt}(h:P.defs.lookup x=some st):lp P x=some st:=by
 unfold lp;rw[h]
section
variable {P:Pg} (O:jI P w K mg) {k:Nat} (ih:FR P prog w K mg base k)
include O ih
def VN{X:Cx}(h1:X.prog=prog)(h2:X.w=w)(h3:X.K=K)(h4:X.mg=mg)(h5:X.base=base):Vt X (3*k) (P.defs.map λd=>(d.1,(params d.2).length)) (run P k):=λy n hy=>by
 subst h1 h2 h3 h4 h5;rw[ia (λst=>(params st).length)]at hy
 obtain⟨st',h1,h2⟩:=aR hy;subst h2;obtain⟨f',ED,dV,F1,B1,m1,S1,_⟩:=O.fns y st' h1;exact⟨3*k,f',ED,params st',aF _,ih y y y st' f' ED dV (qT h1) F1 S1,m1,F1.kp,B1⟩
def VO{X:Cx}(h1:X.prog=prog)(h2:X.w=w)(h3:X.K=K)(h4:X.mg=mg)(h5:X.base=base)(hr:c7 (3*k) X.A):Nd X (P.defs.map λd=>(d.1,(params d.2).length)) (run P k) P.jv:=λy ds n hd hy=>by
 subst h1 h2 h3 h4 h5;rw[ia (λst=>(params st).length)]at hy
 obtain⟨st',h1,h2⟩:=aR hy;subst h2;obtain⟨f',ED,dV,F1,B1,m1,S1,D1⟩:=O.fns y st' h1;obtain⟨ju,pY,d1,d2,d3⟩:=D1 ds hd;exact⟨3*k,f',ED,params st',ju,pY,ih y y y st' f' ED dV (qT h1) F1 S1,hr,m1,F1.kp,d1,d2,d3⟩
def VP{X:Cx}(h1:X.prog=prog)(h2:X.w=w)(h3:X.K=K)(h4:X.mg=mg)(h5:X.base=base)(hr:c7 (3*k) X.A):vQ X (P.gC.map λd=>((d.2.1,d.2.2.1),(d.1,(params d.2.2.2).length))) (run P k):=λC m y hy=>by
 subst h1 h2 h3 h4 h5;obtain⟨d,hd,e⟩:=dR.mp hy;cases e;obtain⟨Ca,f',ED,dV,c1,M1,F1,B1,S1,L1⟩:=O.gC d hd;exact⟨3*k,f',ED,params d.2.2.2,Ca,c1,M1,ih d.1 d.2.2.1 d.1 d.2.2.2 f' ED dV L1 F1 S1,hr,B1⟩
def Nl{st:Stmt}{x q:Str}{f:Addr}{cU:Value}{A:Around}{ax:List Env}{s:Shared}{H aa:Hp}{ae:Fz}{E:XK}{cls:List (Str×Nat)}{make:CT}{DY:Option ((PV->Gx PV)->Nat->jD)}{DZ:Option (Nat×(PV->Gx PV))}{j:Nat}(S:cL (bS st) (params st) (ao st))
  (hr:c7 j (A.deeper (envOfC q (ao st) s.heap.objs.size f cU))) (hj:3*k<=j) (hcl:∀C n,cls.lookup C=some n->∃k' Ca f' fd ps,ClsAt K C (.ref Ca)/\sO K Ca/\Mk K Ca f'/\FnOk prog w K mg base (iA prog w) k' f' fd ps (tM K n (make C))/\c7 (k'+1) (A.deeper (envOfC q (ao st) s.heap.objs.size f cU))/\mg C=some (.ref Ca)/\cK K fd ps [])
  (ZG:∀rs,DY=some rs->Nf (VL P x st cls make DY DZ (run P k)) (eY (iA prog w) prog w K mg base (bS st) q (ao st) f cU A ax s H E) rs)
  (ZH:∀n ω,DZ=some (n,ω)->G5 (eY (iA prog w) prog w K mg base (bS st) q (ao st) f cU A ax s H E) aa ae n ω) :
  ZC (VL P x st cls make DY DZ (run P k)) (eY (iA prog w) prog w K mg base (bS st) q (ao st) f cU A ax s H E) aa ae:=by
 refine⟨⟨rfl,rfl,S.nd,S.kind,rfl,hr.hd,?_,λ_ _=>rfl,λy n hy=>?_,O.cons,O.dB,O.tabs,O.eL,O.ns,O.Ng,hcl,ZG,ZH,VP (X:=eY (iA prog w) prog w K mg base (bS st) q (ao st) f cU A ax s H E) O ih rfl rfl rfl rfl rfl (hr.mono hj),VO (X:=eY (iA prog w) prog w K mg base (bS st) q (ao st) f cU A ax s H E) O ih rfl rfl rfl rfl rfl (hr.mono hj),O.wW⟩,PassesOwn.leaving⟩
 ·have:=hr.un;show(A.deeper _).units+1150<cLine
  lia
 ·obtain⟨i,f',ED,ps,h1,h2,h3,h4,h5⟩:=VN (X:=eY (iA prog w) prog w K mg base (bS st) q (ao st) f cU A ax s H E) O ih rfl rfl rfl rfl rfl y n hy;exact⟨i,f',ED,ps,h2,hr.mono (aX h1 hj),h3,h4,h5⟩
def HL{C:Str}{st:Stmt}{f:Addr}{fd:FuncData}(h:P.cls.lookup C=some st)(F:Mu K "__init__" (C++".__init__") st f fd)(S:cL (bS st) (params st) (ao st)):FnOk prog w K mg base (iA prog w) (3*k+1) f fd (params st) (tM K (params st).length (Ss P (run P k) C)):=by
 have e:Ss P (run P k) C=iI (rdI P C st (run P k)) (bS st).length:=by
  unfold Ss;rw[h]
 rw[e];exact PQ F S λcU A ax s H E _ hr aa ae=>(ZE AW).ss _ _ aa ae _ (Nl O ih S hr (aF _) (λ_ _ z=>by cases z) (λ_ z=>by cases z) λ_ _ z=>by cases z)
end
theorem HM{P:Pg}(O:jI P w K mg)(hB:P.se≠[]->FY mg base):∀(k:Nat),FR P prog w K mg base k
 | 0=>λx nm q st f fd dV h F S=>by
  have no:∀vs H Q E,¬tM K (params st).length (run P 0 x) vs H Q E:=λvs H Q E zz=>by obtain⟨_,_,_,_,_,_,_,_,_,_,z,_⟩:=zz;cases z
  exact⟨λvs H Q E h=>absurd h (no vs H Q E),λA ax s H args us vs Q E _ _ _ _ h=>absurd h (no vs H Q E)⟩
 | k+1=>λx nm q st f fd dV h F S=>by
  have ih:=HM (P:=P) O hB k;rw[QE h];refine QD (k:=3*k+2) F S λcU A ax s H E WZ hr aa ae=>(ZE AW).ss _ _ aa ae _ (Nl O ih S hr (zx _ _) (λC n hy=>?_) (λrs e=>by cases e) λ_ _ z=>by cases z)
  unfold LA at hy;rw[ia (λst=>(params st).length)]at hy
  obtain⟨st',h1,h2⟩:=aR hy;subst h2;obtain⟨Ca,f',ED,a,c,M,m1,F1,B1,S1⟩:=O.cls C st' h1;exact⟨3*k+1,Ca,f',ED,params st',a,c,M,HL O ih h1 F1 S1,hr,m1,B1⟩
def yR(ns:List Int):PV:=.lst (ns.map .int)
theorem yd{F:Fz}:∀ns:List Int,aw K F (ns.map .int) (ns.map V.int)
 | []=>.nil
 | n::r=>.cons (aC.mpr rfl) (yd r)
end
theorem fI{α β:Type} [BEq α] [LawfulBEq α] {k:α} {v:β}:∀{l:List (α×β)},l.lookup k=some v->(k,v)∈l
 | [],h=>by cases h
 | (a,b)::l,h=>by
  rw[eN]at h;cases z:k==a with
  | true =>
   rw[z]at h;cases h;rw[aY z];exact dy
  | false =>
   rw[z]at h;exact cW _ (fI h)
def C9.at{K:W.Frag}{h:Heap}{mg:Str->Option Value}{P:Params}{T:Str}{rows:List (Str×Str)}(x:C9 K P T rows)(X:K.In h)(G:h.Ns mainGlobals mg):Ce K mg P T rows:=by
 obtain⟨a,es,n,h1,h2,h3,h4⟩:=x;refine⟨a,es,n,W.mg_of X G h1,h2,h3,λk fn e=>?_⟩
 obtain⟨f,h5,h6⟩:=h4 (k,fn) (fI e);exact⟨f,h5,W.mg_of X G h6,h6⟩
def wX.at{K:W.Frag}{h:Heap}{mg:Str->Option Value}{P:Params}{T:Str}{rows:List (Str×PV)}(x:wX K P T rows)(X:K.In h)(G:h.Ns mainGlobals mg):vI K mg P T rows:=by
 obtain⟨a,es,n,h0,h1,h2,h3,h4⟩:=x;exact⟨a,es,n,h0,W.mg_of X G h1,h2,h3,λk p e=>h4 (k,p) (fI e)⟩
def EU.at{K:W.Frag}{h base:Heap}{mg:Str->Option Value}(b:EU K)(X:K.In h)(G:h.Ns mainGlobals mg)(Y:K.In base):FY mg base :=
 let ⟨bm,o,h1,h2,h3,h4,h5⟩:=b;⟨bm,o,W.mg_of X G h1,h2,h3,Y _ _ h4,h5⟩
def ye(K:W.Frag):List (Addr×Str):=dA.filterMap λx=>(W.tabIn K x).map λcT=>(cT.2,JN x)
def D9(K:W.Frag):(ye K).map (·.1)=dA.filterMap λx=>(W.tabIn K x).map (·.2):=by
 unfold ye;rw[List.map_filterMap]
 congr 1
 funext x
 cases W.tabIn K x<;>rfl
def lL.tabs{K:W.Frag}{h:Heap}(t:lL K h)(X:K.In h):(∀b q,(ye K).lookup b=some q->h.get? b=some {cls:=.none,data:=.fields #[]}/\isCodeTable h b/\K.lookup b=none)/\∀H:Hp,(∀b q,(ye K).lookup b=some q->H b=some (.zI q))->p9 K H:=by
 refine⟨λb q e=>?_,λH hH x hx c T e=>?_⟩
 ·have hm:=fI e;unfold ye at hm;obtain⟨x,hx,e2⟩:=pH.mp hm;obtain⟨cT,e3,e4⟩:=kJ.mp e2;cases e4;obtain⟨h1,h2,h3⟩:=t.at_ x hx cT.1 cT.2 e3;obtain⟨o,vs,_,_,_,_,_,_,_,g1,g2,g3,g4,_⟩:=W.codeHd_of_K X h1;exact⟨h2,⟨_,o,vs,g1,g2,g3,g4⟩,h3⟩
 ·refine hH T (JN x) (jW (by rw[D9];exact t.nd) ?_)
  exact pH.mpr ⟨x,hx,by rw[e];rfl⟩
def VQ(P:Pg):Bool:=P.se.isEmpty || (match P.defs.lookup ("spread":Str)with | some st=>(params st).length==2 | none=>true)
theorem jc{α β:Type} [BEq α] [LawfulBEq α] {x:α}:∀{l:List (α×β)},x∉l.map (·.1)->l.lookup x=none
 | [],_=>rfl
 | (a,b)::l,h=>by
  rw[aO,aD,not_or]at h;rw[eN,bO.mpr h.1];exact jc h.2
theorem HN{P:Pg}(hn:(P.defs.map (·.1)++P.gC.map (·.1)).Nodup){d:Str×(Str×Str×Stmt)}(hd:d∈P.gC):lp P d.1=some d.2.2.2:=by
 rw[zo]at hn;have h1:P.defs.lookup d.1=none:=jc λz=>hn.2.2 _ z _ (zh (f:=λy:Str×(Str×Str×Stmt)=>y.1) hd) rfl
 have h2:P.gC.lookup d.1=some d.2:=jW hn.2.1 hd;unfold lp;rw[h1,h2];rfl
def ZI{P:Pg}{K:W.Frag}{h:Heap}{mg:Str->Option Value}(X:K.In h)(G:h.Ns mainGlobals mg)(hd:∀d∈P.defs,ET K P.jv d.1 d.2)(hm:∀d∈P.gC,NI K d)(hm0:∀C∈P.wW,NJ K C)(ND:(P.defs.map (·.1)++P.gC.map (·.1)).Nodup)
  (hc:∀d∈P.cons,∃u v,W.nsIn K mainGlobals d.1=some (some u)/\RelV v u/\∀F,bB K F d.2 v) (hb:∀x∈P.dB,W.nsIn K mainGlobals x=some none) {w:World} (ht:∀d∈P.tabs,C9 K w.params d.1 d.2) (hcl:∀d∈P.cls,NH K d.1 d.2 P.flds) (hct:∀d∈P.eL,wX K w.params d.1 d.2) (LS:VQ P=true) (hlm:∀x∈P.se,NK K x):jI P w K mg where
 fns:=λx st e=>by
  obtain⟨⟨f,fd,dV,a,F,b,c,_⟩,s⟩:=hd (x,st) (fy e);exact⟨f,fd,dV,F,b,W.mg_of X G a,s,c⟩
 gC:=λd hdm=>by
  obtain⟨Ca,f,fd,dV,h1,h2,h3,h4,h5⟩:=hm d hdm;exact⟨Ca,f,fd,dV,h1,h2,h3,h4,h5,HN ND hdm⟩
 wW:=λC e=>by
  obtain⟨Ca,h1,h2,h3⟩:=hm0 C (by simpa using e)
  exact⟨Ca,h1,h2,h3,W.mg_of X G h1⟩
 cons:=λx p e=>by
  obtain⟨u,v,a,r,b⟩:=hc (x,p) (fy e);exact⟨u,v,W.mg_of X G a,r,b⟩
 dB:=λx e=>W.mg_none_of X G (hb x (by simpa using e))
 tabs:=λT rows e=>(ht (T,rows) (fI e)).at X G
 eL:=λT rows e=>(hct (T,rows) (fI e)).at X G
 ns:=λx a e=>W.mg_of X G e
 Ng:=λC e=>by
  have e:C∈P.cls.map (·.1):=by simpa using e
  obtain⟨d,hd,rfl⟩:=dR.mp e;obtain⟨Ca,f,fd,a,M,c,na,F,b,s⟩:=hcl d hd;exact⟨Ca,a,c,λg hg=>na g (by simpa using hg)⟩
 cls:=λC st e=>by
  obtain⟨Ca,f,fd,a,M,c,na,F,b,s⟩:=hcl (C,st) (fy e);exact⟨Ca,f,fd,a,c,M,W.mg_of X G a,F,.all b,s⟩
def Xf(o:Option (Rs PV×List ah)):Prop:=∃h,o=some (.ok (.bl true),h)
def QF{K:W.Frag}{P:Pg}{k:Nat}{H:Hp}{a:Addr}{ns:List Int}(hr:Xf (run P k "law" [yR ns] []))(hS:iZ K H a (ns.map V.int)):tM K 1 (run P k "law") [.ref a] H (λv _=>v=.bl true) λ_ _ _=>False :=
 let ⟨h,e⟩:=hr
 ⟨H,⟨H,[]⟩,[],[yR ns],_,h,⟨cA.refl H,cA.refl H,Gr.refl _,λ_ _ e=>.inl e,λn a e=>by simp at e,rfl,uR,λn c a e=>by simp at e⟩,λ_ _ e=>.inl e,.cons (dr.mpr ⟨a,_,rfl,hS,yd ns⟩) .nil,rfl,e,λv F' H' _ b=>br.mp b⟩
def HP{P:Pg}{N:Nat}{x:Str}{st:Stmt}{l:W.OpenLaw}{q:Program}{loose:List Str}{XP:(Str->Option Value)->Heap->Prop}{YP:World->Heap->Prop}{d:DefRec}(rW:P.defs.lookup ("law":Str)=some st)(hx:params st=[x])
  (hn:l.most=some 63) (Za:d.name="law") (SS:d.params.defaults=[]) (hr:c7 (3*N) callerA) (LS:VQ P=true) (ND:(P.defs.map (·.1)++P.gC.map (·.1)).Nodup) (PC:P.jv.lookup ("law":Str)=none) (hY:∀(w:World) (h:Heap),YP w h->∃K:W.Frag,K.In h/\EV P w K/\lL K h)
  (ZJ:∀ns:List Int,ns.length<=63->Xf (run P N "law" [yR ns] [])):W.WalkO q loose XP YP l.row.toRowW d [] (λf vs=>PySem.call f vs):=by
 refine Att.xn hn SS λw s₀ s₁ mg mb fa o pm cd doc a vs ns G Y ho hd yO Sf FW FX dX hg=>?_
 obtain⟨K,KX,T,TH⟩:=hY w _ Y;obtain⟨t1,t2⟩:=TH.tabs KX;have O:=ZI KX G.T.g T.hd T.hm T.hm0 ND T.hc T.hb T.ht T.hcl T.hct LS T.hlm;obtain⟨⟨f,fd,dV,e0,F,_,_,b⟩,s⟩:=T.hd ("law",st) (fy rW);have b:=b PC;rw[Za]at Sf;have e:=Sf.symm.trans (W.mg_of KX G.T.g e0);cases e;rw[hx]at b;refine Dx (CX:=iA l.prog w) KX G.T.g G.T.b G.T.builtins G.T.nolimit hg t1 t2 FW FX (aX dX (by decide)) hr (λbase kb _=>?_) (λs u=>.of_eq (b [u] rfl)) (λH hS=>QF (ZJ ns dX) hS) (by rintro _ _ _ ⟨_,_,_,_,_,_,_,_,_,_,_,h,_⟩;exact h)
 have k:=HM (prog:=l.prog) O (λz=>(T.hbm z).at KX G.T.g kb) N "law" "law" "law" st _ fd dV (qT rW) F s
 rw[hx]at k;exact k
abbrev Ev{α:Type}(f:Gx α)(s:cq)(a:α)(s':cq):Prop:=f s=some (.ok a,s')
abbrev Ek {α : Type} (f : Gx α) (s : cq) (a : α) : Prop := Ev f s a s
section
variable {α β:Type} {s s1 s2 s3:cq}
def eB(h:Ev f s a s1)(h2:k a s1=r):bnd f k s=r:=by
 show(f s).bind (OP k)=r;rw[h];exact h2
variable {fa fb fe:Gx PV} {ts:Gx (List PV)} {p q x y z:PV} {ps as:List PV}
def b2(ha:Ev fa s x s1)(hb:Ev fb s1 y s2)(h:g s2.h x y=some z):Ev (op2 g fa fb) s z s2:=eB ha (eB hb (by show(g s2.h x y).map _=_;rw[h];rfl))
def tR(h:Ev fa s p s1)(ht:lq s1.h p=some b):Ev (sk fa) s b s1:=eB h (by show(lq s1.h p).map _=_;rw[ht];rfl)
variable {f g:Gx dw} {r:Option (Rs dw×cq)}
def ZK(e:f ⟨ix n as,h⟩=some (.ok (.rt p),⟨ρ',h'⟩)):iI f n as h=some (.ok p,h'):=by
 unfold iI;rw[e];rfl
def ZL(e:f ⟨ix n as,h⟩=some (.ok .nx,⟨ρ',h'⟩)):iI f n as h=some (.ok .aP,h'):=by
 unfold iI;rw[e];rfl
variable {t:Tg} {body:Gx dw}
def fC(ht:t p s=some s1)(hb:Ev body s1 .nx s2)(h:fg t body ps s2=r):fg t body (p::ps) s=r:=eB (show Ev (stp (t p)) s .nx s1 by show(t p s).map _=_;rw[ht];rfl) (eB hb h)
def e1(ht:t p ⟨ρ,h⟩=some ⟨MV,h1⟩)(he:Ev fe ⟨MV,h1⟩ q ⟨QG,h2⟩):oG t fe ρ p h=some (some q,h2):=by
 unfold oG;rw[ht,jo,he];rfl
def e2T(ht:t p ⟨ρ,h⟩=some ⟨MV,h1⟩)(hw:Ev ft ⟨MV,h1⟩ true ⟨QG,h2⟩)(he:Ev fe ⟨QG,h2⟩ q ⟨ρ3,h3⟩):xG t ft fe ρ p h=some (some q,h3):=by
 unfold xG;rw[ht,jo,hw,jo];show(if true=true then(fe ⟨QG,h2⟩).bind _ else _)=_
 rw[if_pos rfl,he];rfl
def e2F(ht:t p ⟨ρ,h⟩=some ⟨MV,h1⟩)(hw:Ev ft ⟨MV,h1⟩ false ⟨QG,h2⟩):xG t ft fe ρ p h=some (none,h2):=by
 unfold xG;rw[ht,jo,hw];rfl
end
end L2.U
namespace L2.U
open PySem L2
def jJ(hp:noRef p=true):eF h p=some p:=by
 unfold eF;split
 ·rfl
 ·unfold lx;rw[if_pos hp]
end L2.U
noncomputable section
namespace bG
open PySem L2 L2.U
abbrev VR:Stmt:=top 114
noncomputable def eI:List Str:=["Box","Grip","Boxes","Frame","Run"]
noncomputable def eJ:List Str:=["number","pile","value","boxes","tag","entries","boxes_made","tags_made","at","has","row","program","world","numbers","listed","frames","said","count"]
def EE(c:CT):CT:=Ss aI c
def ZM(x:Str)(st:Stmt)(mk:CT)(cls:List (Str×Nat))(c:CT):Gm:={VL aI x st cls mk (VM aI x c) none c with clss:=eI,flds:=eJ}
def rdT(x:Str)(st:Stmt)(c:CT):Gx dw:=jb AW (ZM x st (EE c) (LA aI) c) (cj st)
abbrev kI (n : Int) : Gx PV := cC (.int n)
abbrev kS (s : Str) : Gx PV := cC (.str s)
abbrev Q0 := Ak 2 (qz (cS 4) (qz (cS 5) DA))
abbrev Q1 := Lb "frames" (rd 0)
abbrev Q2 := i7 (rd 2) (i7 (rd 4) (i7 (rd 1) (cC [])))
abbrev Q3 := oG (cS 1) (Dz (cC [])) [none,none]
def LB:List (Str×Nat):=aI.defs.map λd=>(d.1,(params d.2).length)
abbrev Rn(x:Str)(F:CT->Gx dw)(n:Nat):Prop:=∀k,run aI (k+1) x=iI (F (run aI k)) n
open Lean Meta in
dsimproc_decl ZN (Str.mk _):=λe=>do
 let .app _ (.app _ l):=e | return .continue
 let some l <-getListLit? l | return .continue
 return .done (mkApp (mkConst ``Str.ofString) (toExpr (String.ofList (l.toList.map λx=>Char.ofNat (x.nat?.getD 0)))))
open Lean in
dsimproc_decl ZO (Int.ofNat _):=λe=>do
 let .app _ n:=e | return .continue
 let some n:=n.nat? | return .continue
 return .done (toExpr (n:Int))
noncomputable def lbP(s:List Stmt):List Nat->List Stmt
 | []=>s
 | i::r=>lbP (match s[i]? with | some (.For _ _ b _ _) | some (.If _ b _ _) | some (.While _ b _ _) | some (.Try b _ _ _ _)=>b | _=>[]) r
noncomputable abbrev fN(a:Gx dw){f:Gx dw}(_:a=f:=by conv=>(lhs;reduce;simp only[ZN,ZO])):Gx dw:=f
def dJ(x:Str)(st:Stmt)(n k:Nat){f:CT->Gx dw}(h:∀k,run aI (k+1) x=iI (rdT x st (run aI k)) n:=by intro _;kernel_rfl)(e:∀c,rdT x st c=f c:=by intro c;conv=>(lhs;reduce;simp only[ZN,ZO])):run aI (k+1) x=iI (f (run aI k)) n:=by rw[h,e]
def qU(x:Str)(st:Stmt)(p:List Nat)(c:CT):Gx dw:=jb AW (ZM x st (EE c) (LA aI) c) (lbP (cj st) p)
def VS(x:Str)(st:Stmt)(c:CT):Gx dw:=jb AW (ZM x st noFn [] c) (cj st)
def Xg(x:Str)(st:Stmt)(n:Nat)(c:CT){f:CT->Gx dw}(h:∀c,EE c x=iI (VS x st c) n:=by intro _;kernel_rfl)(e:∀c,VS x st c=f c:=by intro c;conv=>(lhs;reduce;simp only[ZN,ZO])):EE c x=iI (f c) n:=by rw[h,e]
section
seal KQ xw Ld op2 aJ rd bnd i7 cC mv jC Ax oG xG cS BK Jr oF oB toB MR Ga OT lW Dz K7 KH xB cw Kr chain leO MP fE sE KJ cutE Gg MT qG cZ Ak qz DA sk PZ Pm lr PY fH dY eS Cf DQ WS Sl BZ OQ WU Ut KI G4 Ss Lb PF oI O7 WT cD Up Gi gf O8 OR iI Gq Pn Lh Qh Qa gtO PL lA EE eI eJ yb Vn Lu Hr vS qQ DX qO qP AJ gk eG
def QH(c:CT):=Xg "Box" Mx 4 c
def LC(c:CT):=Xg "Grip" Fo 3 c
def HQ(c:CT):=Xg "Frame" Bx 3 c
def QI(c:CT):=Xg "Run" My 3 c
def mw(k:Nat):=dJ "Boxes.new_tag" i4 1 k
def mx(k:Nat):=dJ "Boxes.new_box" i5 5 k
def oM(k:Nat):=dJ "Boxes.owned" kr 4 k
def sF(k:Nat):=dJ "Boxes.let" nY 3 k
def oN(k:Nat):=dJ "Boxes.touch" ku 3 k
noncomputable def bJ (c:CT):=fN (qU "Boxes.touch_boxes" dU [2] c)
def jg(k:Nat):=dJ "Boxes.touch_boxes" dU 8 k
def oO(k:Nat):=dJ "Boxes.store" kx 6 k
noncomputable def dM(c:CT):=fN (qU "Boxes.let_go" eP [0,0] c)
noncomputable def dN(c:CT):=fN (qU "Boxes.let_go" eP [0] c)
def nK(k:Nat):=dJ "Boxes.let_go" eP 5 k
def gP(k:Nat):=dJ "leaves" (top 7) 3 k
def yf(k:Nat):=dJ "kind_of" (top 14) 4 k
noncomputable def jK(c:CT):Gx dw :=
 (xw (lW (Cf LB c (DQ (λk=>(List.lookup k gH).map .fn) (op2 aJ (rd 5) (kI 0))) (i7 (rd 2) (i7 (rd 5) (cC [])))) (cS 6))
  (BK (Jr "list" oF (rd 3) (i7 (jC false [none,none,some 4] (Ax (WS (rd 6) (OT .lst (i7 (cC (.ak [(.str "rest"),(.str ""),(.bl false),(.int 0),(.int 0),(.str "")])) (cC []))))) (oG (cS 1) (op2 cZ (OT .ak (i7 (rd 2) (cC []))) (rd 1)))) (cC [])))))
noncomputable def HR(c:CT):Gx dw :=
 (xw (lW (op2 aJ (rd 0) (rd 1)) (cS 2))
  (xw (lW (Dz (cC [])) (cS 3))
  (xw (K7 (Sl (BZ (op2 aJ (rd 2) (kI 4)))) Q0 (jK c))
  (Ga (rd 3)))))
theorem HS:Rn "acts" HR 7:=λ_=>by kernel_rfl
def ub(k:Nat):=dJ "touch" (top 32) 6 k
def oP(k:Nat):=dJ "touch_whole" (top 33) 4 k
def yg(k:Nat):=dJ "at_acts" (top 34) 2 k
def nM(k:Nat):=dJ "operand_acts" (top 35) 2 k
def oQ(k:Nat):=dJ "target_acts" (top 36) 2 k
def my(k:Nat):=dJ "put_acts" (top 37) 2 k
def v5(k:Nat):=dJ "set_acts" (top 38) 2 k
def sG(k:Nat):=dJ "call_acts" (top 43) 3 k
def yh(k:Nat):=dJ "arg_act" (top 44) 4 k
def sH(k:Nat):=dJ "owner_act" (top 45) 2 k
def yi(k:Nat):=dJ "if_acts" (top 46) 2 k
def yj(k:Nat):=dJ "go_acts" (top 47) 2 k
def v7(k:Nat):=dJ "say_acts" (top 48) 2 k
def sJ(k:Nat):=dJ "give_acts" (top 49) 2 k
def yk(k:Nat):=dJ "read_by" (top 52) 3 k
def qV(k:Nat):=dJ "written_by" (top 53) 3 k
def wa(k:Nat):=dJ "place_of" (top 56) 4 k
def qW(k:Nat):=dJ "check_held" (top 63) 2 k
def wb(k:Nat):=dJ "boxes_of" (top 64) 2 k
def oR(k:Nat):=dJ "pile_behind" (top 65) 4 k
noncomputable def et(c:CT):=fN (qU "acts_by_row" (top 74) [1] c)
def oS(k:Nat):=dJ "acts_by_row" (top 74) 4 k
def AX(k:Nat):=dJ "row_of" (top 75) 2 k
def yl(k:Nat):=dJ "acts_of" (top 76) 2 k
def lB(k:Nat):=dJ "run_from_first" (top 77) 5 k
def uc(k:Nat):=dJ "begin" (top 78) 6 k
noncomputable def dE(c:CT):=fN (qU "run_on" (top 79) [0] c)
def AY(k:Nat):=dJ "run_on" (top 79) 2 k
def gQ(k:Nat):=dJ "do_row" (top 80) 4 k
def qX(k:Nat):=dJ "row_behind" (top 81) 4 k
noncomputable def cN(c:CT):=fN (qU "do_acts" (top 82) [1] c)
def oh(k:Nat):=dJ "do_acts" (top 82) 6 k
def qY(k:Nat):=dJ "do_act" (top 83) 6 k
def ym(k:Nat):=dJ "written" (top 84) 7 k
def wc(k:Nat):=dJ "strip_of" (top 85) 2 k
def qZ(k:Nat):=dJ "number_put" (top 86) 3 k
noncomputable def aE(c:CT):=fN (qU "numbers_found" (top 87) [2] c)
def mz(k:Nat):=dJ "numbers_found" (top 87) 7 k
def oi(k:Nat):=dJ "do_call" (top 88) 5 k
def oj(k:Nat):=dJ "do_give" (top 89) 4 k
def jL(k:Nat):=dJ "given_back" (top 90) 5 k
def mB(k:Nat):=dJ "owned_by" (top 91) 3 k
def kD(k:Nat):=dJ "take_back" (top 92) 4 k
def LD(k:Nat):=dJ "run" (top 94) 7 k
def we(k:Nat):=dJ "_law_cell_at" (top 96) 2 k
def AZ(k:Nat):=dJ "_law_whole" (top 97) 1 k
noncomputable def q9(c:CT):=fN (qU "_law_names" (top 98) [4,1] c)
noncomputable def lC(c:CT):=fN (qU "_law_names" (top 98) [4] c)
def A3(k:Nat):=dJ "_law_names" (top 98) 9 k
def Ea(k:Nat):=dJ "_law_spot" (top 99) 5 k
def wj(k:Nat):=dJ "_law_operand" (top 100) 4 k
def Eb(k:Nat):=dJ "_law_call" (top 101) 6 k
def HU(k:Nat):=dJ "_law_row" (top 102) 8 k
def Ec(k:Nat):=dJ "_law_wide" (top 103) 1 k
def A4(k:Nat):=dJ "_law_heads" (top 104) 6 k
noncomputable def iK(c:CT):=fN (qU "_law_rows" (top 105) [3] c)
def ud(k:Nat):=dJ "_law_rows" (top 105) 10 k
def wo(k:Nat):=dJ "_law_program" (top 106) 10 k
def A5(k:Nat):=dJ "_law_begin" (top 107) 6 k
def yn(k:Nat):=dJ "_law_number" (top 108) 3 k
def yo(k:Nat):=dJ "_law_reckon" (top 109) 3 k
def Ed(k:Nat):=dJ "_law_done" (top 110) 7 k
def dF(k:Nat):=dJ "_law_onward" (top 111) 4 k
noncomputable def bY(c:CT):=fN (qU "_law_due" (top 112) [4] c)
def HV(k:Nat):=dJ "_law_due" (top 112) 11 k
def Ee(k:Nat):=dJ "_law_told" (top 113) 2 k
def LF(k:Nat):=dJ "law" (top 114) 7 k
end
end bG
namespace L2.U
section
open PySem
theorem abS{α:Type}{o:Option α}{v:α}{st:cq}(h:o=some v):jZ o st=some (.ok v,st):=by show o.map _=_;rw[h];rfl
theorem aeq{α:Type}{g:List ah->Option α}{v:α}{st:cq}(h:g st.h=some v):hp g st=some (.ok v,st):=by show(g st.h).map _=_;rw[h];rfl
theorem VT{g:cq->Option cq}{st st':cq}(h:g st=some st'):stp g st=some (.ok .nx,st'):=by show(g st).map _=_;rw[h];rfl
theorem abT{α β:Type}{f:Gx α}{k:α->Gx β}{st s1:cq}{a:α}{r:Option (Rs β×cq)}(h:f st=some (.ok a,s1))(h2:k a s1=r):bnd f k st=r:=eB h h2
theorem aer{α:Type}{b:Bool}{f g:Gx α}{st:cq}{r:Option (Rs α×cq)}(h:b=true)(h2:f st=r):(if b=true then f else g) st=r:=by rw[if_pos h];exact h2
theorem aes{α:Type}{b:Bool}{f g:Gx α}{st:cq}{r:Option (Rs α×cq)}(h:b=false)(h2:g st=r):(if b=true then f else g) st=r:=by rw[if_neg (by rw[h];exact cR)];exact h2
theorem ZP{α:Type}{gc:Gx Bool}{f g:Gx α}{st s1:cq}{r:Option (Rs α×cq)}(h:gc st=some (.ok true,s1))(h2:f s1=r):oB gc f g st=r:=eB h h2
theorem ZQ{α:Type}{gc:Gx Bool}{f g:Gx α}{st s1:cq}{r:Option (Rs α×cq)}(h:gc st=some (.ok false,s1))(h2:g s1=r):oB gc f g st=r:=eB h h2
theorem wq{f:Gx dw}{n:Nat}{as:List PV}{h:List ah}{p:PV}{st':cq}(e:f ⟨ix n as,h⟩=some (.ok (.rt p),st')):iI f n as h=some (.ok p,st'.h):=ZK e
theorem ZR{f:Gx dw}{n:Nat}{as:List PV}{h:List ah}{st':cq}(e:f ⟨ix n as,h⟩=some (.ok .nx,st')):iI f n as h=some (.ok .aP,st'.h):=ZL e
theorem LG{n:Nat}{g:jD}{as:List PV}{st:cq}{p q:PV}{h':List ah}(hn:(st.h.isEmpty || aj as)=true)(hl:as.length=n)(hc:g as []=some (.ok p,h'))(hf:eF h' p=some q):jE n g as st=some (.ok q,st):=by
 unfold jE;rw[if_pos ⟨hl,hn⟩,hc];show(eF h' p).map _=_;rw[hf];rfl
theorem ZT{n:Nat}{g:jD}{as:List PV}{st:cq}{p q:PV}{h':List ah}(hn:(st.h.isEmpty || aj as)=true)(hl:as.length=n)(hc:g as []=some (.ok p,h'))(hf:eF h' p=some q):mv 0 n g as st=some (.ok q,st):=by
 unfold mv;rw[hn,if_pos (show((0==0)&&true)=true from rfl)]
 exact LG hn hl hc hf
theorem Xh{m n:Nat}{g:jD}{as:List PV}{st:cq}{p:PV}{h':List ah}(hn:((m==0)&&(st.h.isEmpty || aj as))=false)(hl:as.length=n)(hc:g as st.h=some (.ok p,h')):mv m n g as st=some (.ok p,⟨st.ρ,h'⟩):=by
 unfold mv;rw[hn,if_neg cR];unfold iy;rw[if_pos hl,hc];rfl
theorem Ef{α:Type}{f:α->PV}{q:α->PV}{h:List ah}{bd:PV->List ah->Option (Option PV×List ah)}:∀{L:List α},(∀x∈L,bd (f x) h=some (some (q x),h))->fu bd (L.map f) h=some (L.map q,h)
 | [],_=>rfl
 | x::L,H=>by
  show(bd (f x) h).bind _=_;rw[H x dy];show(fu bd (L.map f) h).map _=_;rw[Ef λy hy=>H y (cW _ hy)]
  rfl
theorem ZU{link:List (Option Nat)}{fi:Gx B3}{bd:Bd}{st s1:cq}{ps qs:List PV}{h':List ah}(hi:fi st=some (.ok (.sq ps),s1))(hl:ps.length<=4000000)(hc:fu (bd (dj link s1.ρ)) ps s1.h=some (qs,h')):jC false link fi bd st=some (.ok (.lst qs),⟨s1.ρ,h'⟩):=eB hi (by
 show(if ps.length<=gX then fu _ ps s1.h else none).bind _=_
 rw[if_pos (show ps.length<=gX from hl),hc]
 rfl)
theorem QJ{t:Tg}{fe:Gx PV}{ρ:List (Option PV)}{p q:PV}{h:List ah}{st1:cq}{QG:List (Option PV)}{h2:List ah}(ht:t p ⟨ρ,h⟩=some st1)(he:fe st1=some (.ok q,⟨QG,h2⟩)):oG t fe ρ p h=some (some q,h2):=by
 unfold oG;rw[ht,jo,he];rfl
theorem Su{bd:PV->List ah->Option (Option PV×List ah)}{h:List ah}:fu bd [] h=some ([],h):=rfl
theorem rf{bd:PV->List ah->Option (Option PV×List ah)}{p:PV}{ps qs:List PV}{o:Option PV}{h h1 h2:List ah}(e1:bd p h=some (o,h1))(e2:fu bd ps h1=some (qs,h2)):fu bd (p::ps) h=some (o.toList++qs,h2):=by
 show(bd p h).bind _=_;rw[e1];show(fu bd ps h1).map _=_;rw[e2];rfl
theorem Xi{n:Nat}{g:jD}{as:List PV}{st:cq}{p:PV}{h':List ah}(hl:as.length=n)(hc:g as st.h=some (.ok p,h')):iy n g as st=some (.ok p,⟨st.ρ,h'⟩):=by
 show(if as.length=n then(g as st.h).map λr=>(UX r.1,(⟨st.ρ,r.2⟩:cq))else none)=_
 rw[if_pos hl,hc];rfl
theorem ZV{C:Str}{n:Nat}{g:jD}{as:List PV}{st:cq}{h':List ah}(hl:as.length+1=n)(hg:g (.ref st.h.length::as) (st.h++[⟨.ins C [],[]⟩])=some (.ok .aP,h')):Lu C n g as st=some (.ok (.ref st.h.length),⟨st.ρ,h'⟩):=by
 unfold Lu;rw[if_pos hl,hg];rfl
theorem ZW{fa:Gx PV}{st s1:cq}{ps:List PV}{c:ah}(h:fa st=some (.ok (.lst ps),s1))(hc:AD ps=some c):Lh fa st=some (.ok (.ref s1.h.length),⟨s1.ρ,s1.h++[c]⟩):=eB h (by
 show(AD ps).bind (λc=>j8 c s1)=_
 rw[hc];rfl)
noncomputable def gx{α:Type}(f:Gx α)(st:cq):Option (Rs α×cq):=f st
theorem abU{α:Type}{f:Gx α}{st:cq}{r:Option (Rs α×cq)}(h:f st=r):gx f st=r:=h
theorem bH{α:Type}{f:Gx α}{st:cq}{r:Option (Rs α×cq)}(h:gx f st=r):f st=r:=h
end
end L2.U
set_option maxHeartbeats 4000000
namespace bG
open PySem L2 L2.U
theorem ai{h:List ah}{n:Nat}{k:Kd}{ps:List PV}(e:h[n]?=some ⟨k,ps⟩)(hl:live ⟨k,ps⟩=true):da h (.ref n)=some (k,ps):=by
 show((h[n]?).bind λc=>if live c=true then some (c.k,c.ps)else none)=_
 rw[e,jo,if_pos hl]
theorem dO{h:List ah}{n:Nat}{k:Kd}{ps:List PV}(e:h[n]?=some ⟨k,ps⟩)(hl:live ⟨k,ps⟩=true):kf h (.ref n)=some (n,⟨k,ps⟩):=by
 show((h[n]?).bind λc=>if live c=true then some (n,c)else none)=_
 rw[e,jo,if_pos hl]
theorem HW{h:List ah}{n:Nat}{c:ah}(e:h[n]?=some c):h.set n c=h:=by
 apply List.ext_getElem?;intro i;by_cases hi:n=i
 ·subst hi;rw[e];simp[(de.mp e).1]
 ·rw[aL hi]
theorem bI{h:List ah}{n:Nat}{c d:ah}(e:h[n]?=some c):(h.set n d)[n]?=some d:=by
 simp[(de.mp e).1]
theorem eV{h:List ah}{n:Nat}{c:ah}(e:h[n]?=some c):n<h.length:=(de.mp e).1
theorem cO{h g:List ah}{n:Nat}{c:ah}(e:h[n]?=some c):(h++g)[n]?=some c:=by
 rw[fw (eV e),e]
theorem dk{h:List ah}{c:ah}:(h++[c])[h.length]?=some c:=by simp
theorem Ct{g:List ah}{c d:ah}:(g++[c]).set g.length d=g++[d]:=by simp
theorem gm{h:List ah}{n:Nat}{C f:Str}{ns:List Str}{ps:List PV}{v:PV}{ρ:List (Option PV)}(e:h[n]?=some ⟨.ins C ns,ps⟩)(hc:(eI.contains C&&eJ.contains f&&decide (ns.length<900))=true) :
  eG eI eJ f (.ref n) v ⟨ρ,h⟩=some ⟨ρ,h.set n ⟨.ins C (je f v ns ps).1,(je f v ns ps).2⟩⟩:=by
 unfold eG;rw[dO e rfl];exact if_pos hc
theorem fO{g:List ah}{C f:Str}{ns:List Str}{ps:List PV}{v:PV}{ρ:List (Option PV)}(hc:(eI.contains C&&eJ.contains f&&decide (ns.length<900))=true) :
  eG eI eJ f (.ref g.length) v ⟨ρ,g++[⟨.ins C ns,ps⟩]⟩=some ⟨ρ,g++[⟨.ins C (je f v ns ps).1,(je f v ns ps).2⟩]⟩:=by
 rw[gm dk hc,Ct]
def fP(t:Int):PV:=.lst [.ak [.int t,.str "own"]]
abbrev nN(m t:Int)(v:PV):ah:=⟨.ins "Box" ["number","pile","value"],[.int m,fP t,v]⟩
abbrev Ju(P:List PV)(t:Int):ah:=⟨.ins "Grip" ["boxes","tag"],[.lst P,.int t]⟩
noncomputable abbrev ji(nb nt:Int):ah:=⟨.ins "Boxes" ["entries","boxes_made","tags_made"],[.ref 1,.int nb,.int nt]⟩
theorem LH{h:List ah}{n:Nat}{m t:Int}{v w:PV}{ρ:List (Option PV)}(e:h[n]?=some (nN m t v)):eG eI eJ "value" (.ref n) w ⟨ρ,h⟩=some ⟨ρ,h.set n (nN m t w)⟩:=by
 rw[gm e (by kernel_rfl)]
 rfl
theorem HX{h:List ah}{n:Nat}{m t:Int}{v:PV}{ρ:List (Option PV)}(e:h[n]?=some (nN m t v)):eG eI eJ "pile" (.ref n) (fP t) ⟨ρ,h⟩=some ⟨ρ,h⟩:=by
 rw[gm e (by kernel_rfl)]
 show some (⟨ρ,h.set n (nN m t v)⟩:cq)=_;rw[HW e]
structure Ch (h h':List ah) (A:List Nat):Prop where
 le:h.length<=h'.length
 eq:∀n,n<h.length->n∉A->h'[n]?=h[n]?
theorem Ch.refl(h:List ah)(A:List Nat):Ch h h A:=⟨aF _,λ_ _ _=>rfl⟩
theorem Ch.app(h g:List ah)(A:List Nat):Ch h (h++g) A:=⟨by simp,λn hn _=>fw hn⟩
theorem Ch.set{h:List ah}{n:Nat}(c:ah):Ch h (h.set n c) [n]:=⟨by simp,λm _ hm=>aL (λz=>hm (by simp[z]))⟩
theorem Ch.tr{h h' Jq:List ah}{A B:List Nat}(a:Ch h h' A)(b:Ch h' Jq B)(hB:∀n∈B,n<h.length->n∈A):Ch h Jq A :=
 ⟨aX a.le b.le,λn hn hA=>by rw[b.eq n (bV hn a.le) λz=>hA (hB n z hn),a.eq n hn hA]⟩
theorem Ch.mono{h h':List ah}{A B:List Nat}(a:Ch h h' A)(hB:∀n∈A,n∈B):Ch h h' B:=⟨a.le,λn hn hA=>a.eq n hn λz=>hA (hB n z)⟩
theorem Ch.get{h h':List ah}{A:List Nat}(a:Ch h h' A){n:Nat}{c:ah}(e:h[n]?=some c)(hA:n∉A):h'[n]?=some c:=by
 rw[a.eq n (eV e) hA,e]
theorem fZ{h:List ah}{n:Nat}{c:ah}(e:h[n]?=some c):h.isEmpty=false:=by
 cases h with
 | nil=>simp at e
 | cons _ _=>rfl
theorem km(n:Nat)(L:List PV):aj (.ref n::L)=false:=rfl
theorem iU{h:List ah}{n:Nat}{L:List PV}{v:PV}{ρ:List (Option PV)}(e:h[n]?=some ⟨.lst,L⟩)(hl:L.length<4000000):fH (dY eS) (.ref n) [v] ⟨ρ,h⟩=some (.ok .aP,⟨ρ,h.set n ⟨.lst,L++[v]⟩⟩):=by
 show((kf h (.ref n)).bind λc=>(dY eS c.2 [v]).map λr=>_)=_
 rw[dO e rfl];have:eS L [v]=some (L++[v]):=if_pos (show L.length<gX from hl)
 show(((eS L [v]).map λqs=>((⟨.lst,qs⟩:ah),PV.aP)).map λr=>_)=_
 rw[this];rfl
def Wd(h:List ah)(k:Nat):Prop:=∃nb nt es,h[0]?=some (ji nb nt)/\h[1]?=some ⟨.lst,es⟩/\es.length+k<=3000000
theorem Wd.ch{h h':List ah}{k:Nat}{A:List Nat}(w:Wd h k)(c:Ch h h' A)(hA:0∉A/\1∉A):Wd h' k:=by
 obtain⟨nb,nt,es,h0,h1,hk⟩:=w;exact⟨nb,nt,es,c.get h0 hA.1,c.get h1 hA.2,hk⟩
theorem Wd.mono{h:List ah}{k k':Nat}(w:Wd h k)(hk:k'<=k):Wd h k':=by
 obtain⟨nb,nt,es,h0,h1,h2⟩:=w;exact⟨nb,nt,es,h0,h1,by lia⟩
theorem Wd.add{h:List ah}{k:Nat}{v:PV}(w:Wd h (k+1)):∃es,h[1]?=some ⟨.lst,es⟩/\es.length<4000000/\Wd (h.set 1 ⟨.lst,es++[v]⟩) k:=by
 obtain⟨nb,nt,es,h0,h1,h2⟩:=w;exact⟨es,h1,by lia,nb,nt,es++[v],by rw[aL (by decide),h0],bI h1,by simp;lia⟩
theorem HY{h:List ah}{a b:Int}:qG h (.int a) (.int b)=some (.bl (a==b)):=rfl
end bG
namespace L2.U
section
open Lean Meta
abbrev zq9wh (e : Lean.Expr) : MetaM Lean.Expr := withDefault (whnf e)
abbrev zq9sm (e : Lean.Expr) : SimpM Simp.Result := withReducible (Simp.simp e)
def zq9er {α : Type} : SimpM α := throwError "e"
def zq9isT9 (e : Lean.Expr) : Bool := e.isConstOf ``Bool.true
def zq9isF9 (e : Lean.Expr) : Bool := e.isConstOf ``Bool.false
def zq9mkn (n : Lean.Name) (a : Array Lean.Expr) : Lean.Expr := mkAppN (mkConst n) a
def zq9mkS (a b : Lean.Expr) : Lean.Expr := mkApp2 (mkConst ``cq.mk) a b
def zq9one (c : Lean.Expr) : Lean.Expr := mkApp3 (mkConst ``List.cons [0]) (mkConst ``ah) c (mkApp (mkConst ``List.nil [0]) (mkConst ``ah))
def zq9stH (s : Lean.Expr) : MetaM (Lean.Expr × Lean.Expr) := do
 let t ← zq9wh s
 if t.isAppOfArity ``cq.mk 2 then return (t.appFn!.appArg!, t.appArg!) else return (mkApp (mkConst ``cq.ρ) s, mkApp (mkConst ``cq.h) s)
def zq9eqR (q : Lean.Expr) : SimpM Lean.Expr := do
 match (← inferType q).eq? with
 | some (_, _, r) => return r
 | none => zq9er
def zq9prf (r : Simp.Result) (e x : Lean.Expr) : MetaM Lean.Expr := do mkExpectedTypeHint (← r.getProof) (← mkEq e x)
def zq9rflT (e d : Lean.Expr) : MetaM Lean.Expr := do mkExpectedTypeHint (← mkEqRefl d) (← mkEq e d)

def zq9nList (w : Bool) : Nat → Lean.Expr → MetaM Lean.Expr
 | 0, e => return e
 | n + 1, e => do
  let d ← zq9wh e
  if d.isAppOfArity ``List.cons 3 then
   let a := d.appFn!.appArg!.headBeta
   let a ← if w then (do let b ← zq9wh a; return if b.isAppOf ``Option.some || b.isAppOf ``Option.none then b else a) else pure a
   return mkApp2 d.appFn!.appFn! a (← zq9nList w n d.appArg!)
  else if d.isAppOf ``List.nil then return d
  else return e
def zq9natOf : Nat → Lean.Expr → MetaM (Option Nat)
 | 0, _ => return none
 | n + 1, e => do
  let d ← zq9wh e
  match d with
  | .lit (.natVal k) => return some k
  | _ => if d.isAppOfArity ``Nat.succ 1 then return (← zq9natOf n d.appArg!).map (· + 1) else if d.isConstOf ``Nat.zero then return some 0 else return none
def zq9isLit (e : Lean.Expr) : Nat → Bool
 | 0 => false
 | n + 1 => e.isAppOf ``List.nil || (e.isAppOfArity ``List.cons 3 && zq9isLit e.appArg! n)
def zq9stripH : Nat → Lean.Expr → MetaM Lean.Expr
 | 0, e => return e
 | n + 1, e => do
  if e.isAppOfArity ``cq.h 1 then
   let s ← whnfCore e.appArg!
   let s ← if s.isAppOfArity ``cq.mk 2 then pure s else zq9wh s
   if s.isAppOfArity ``cq.mk 2 then zq9stripH n s.appArg! else return e
  else if e.isAppOfArity ``HAppend.hAppend 6 then return mkApp2 e.appFn!.appFn! (← zq9stripH n e.appFn!.appArg!) e.appArg!
  else if e.isAppOfArity ``List.set 4 then
   let as := e.getAppArgs
   return mkAppN e.getAppFn #[as[0]!, ← zq9stripH n as[1]!, as[2]!, as[3]!]
  else return e
def zq9nVal (v : Lean.Expr) : MetaM Lean.Expr := do
 let v ← withReducible (whnf v.headBeta)
 if v.isAppOfArity ``PV.ref 1 then
  if v.appArg!.isLit then return v
  match ← zq9natOf 60 v.appArg! with
  | some k => return mkApp (mkConst ``PV.ref) (mkNatLit k)
  | none => if v.appArg!.isAppOfArity ``List.length 2 then return mkApp v.appFn! (mkApp v.appArg!.appFn! (← zq9stripH 60 v.appArg!.appArg!)) else return v
 if v.isAppOfArity ``PV.nd 2 && !(v.appArg!.isAppOf ``List.map || zq9isLit v.appArg! 200) then
  let ps ← zq9nList false 200 v.appArg!
  return if zq9isLit ps 200 then mkApp v.appFn! ps else v
 if (← isConstructorApp? v).isSome || v.isFVar then return v
 if v.isProj || (← isMatcherApp v) || v.getAppFn.isProj then zq9wh v else match v.getAppFn with
 | .const c _ => if (← isProjectionFn c) || c == ``Option.get || c == ``ite || c == ``Option.getD then zq9wh v else return v
 | _ => return v
def zq9nCell (c : Lean.Expr) : MetaM Lean.Expr := do
 let d ← zq9wh c
 unless d.isAppOfArity ``ah.mk 2 do return c
 let k ← zq9wh d.appFn!.appArg!
 let k ← if k.isAppOfArity ``Kd.ins 2 then pure (mkApp k.appFn! (← zq9nList false 200 k.appArg!)) else pure k
 let ps ← zq9nList false 200 d.appArg!
 return mkApp2 d.appFn!.appFn! k ps
def zq9nHeap : Nat → Lean.Expr → MetaM Lean.Expr
 | 0, e => return e
 | n + 1, e => do
  let d ← zq9wh e
  if d.isAppOfArity ``List.cons 3 then return mkApp2 d.appFn!.appFn! (← zq9nCell d.appFn!.appArg!.headBeta) (← zq9nHeap n d.appArg!)
  else if d.isAppOf ``List.nil then return d
  else zq9stripH 60 e
def zq9nSta (e : Lean.Expr) : MetaM Lean.Expr := do
 let d ← zq9wh e
 if d.isAppOfArity ``cq.mk 2 then return mkApp2 d.appFn!.appFn! (← zq9nList true 200 d.appFn!.appArg!) (← zq9nHeap 200 d.appArg!) else return e
def zq9someArg? (e : Lean.Expr) : Option Lean.Expr := if e.isAppOfArity ``Option.some 2 then some e.appArg! else none
def zq9evB (b : Lean.Expr) : SimpM (Lean.Expr × Lean.Expr) := do
 let b := b.headBeta
 let d ← zq9wh b
 if zq9isT9 d || zq9isF9 d then return (d, ← mkExpectedTypeHint (← mkEqRefl d) (← mkEq b d))
 let r ← zq9sm b
 let r' ← if zq9isT9 r.expr || zq9isF9 r.expr then pure r.expr else do
  let d ← zq9wh r.expr
  pure (if zq9isT9 d || zq9isF9 d then d else r.expr)
 return (r', ← mkExpectedTypeHint (← r.getProof) (← mkEq b r'))
def zq9atRoot (o : Lean.Expr) : SimpM (Option Simp.Result) := withReducible do
 match ← Simp.rewritePost false o with
 | .visit r => return some r
 | .done r => return some r
 | .continue (some r) => return some r
 | .continue none => return none
def zq9evOx (o v : Lean.Expr) (r : Simp.Result) : SimpM (Option (Lean.Expr × Lean.Expr)) := do
 let v' ← if (← inferType v).isConstOf ``PV then zq9nVal v else pure v
 unless v'.isAppOfArity ``PV.bl 1 do return some (v', ← zq9prf r o (mkApp r.expr.appFn! v'))
 let (b', p) ← zq9evB v'.appArg!
 let f := mkLambda `x .default (mkConst ``Bool) (mkApp r.expr.appFn! (mkApp (mkConst ``PV.bl) (Lean.Expr.bvar 0)))
 let d := mkApp (mkConst ``PV.bl) b'
 return some (d, ← mkEqTrans (← r.getProof) (← mkExpectedTypeHint (← mkCongrArg f p) (← mkEq r.expr (mkApp r.expr.appFn! d))))
def zq9evOy (o : Lean.Expr) : SimpM (Option (Lean.Expr × Lean.Expr)) := do
 let r ← zq9sm o
 let d ← if (zq9someArg? r.expr).isSome then pure r.expr else zq9wh r.expr
 match zq9someArg? d with
 | some v => return some (v, ← zq9prf r o d)
 | none => return none
def zq9evOz (o d b : Lean.Expr) (k : Bool) : SimpM (Option (Lean.Expr × Lean.Expr)) := do
 let f := fun x => if k then x else mkApp (mkConst ``PV.bl) x
 let (b', p) ← zq9evB b
 return some (f b', ← mkExpectedTypeHint (← mkCongrArg (mkLambda `x .default (mkConst ``Bool) (mkApp d.appFn! (f (Lean.Expr.bvar 0)))) p) (← mkEq o (mkApp d.appFn! (f b'))))
def zq9evO (o : Lean.Expr) : SimpM (Option (Lean.Expr × Lean.Expr)) := do
 let o := o.headBeta
 if let some r ← zq9atRoot o then
  if let some v := zq9someArg? r.expr then return ← zq9evOx o v r
 let d ← zq9wh o
 let some v := zq9someArg? d | zq9evOy o
 let ty ← inferType v
 if ty.isConstOf ``cq then
  let v ← zq9nSta v
  return some (v, ← zq9rflT o (mkApp d.appFn! v))
 let k := ty.isConstOf ``Bool
 let v := v.headBeta
 let v ← if ty.isConstOf ``PV then zq9nVal v else pure v
 unless k || v.isAppOfArity ``PV.bl 1 do return some (v, ← zq9rflT o (mkApp d.appFn! v))
 let b := if k then v else v.appArg!
 let b' ← zq9wh b
 if zq9isT9 b' || zq9isF9 b' then
  let w := if k then b' else mkApp (mkConst ``PV.bl) b'
  return some (w, ← zq9rflT o (mkApp d.appFn! w))
 let some (v', p) ← zq9evOy o | zq9evOz o d b k
 let c := if v'.isAppOfArity ``PV.bl 1 then v'.appArg! else v'
 if zq9isT9 c || zq9isF9 c || (zq9someArg? (← zq9sm o).expr).isSome then return some (v', p)
 zq9evOz o d b k
def zq9okE (α a st : Lean.Expr) : Lean.Expr :=
 let rs := mkApp (mkConst ``Rs) α
 let pr := mkApp2 (mkConst ``Prod [0, 0]) rs (mkConst ``cq)
 mkApp2 (mkConst ``Option.some [0]) pr (mkApp4 (mkConst ``Prod.mk [0, 0]) rs (mkConst ``cq) (mkApp2 (mkConst ``Rs.ok) α a) st)
def zq9okH (a h : Lean.Expr) : Lean.Expr :=
 let rs := mkApp (mkConst ``Rs) (mkConst ``PV)
 let lc := mkApp (mkConst ``List [0]) (mkConst ``ah)
 let pr := mkApp2 (mkConst ``Prod [0, 0]) rs lc
 mkApp2 (mkConst ``Option.some [0]) pr (mkApp4 (mkConst ``Prod.mk [0, 0]) rs lc (mkApp2 (mkConst ``Rs.ok) (mkConst ``PV) a) h)
def zq9okArgs? (r : Lean.Expr) : Option (Lean.Expr × Lean.Expr) := do
 let x ← zq9someArg? r
 guard (x.isAppOfArity ``Prod.mk 4)
 let y := x.appFn!.appArg!
 guard (y.isAppOfArity ``Rs.ok 2)
 return (y.appArg!, x.appArg!)
def zq9nRes (e : Lean.Expr) : MetaM (Option Lean.Expr) := do
 let d ← zq9wh e
 let some x := zq9someArg? d | return none
 let x ← zq9wh x
 unless x.isAppOfArity ``Prod.mk 4 do return none
 let y ← zq9wh (x.appFn!.appArg!)
 let st ← zq9nSta x.appArg!
 let y ← if y.isAppOfArity ``Rs.ok 2 then (do let v ← (do let v := y.appArg!.headBeta; if (← inferType v).isConstOf ``PV then zq9nVal v else zq9wh v); pure (mkApp y.appFn! v)) else pure y
 return some (mkApp d.appFn! (mkApp2 x.appFn!.appFn! y st))
def zq9okV (a s : Lean.Expr) : Lean.Expr := zq9okE (mkConst ``PV) a s
def zq9okR9 (r : Lean.Expr) : SimpM (Lean.Expr × Lean.Expr) := match zq9okArgs? r with
 | some x => return x
 | none => zq9er
def zq9evP (o : Lean.Expr) : SimpM (Lean.Expr × Lean.Expr) := do
 match ← zq9evO o with
 | some x => return x
 | none => zq9er
def zq9nRs (e : Lean.Expr) : SimpM Lean.Expr := do
 match ← zq9nRes e with
 | some x => return x
 | none => zq9er
def zq9evUnfold : List Lean.Name := [``op2, ``i7, ``OT, ``KH, ``toB, ``sk, ``Kr, ``oB, ``xw, ``onK, ``qC, ``lW, ``Ga, ``BK, ``chain, ``OQ, ``WS, ``OR, ``Pm, ``Gg, ``cutE, ``Pn, ``DQ, ``WU, ``Lb, ``Jr, ``tyG, ``Ax, ``Sl, ``PF, ``BZ, ``Qh, ``Qa, ``K7, ``YV, ``Ld, ``Cf, ``MZ, ``Dz, `aei, ``Lh]
def zq9mkLe (a b : Lean.Expr) : MetaM (Option Lean.Expr) := do
 let p ← mkAppM ``LE.le #[a, b]
 let d ← mkAppM ``Decidable.decide #[p]
 let r ← zq9wh d
 if zq9isT9 r then return some (← mkAppM ``of_decide_eq_true #[← mkExpectedTypeHint (← mkEqRefl (mkConst ``Bool.true)) (← mkEq d (mkConst ``Bool.true))]) else return none
def zq9byS (p : Lean.Expr) : SimpM (Option Lean.Expr) := do
 let r ← zq9sm p
 if r.expr.isTrue then return some (← mkOfEqTrue (← r.getProof)) else return none
def zq9evE (go : Lean.Expr → SimpM (Lean.Expr × Lean.Expr)) (bd p h : Lean.Expr) : SimpM (Lean.Expr × Lean.Expr) := do
 let as := bd.getAppArgs
 let ρ := as.back!
 let st := mkApp2 (mkConst ``cq.mk) ρ h
 let (st1, pt) ← zq9evP (mkApp2 as[0]! p st)
 if bd.isAppOf ``oG then
  let (r1, p1) ← go (mkApp as[1]! st1)
  let (v, s2) ← zq9okR9 r1
  let q := zq9mkn ``QJ #[as[0]!, as[1]!, ρ, p, v, h, st1, s2.appFn!.appArg!, s2.appArg!, pt, p1]
  let r ← zq9eqR q
  return (r, q)
 else
  let (r1, p1) ← go (mkApp as[1]! st1)
  let (b, st2) ← zq9okR9 r1
  if zq9isF9 b then
   let q ← mkAppM ``e2F #[pt, p1]
   let r ← zq9eqR q
   return (r, q)
  else if zq9isT9 b then
   let (_, p2) ← go (mkApp as[2]! st2)
   let q ← mkAppM ``e2T #[pt, p1, p2]
   let r ← zq9eqR q
   return (r, q)
  else zq9er
def zq9evL (go : Lean.Expr → SimpM (Lean.Expr × Lean.Expr)) (bd h : Lean.Expr) : Nat → Lean.Expr → SimpM Lean.Expr
 | 0, _ => zq9er
 | m + 1, ps => do
  let d ← zq9wh ps
  if d.isAppOf ``List.nil then mkAppOptM ``Su #[some bd, some h]
  else if d.isAppOfArity ``List.cons 3 then
   let (_, p) ← zq9evE go bd d.appFn!.appArg!.headBeta h
   let p2 ← zq9evL go bd h m d.appArg!
   mkAppM ``rf #[p, p2]
  else zq9er
def zq9evC (go : Lean.Expr → SimpM (Lean.Expr × Lean.Expr)) (bd ps h : Lean.Expr) : SimpM Lean.Expr := do
 if let some r ← zq9atRoot (← mkAppM ``fu #[bd, ps, h]) then
  if (zq9someArg? r.expr).isSome then return ← r.getProof
 let d ← zq9wh ps
 if d.isAppOf ``List.nil || d.isAppOf ``List.cons then zq9evL go bd h 300 d
 else
  let d := if ps.isAppOfArity ``List.map 4 then ps else d
  unless d.isAppOfArity ``List.map 4 do
   let r ← zq9sm (← mkAppM ``fu #[bd, ps, h])
   if (zq9someArg? r.expr).isSome then return ← r.getProof
   zq9er
  let fn := d.getAppArgs[2]!
  let L := d.appArg!
  let α := d.getAppArgs[0]!
  withLocalDeclD `x α fun x => do
   let mem ← mkAppM ``Membership.mem #[L, x]
   withLocalDeclD `hx mem fun hx => do
    let thms ← (← Simp.getContext).simpTheorems.addTheorem (.fvar hx.fvarId!) hx
    Simp.withSimpTheorems thms do
     let (r, p) ← zq9evE go bd (mkApp fn x).headBeta h
     let some v := zq9someArg? r | zq9er
     let o := v.appFn!.appArg!
     match zq9someArg? o with
     | some q =>
      let q ← mkLambdaFVars #[x] q
      mkAppOptM ``Ef #[some α, some fn, some q, some h, some bd, some L, some (← mkLambdaFVars #[x, hx] p)]
     | none => zq9er
def zq9evLeaf (e : Lean.Expr) : SimpM (Lean.Expr × Lean.Expr) := do
 let r ← zq9sm e
 let x ← zq9nRs r.expr
 return (x, ← zq9prf r e x)
def zq9evRed (e : Lean.Expr) : SimpM (Lean.Expr × Lean.Expr) := do
 match ← zq9nRes e with
 | some x => return (x, ← mkExpectedTypeHint (← mkEqRefl x) (← mkEq e x))
 | none => zq9evLeaf e
def zq9evB1 (go : Lean.Expr → SimpM (Lean.Expr × Lean.Expr)) (c : Lean.Name) (f e : Lean.Expr) (as : Array Lean.Expr) : SimpM (Lean.Expr × Lean.Expr) := do
 let (r, p) ← go (mkApp as[2]! as[4]!)
 let (a, st) ← zq9okR9 r
 let (r2, p2) ← go (mkApp2 as[3]! a st).headBeta
 return (r2, zq9mkn ``abT #[as[0]!, as[1]!, as[2]!, as[3]!, as[4]!, st, a, r2, p, p2])
def zq9evB2 (go : Lean.Expr → SimpM (Lean.Expr × Lean.Expr)) (c : Lean.Name) (f e : Lean.Expr) (as : Array Lean.Expr) : SimpM (Lean.Expr × Lean.Expr) := do
 if as[0]!.isConstOf ``Bool && !(zq9isT9 as[1]! || zq9isF9 as[1]!) then
  let (b, p) ← zq9evB as[1]!
  let f := mkLambda `x .default (mkConst ``Bool) (zq9okE as[0]! (Lean.Expr.bvar 0) as[2]!)
  return (zq9okE as[0]! b as[2]!, ← mkExpectedTypeHint (← mkCongrArg f p) (← mkEq e (zq9okE as[0]! b as[2]!)))
 let x := zq9okE as[0]! as[1]! as[2]!
 return (x, ← zq9rflT e x)
def zq9evB3 (go : Lean.Expr → SimpM (Lean.Expr × Lean.Expr)) (c : Lean.Name) (f e : Lean.Expr) (as : Array Lean.Expr) : SimpM (Lean.Expr × Lean.Expr) := do
 let some (_, b, _) := as[1]!.eq? | zq9er
 let (b', p) ← zq9evB b
 if zq9isT9 b' then
  let (r, p2) ← go (mkApp as[3]! as[5]!)
  let α := (← zq9wh as[0]!).bindingBody!.appArg!.appFn!.appArg!.appArg!
  return (r, zq9mkn ``aer #[α, b, as[3]!, as[4]!, as[5]!, r, p, p2])
 else if zq9isF9 b' then
  let (r, p2) ← go (mkApp as[4]! as[5]!)
  let α := (← zq9wh as[0]!).bindingBody!.appArg!.appFn!.appArg!.appArg!
  return (r, zq9mkn ``aes #[α, b, as[3]!, as[4]!, as[5]!, r, p, p2])
 else zq9er
def zq9evB4 (go : Lean.Expr → SimpM (Lean.Expr × Lean.Expr)) (c : Lean.Name) (f e : Lean.Expr) (as : Array Lean.Expr) : SimpM (Lean.Expr × Lean.Expr) := do
 let st := mkApp2 (mkConst ``cq.mk) (← zq9nList true 200 (mkApp2 (mkConst ``ix) as[1]! as[2]!)) as[3]!
 let (r, p) ← go (mkApp as[0]! st)
 let (a, s1) ← zq9okR9 r
 let h1 := if s1.isAppOfArity ``cq.mk 2 then s1.appArg! else mkApp (mkConst ``cq.h) s1
 if a.isAppOf ``dw.rt then return (zq9okH a.appArg! h1, zq9mkn ``wq #[as[0]!, as[1]!, as[2]!, as[3]!, a.appArg!, s1, p])
 else if a.isConstOf ``dw.nx then return (zq9okH (mkConst ``PV.aP) h1, zq9mkn ``ZR #[as[0]!, as[1]!, as[2]!, as[3]!, s1, p])
 else zq9er
def zq9evB5 (go : Lean.Expr → SimpM (Lean.Expr × Lean.Expr)) (c : Lean.Name) (f e : Lean.Expr) (as : Array Lean.Expr) : SimpM (Lean.Expr × Lean.Expr) := do
 let k := if c == ``mv then 1 else 0
 let (ρ, h) ← zq9stH as[3 + k]!
 let as' ← zq9nList false 50 as[2 + k]!
 let q ← mkAppM ``Bool.or #[← mkAppM ``List.isEmpty #[h], ← mkAppM ``aj #[as']]
 let q ← if k == 1 then mkAppM ``and #[← mkAppM ``BEq.beq #[as[0]!, mkNatLit 0], q] else pure q
 let (b, pb) ← zq9evB q
 let hl ← mkExpectedTypeHint (← mkEqRefl as[k]!) (← mkEq (← mkAppM ``List.length #[as']) as[k]!)
 if zq9isT9 b then
  let q0 ← mkAppM ``Bool.or #[← mkAppM ``List.isEmpty #[h], ← mkAppM ``aj #[as']]
  let (_, pb0) ← zq9evB q0
  let cl := mkApp2 as[1 + k]! as' (← mkAppOptM ``List.nil #[some (mkConst ``ah)])
  let (r, p) ← go cl
  let some (v, h') := zq9okArgs? r | zq9er
  let fz := mkApp2 (mkConst ``eF) h' v
  let (qv, pf) ← zq9evP fz
  return (zq9okV qv as[3 + k]!, mkAppN (mkConst (if k == 1 then ``ZT else ``LG)) #[as[k]!, as[1 + k]!, as', as[3 + k]!, v, qv, h', pb0, hl, p, pf])
 else if zq9isF9 b && k == 1 then
  let (r, p) ← go (mkApp2 as[2]! as' h)
  let some (v, h') := zq9okArgs? r | zq9er
  return (zq9okV v (zq9mkS ρ h'), zq9mkn ``Xh #[as[0]!, as[1]!, as[2]!, as', as[4]!, v, h', pb, hl, p])
 else zq9er
def zq9evB6 (go : Lean.Expr → SimpM (Lean.Expr × Lean.Expr)) (c : Lean.Name) (f e : Lean.Expr) (as : Array Lean.Expr) : SimpM (Lean.Expr × Lean.Expr) := do
 unless zq9isLit as[2]! 300 || as[2]!.isAppOf ``List.cons do
  let r ← zq9sm e
  if (zq9someArg? r.expr).isSome then
   let x ← zq9nRs r.expr
   return (x, ← zq9prf r e x)
 let ps ← zq9wh as[2]!
 if ps.isAppOf ``List.cons || ps.isAppOf ``List.nil then
  let some d ← withDefault (unfoldDefinition? (mkAppN f #[as[0]!, as[1]!, ps, as[3]!])) | zq9er
  let (r, p) ← go (← whnfCore d)
  return (r, ← mkExpectedTypeHint p (← mkEq e r))
 else zq9evLeaf e
def zq9evB7 (go : Lean.Expr → SimpM (Lean.Expr × Lean.Expr)) (c : Lean.Name) (f e : Lean.Expr) (as : Array Lean.Expr) : SimpM (Lean.Expr × Lean.Expr) := do
 let (r, p) ← go (mkApp as[2]! as[4]!)
 let (src, st) ← zq9okR9 r
 unless src.isAppOf ``B3.sq do zq9er
 let ps0 := src.appArg!
 let (ps, p) ← if ps0.isAppOf ``List.map || zq9isLit ps0 300 then pure (ps0, p) else (do
  let r ← zq9sm ps0
  let lt := mkApp (mkConst ``List [0]) (mkConst ``PV)
  let lam := mkLambda `l .default lt (zq9okE (mkConst ``B3) (mkApp (mkConst ``B3.sq) (Lean.Expr.bvar 0)) st)
  return (r.expr, ← mkEqTrans p (← mkCongrArg lam (← r.getProof))))
 let ρ ← zq9nList true 100 (mkApp2 (mkConst ``dj) as[1]! st.appFn!.appArg!)
 let bd := mkApp as[3]! ρ
 let h := st.appArg!
 let le ← mkAppM ``LE.le #[← mkAppM ``List.length #[ps], mkNatLit 4000000]
 let hl ← match ← zq9mkLe (← mkAppM ``List.length #[ps]) (mkNatLit 4000000) with
  | some p => pure p
  | none => match ← zq9byS le with | some p => pure p | none => zq9er
 let hc ← zq9evC go bd ps h
 let rc ← zq9eqR hc
 let x := rc.appArg!
 let qs := x.appFn!.appArg!
 return (zq9okV (mkApp (mkConst ``PV.lst) qs) (zq9mkS st.appFn!.appArg! x.appArg!), zq9mkn ``ZU #[as[1]!, as[2]!, as[3]!, as[4]!, st, ps, qs, x.appArg!, p, hl, hc])
def zq9evB8 (go : Lean.Expr → SimpM (Lean.Expr × Lean.Expr)) (c : Lean.Name) (f e : Lean.Expr) (as : Array Lean.Expr) : SimpM (Lean.Expr × Lean.Expr) := do
 let (ρ, h) ← zq9stH as[3]!
 let as' ← zq9nList false 50 as[2]!
 let hl ← mkExpectedTypeHint (← mkEqRefl as[0]!) (← mkEq (← mkAppM ``List.length #[as']) as[0]!)
 let (r, p) ← go (mkApp2 as[1]! as' h)
 let some (v, h') := zq9okArgs? r | zq9er
 return (zq9okV v (zq9mkS ρ h'), zq9mkn ``Xi #[as[0]!, as[1]!, as', as[3]!, v, h', hl, p])
def zq9evB9 (go : Lean.Expr → SimpM (Lean.Expr × Lean.Expr)) (c : Lean.Name) (f e : Lean.Expr) (as : Array Lean.Expr) : SimpM (Lean.Expr × Lean.Expr) := do
 let (ρ, h) ← zq9stH as[4]!
 let l ← zq9nList false 50 as[3]!
 let hl ← mkExpectedTypeHint (← mkEqRefl as[1]!) (← mkEq (← mkAppM ``HAdd.hAdd #[← mkAppM ``List.length #[l], mkNatLit 1]) as[1]!)
 let cell := mkApp2 (mkConst ``ah.mk) (mkApp2 (mkConst ``Kd.ins) as[0]! (mkApp (mkConst ``List.nil [0]) (mkConst ``PySem.Str))) (mkApp (mkConst ``List.nil [0]) (mkConst ``PV))
 let h1 ← mkAppM ``HAppend.hAppend #[h, zq9one cell]
 let me := mkApp (mkConst ``PV.ref) (← mkAppM ``List.length #[h])
 let (r, p) ← go (mkApp2 as[2]! (mkApp3 (mkConst ``List.cons [0]) (mkConst ``PV) me l) h1)
 let some (_, h') := zq9okArgs? r | zq9er
 return (zq9okV me (zq9mkS ρ h'), zq9mkn ``ZV #[as[0]!, as[1]!, as[2]!, l, as[4]!, h', hl, p])
def zq9evB10 (go : Lean.Expr → SimpM (Lean.Expr × Lean.Expr)) (c : Lean.Name) (f e : Lean.Expr) (as : Array Lean.Expr) : SimpM (Lean.Expr × Lean.Expr) := do
 let (r, p) ← go (mkApp as[0]! as[1]!)
 let (v, s1) ← zq9okR9 r
 let v ← zq9nVal v
 unless v.isAppOfArity ``PV.nd 2 do zq9er
 let ps := v.appArg!
 let (cl, pc) ← zq9evP (mkApp (mkConst ``AD) ps)
 let (ρ, h) ← zq9stH s1
 let h ← zq9stripH 60 h
 let h1 ← mkAppM ``HAppend.hAppend #[h, zq9one cl]
 let me := mkApp (mkConst ``PV.ref) (← mkAppM ``List.length #[h])
 return (zq9okV me (zq9mkS ρ h1), zq9mkn ``ZW #[as[0]!, as[1]!, s1, ps, cl, p, pc])
def zq9evB11 (go : Lean.Expr → SimpM (Lean.Expr × Lean.Expr)) (c : Lean.Name) (f e : Lean.Expr) (as : Array Lean.Expr) : SimpM (Lean.Expr × Lean.Expr) := do
 let (r, p) ← go (mkApp as[1]! as[4]!)
 let (b, s1) ← zq9okR9 r
 if zq9isT9 b || zq9isF9 b then
  let t := zq9isT9 b
  let (r2, p2) ← go (mkApp (if t then as[2]! else as[3]!) s1)
  return (r2, mkAppN (mkConst (if t then ``ZP else ``ZQ)) #[as[0]!, as[1]!, as[2]!, as[3]!, as[4]!, s1, r2, p, p2])
 else zq9er
def zq9ev : Nat → Lean.Expr → SimpM (Lean.Expr × Lean.Expr)
 | 0, e => zq9er
 | n + 1, e => do
  let e := e.headBeta
  let f := e.getAppFn
  let as := e.getAppArgs
  match f with
  | .const c _ =>
   if c == ``bnd && as.size == 5 then
    zq9evB1 (zq9ev n) c f e as
   else if c == ``cC && as.size == 3 then
    zq9evB2 (zq9ev n) c f e as
   else if c == ``jZ && as.size == 3 then
    let (v, p) ← zq9evP as[1]!
    return (zq9okE as[0]! v as[2]!, zq9mkn ``abS #[as[0]!, as[1]!, v, as[2]!, p])
   else if c == ``hp && as.size == 3 then
    let (ρ, h) ← zq9stH as[2]!
    let (v, p) ← zq9evP (mkApp as[1]! h).headBeta
    return (zq9okE as[0]! v as[2]!, zq9mkn ``aeq #[as[0]!, as[1]!, v, as[2]!, p])
   else if c == ``stp && as.size == 2 then
    let (v, p) ← zq9evP (mkApp as[0]! as[1]!).headBeta
    return (zq9okE (mkConst ``dw) (mkConst ``dw.nx) v, zq9mkn ``VT #[as[0]!, as[1]!, v, p])
   else if c == ``ite && as.size == 6 then
    zq9evB3 (zq9ev n) c f e as
   else if c == ``iI && as.size == 4 then
    zq9evB4 (zq9ev n) c f e as
   else if (c == ``mv && as.size == 5) || (c == ``jE && as.size == 4) then
    zq9evB5 (zq9ev n) c f e as
   else if c == ``fg && as.size == 4 then
    zq9evB6 (zq9ev n) c f e as
   else if c == ``jC && as.size == 5 && zq9isF9 as[0]! then
    zq9evB7 (zq9ev n) c f e as
   else if c == ``iy && as.size == 4 then
    zq9evB8 (zq9ev n) c f e as
   else if c == ``Lu && as.size == 5 then
    zq9evB9 (zq9ev n) c f e as
   else if c == ``Lh && as.size == 2 then
    zq9evB10 (zq9ev n) c f e as
   else if c == ``run || c == ``Ss then zq9evLeaf e
   else if c == ``oB && as.size == 5 && as[0]!.isConstOf ``Bool && (as[2]!.isAppOf ``cC || as[3]!.isAppOf ``cC) then
    zq9evB11 (zq9ev n) c f e as
   else if zq9evUnfold.contains c then
    let some d ← withDefault (unfoldDefinition? e) | zq9evRed e
    zq9ev n (← whnfCore d)
   else
    let some d ← withDefault (unfoldDefinition? e) | zq9evRed e
    let d ← withReducible (whnf d)
    match d.getAppFn with
    | .const c' _ =>
     if c' == ``bnd || c' == ``cC || zq9evUnfold.contains c' then
      let (r, p) ← zq9ev n d
      return (r, ← mkExpectedTypeHint p (← mkEq e r))
     else zq9evRed e
    | _ => zq9evRed e
  | .fvar _ => zq9evLeaf e
  | _ => zq9evRed e
simproc_decl gY (gx _ _) := fun e => do
 let as := e.getAppArgs
 let (r, p) ← zq9ev 400 (mkApp as[1]! as[2]!)
 return .done { expr := r, proof? := zq9mkn ``abU #[as[0]!, as[1]!, as[2]!, r, p] }
simproc_decl bf (iI _ _ _ _) := fun e => do
 let (r, p) ← zq9ev 400 e
 return .done { expr := r, proof? := p }
end
end L2.U
namespace bG
open PySem L2 L2.U
theorem Cu(c:Nat)(t:Int):run aI (c+1) "place_of" [fP t,.int t] []=some (.ok (.int 0),[]):=by
 rw[wa];simp only[↓bf,fP,HY,iN];rfl
theorem Nn{f:Gx dw}{st st':cq}{x:dw}(h:f st=some (.ok x,st')):DX f st=some (.ok x,st'):=by
 unfold DX;rw[h]
theorem HZ(c:Nat)(t:Int):run aI (c+2) "read_by" [fP t,.int t] []=some (.ok (fP t),[]):=by
 have e1:=Cu c t;rw[yk];simp only[↓bf,e1];rfl
theorem H0(c:Nat)(t:Int):run aI (c+2) "written_by" [fP t,.int t] []=some (.ok (fP t),[]):=by
 have e1:=Cu c t;rw[qV];simp only[↓bf,e1];rfl
theorem H9(c:Nat)(t x:Int){w:Str}(hw:w="read"\/w="write"):run aI (c+3) "pile_behind" [fP t,.str w,.int t,.int x] []=some (.ok (fP t),[]):=by
 have e1:=HZ c t;have e2:=H0 c t;have nr:aj [fP t,.int t]=true:=rfl;rw[oR];refine wq (st':=⟨[some (fP t),some (.str w),some (.int t),some (.int x)],[]⟩) (Nn ?_);rcases hw with rfl | rfl
 ·refine bH ?_;simp only[↓gY,e1,nr]
 ·refine bH ?_;simp only[↓gY,e2,nr]
end bG
set_option maxHeartbeats 4000000
namespace bG
open PySem L2 L2.U
abbrev Pl:Type:=List (Nat×PV)
noncomputable def nO(P:Pl):List PV:=P.map λx=>.ref x.1
def jM(P:Pl):PV:=.lst (P.map λx=>x.2)
noncomputable def bD(x:Str):List dZ:=[.inr x]
def ue(h:List ah)(g:Nat)(P:Pl):Prop:=∃t,h[g]?=some (Ju (nO P) t)/\∀x∈P,∃m,h[x.1]?=some (nN m t x.2)
def A6(H:List (Str×Nat×Pl)):ah:=⟨.gB false (H.map λe=>bD e.1),H.map λe=>.ref e.2.1⟩
noncomputable abbrev uf(j:Int)(d:Nat)(r:Int):ah:=⟨.ins "Frame" ["at","has","row"],[.int j,.ref d,.int r]⟩
structure Ac where
 w:Str
 x:Str
 t:Bool
 f:Nat
 m:Nat
 k:Str
def c8(k:Nat)(a:Ac):PV:=.ak [.int (k:Int),.str a.w,.str a.x,.bl a.t,.int (a.f:Int),.int (a.m:Int),.str a.k]
def fQ(a:Ac):PV:=.ak [.str a.w,.str a.x,.bl a.t,.int (a.f:Int),.int (a.m:Int),.str a.k]
theorem ug{x:Str}:∀{H:List (Str×Nat×Pl)} {P:Nat×Pl},H.lookup x=some P->d8 (bD x) (H.map λe=>bD e.1) (H.map λe=>.ref e.2.1)=some (.ref P.1)
 | [],_,e=>by cases e
 | (y,Q)::H,P,e=>by
  show(if bD y=bD x then some (.ref Q.1)else d8 (bD x) (H.map λe=>bD e.1) (H.map λe=>.ref e.2.1))=_
  rw[eN]at e;by_cases h:x=y
  ·subst h;rw[if_pos rfl];rw[iN]at e;cases e;rfl
  ·rw[if_neg (λz=>h (by unfold bD at z;injection z with z1 _;injection z1 with z2;exact z2.symm))]
   rw[bO.mpr h]at e;exact ug e
theorem rh{h:List ah}{d:Nat}{H:List (Str×Nat×Pl)}{x:Str}{P:Nat×Pl}(e:h[d]?=some (A6 H))(l:H.lookup x=some P):aJ h (.ref d) (.str x)=some (.ref P.1):=by
 have e1:=ai (k:=.gB false (H.map λe=>bD e.1)) (ps:=H.map λe=>.ref e.2.1) e rfl
 simp only[aJ,e1];exact ug l
theorem Ia{h:List ah}{k:Nat}{a:Ac}:aJ h (c8 k a) (.int 2)=some (.str a.x):=rfl
theorem VU{h:List ah}{k:Nat}{a:Ac}:aJ h (c8 k a) (.int 4)=some (.int (a.f:Int)):=rfl
theorem VV{h:List ah}{k:Nat}{a:Ac}:aJ h (c8 k a) (.int 5)=some (.int (a.m:Int)):=rfl
theorem yp{h:List ah}{k:Nat}{a:Ac}:aJ h (c8 k a) (.int 1)=some (.str a.w):=rfl
theorem LI{α:Type}(f:α->PV)(P:List α)(a m:Nat)(hm:a+m<=P.length):iF (P.map f) (some (a:Int)) (some ((a:Int)+(m:Int)))=((P.drop a).take m).map f:=by
 unfold iF;have e:((a:Int)+(m:Int))=((a+m:Nat):Int):=rfl;rw[e,HT.lO,HT.lO,aN,pO (by lia),pO (by lia),Nat.add_sub_cancel_left,uY,List.map_drop]
noncomputable def bQ(H:List (Str×Nat×Pl))(a:Ac):Pl:=(((H.lookup a.x).map λP=>P.2).getD []).drop a.f |>.take a.m
structure oT (h:List ah) (fi d:Nat) (j r:Int) (H:List (Str×Nat×Pl)):Prop where
 f:h[fi]?=some (uf j d r)
 d:h[d]?=some (A6 H)
 p:∀e∈H,ue h e.2.1 e.2.2
 l:∀e∈H,e.2.2.length<=1000
def rj(H:List (Str×Nat×Pl))(a:Ac):Prop:=∃P,H.lookup a.x=some P/\a.f+a.m<=P.2.length
theorem wt{H:List (Str×Nat×Pl)}{x:Str}{P:Nat×Pl}:H.lookup x=some P->(x,P)∈H:=fM
theorem rk{H:List (Str×Nat×Pl)}{a:Ac}{P:Nat×Pl}(l:H.lookup a.x=some P):bQ H a=(P.2.drop a.f).take a.m:=by unfold bQ;rw[l];rfl
theorem VW(c:Nat){h:List ah}{fi d k:Nat}{j r:Int}{H:List (Str×Nat×Pl)}{a:Ac}(R:oT h fi d j r H)(ft:rj H a) :
  run aI (c+1) "boxes_of" [.ref fi,c8 k a] h=some (.ok (.lst (nO (bQ H a))),h):=by
 obtain⟨P,l,hm⟩:=ft;rw[rk l];rw[wb];have d1:=ai R.f rfl;have i1:=rh R.d l;obtain⟨t,g1,g2⟩:=R.p _ (wt l);have g1:h[P.1]?=some (Ju (nO P.2) t):=g1;have d2:=ai g1 rfl;simp only[↓bf,d1,d2,i1,Ia,VU,VV,nO,LI _ P.2 a.f a.m hm]
theorem wu{H:List (Str×Nat×Pl)}{a:Ac}{h:List ah}{fi d:Nat}{j r:Int}(R:oT h fi d j r H)(ft:rj H a):∃g Q t,aJ h (.ref d) (.str a.x)=some (.ref g)/\h[g]?=some (Ju Q t)/\∀x∈bQ H a,∃m,h[x.1]?=some (nN m t x.2):=by
 obtain⟨P,l,hm⟩:=ft;obtain⟨t,g1,g2⟩:=R.p _ (wt l);refine⟨P.1,_,t,rh R.d l,g1,λx hx=>g2 x ?_⟩
 rw[rk l]at hx;exact List.mem_of_mem_drop (List.mem_of_mem_take hx)
theorem QK(c:Nat){h:List ah}{fi d k:Nat}{j r:Int}{H:List (Str×Nat×Pl)}{a:Ac}(R:oT h fi d j r H)(ft:rj H a):run aI (c+1) "check_held" [.ref fi,c8 k a] h=some (.ok .aP,h):=by
 obtain⟨g,Q,t,i1,_,_⟩:=wu R ft;have d1:=ai R.f rfl;rw[qW];simp only[↓bf,d1,i1,Ia]
def Tw(a:Ac):Prop:=a.w="read"\/a.w="fill"\/a.w="turn"
theorem QL(c k:Nat){a:Ac}(h:Tw a):run aI (c+1) "asks_for_full" [c8 k a] []=some (.ok (.bl (!(a.w=="fill"))),[]):=by
 obtain⟨w,x,t,f,m,tk⟩:=a;have h:w="read"\/w="fill"\/w="turn":=h;rcases h with rfl | rfl | rfl<;>kernel_rfl
theorem yq(k:Nat)(a:Ac):noRef (c8 k a)=true:=by simp[c8,noRef,aj]
end bG
set_option maxHeartbeats 4000000
namespace bG
open PySem L2 L2.U
theorem ib{h:List ah}{i j:Nat}{c d:ah}(e:h[i]?=some c)(f:h[j]?=some d)(n:c≠d):i≠j:=by
 intro z;subst z;rw[e]at f;exact n (bE f)
theorem LJ(c:Nat){g:List ah}{fi d q k n:Nat}{j r m t:Int}{a:Ac}{L:List PV}{x:Nat×PV}(W:Wd g (n+1))(hf:g[fi]?=some (uf j d r))(hq:g[q]?=some ⟨.lst,L⟩)(hx:g[x.1]?=some (nN m t x.2))(q1:q≠1)(hw:Tw a)(hv:a.w≠"fill"->lZ x.2=false)(hL:L.length<=4000){x7:Option PV} :
  ∃g',bJ (run aI (c+4)) ⟨[some (.ref 0),some (.ref fi),some (c8 k a),some (.int (-1)),some (.ref q),some (.int t),some (.ref x.1),x7],g⟩=some (.ok .nx,⟨[some (.ref 0),some (.ref fi),some (c8 k a),some (.int (-1)),some (.ref q),some (.int t),some (.ref x.1),some (fP t)],g'⟩)/\Ch g g' [1,q]/\Wd g' n/\g'[q]?=some ⟨.lst,L++[x.2]⟩:=by
 have⟨nb,nt,_,h0,_,_⟩:=W;obtain⟨es,h1,hl,W1⟩:=Wd.add (v:=.ak [.int j,.int r,.str (if a.w="read" then "read" else "write"),.int m,.int t,.int (-1)]) W
 have ap:=λρ v=>iU (ρ:=ρ) (v:=v) h1 hl
 have x1:x.1≠1:=ib hx h1 (by intro z;cases z)
 obtain⟨g1,rZ⟩:∃g1,g1=g.set 1 ⟨.lst,es++[.ak [.int j,.int r,.str (if a.w="read" then "read" else "write"),.int m,.int t,.int (-1)]]⟩:=⟨_,rfl⟩
 rw[<-rZ]at W1;have c1:Ch g g1 [1]:=by rw[rZ];exact Ch.set _
 have bx:=c1.get hx (by simp;exact x1)
 have qx:=c1.get hq (by simp;exact q1)
 have d0:=ai h0 rfl;have d1:=ai h1 rfl;have df:=ai hf rfl;have db:=ai hx rfl;have VX:=ai bx rfl;have ZX:=ai qx rfl;have pp:=λρ=>HX (ρ:=ρ) bx
 have aq:=λρ v=>iU (ρ:=ρ) (v:=v) qx (by lia)
 have pr:=H9 (c+1) t (-1) (w:="read") (.inl rfl);have pw:=H9 (c+1) t (-1) (w:="write") (.inr rfl);have ZY:∀w:Str,aj [fP t,.str w,.int t,.int (-1)]=true:=λ_=>rfl
 have ZZ:aj [c8 k a]=true:=by simp[aj,yq]
 have as:=QL (c+3) k hw;have iso:∀h,Ut h x.2 .aP=some (.bl (lZ x.2)):=λh=>rfl
 have hE:=fZ hx;have nP:=fZ bx;refine⟨g1.set q ⟨.lst,L++[x.2]⟩,?_,?_,W1.ch (Ch.set _) ?_,bI qx⟩
 ·rcases hw with h | h | h
  ·have e1:∀h,aJ h (c8 k a) (.int 1)=some (.str "read"):=λ_=>by rw[yp,h]
   rw[h]at as rZ;have as:run aI (c+4) "asks_for_full" [c8 k a] []=some (.ok (.bl true),[]):=as;have ap:∀ρ,fH (dY eS) (.ref 1) [.ak [.int j,.int r,.str "read",.int m,.int t,.int (-1)]] ⟨ρ,g⟩=some (.ok .aP,⟨ρ,g1⟩):=λρ=>by rw[rZ];exact ap ρ _
   have v:=hv (by rw[h];decide)
   refine bH ?_
   delta bJ fN
   simp only[↓gY,d0,d1,df,db,VX,ZX,e1,ap,pr,ZY,ZZ,as,iso,v,pp,aq,hE,nP,cb,bW]
  ·have e1:∀h,aJ h (c8 k a) (.int 1)=some (.str "fill"):=λ_=>by rw[yp,h]
   rw[h]at as rZ;have as:run aI (c+4) "asks_for_full" [c8 k a] []=some (.ok (.bl false),[]):=as;have ap:∀ρ,fH (dY eS) (.ref 1) [.ak [.int j,.int r,.str "write",.int m,.int t,.int (-1)]] ⟨ρ,g⟩=some (.ok .aP,⟨ρ,g1⟩):=λρ=>by rw[rZ];exact ap ρ _
   refine bH ?_
   delta bJ fN
   simp only[↓gY,d0,d1,df,db,VX,ZX,e1,ap,pw,ZY,ZZ,as,iso,pp,aq,hE,nP,cb,bW]
  ·have e1:∀h,aJ h (c8 k a) (.int 1)=some (.str "turn"):=λ_=>by rw[yp,h]
   rw[h]at as rZ;have as:run aI (c+4) "asks_for_full" [c8 k a] []=some (.ok (.bl true),[]):=as;have ap:∀ρ,fH (dY eS) (.ref 1) [.ak [.int j,.int r,.str "write",.int m,.int t,.int (-1)]] ⟨ρ,g⟩=some (.ok .aP,⟨ρ,g1⟩):=λρ=>by rw[rZ];exact ap ρ _
   have v:=hv (by rw[h];decide)
   refine bH ?_
   delta bJ fN
   simp only[↓gY,d0,d1,df,db,VX,ZX,e1,ap,pw,ZY,ZZ,as,iso,v,pp,aq,hE,nP,cb,bW]
 ·exact Ch.tr (c1.mono (by simp)) (Ch.set _) (by simp)
 ·exact⟨by simp;exact(ib h0 hq (by intro z;cases z)),by simp;exact cx q1⟩
theorem Cv(c:Nat){fi d q k:Nat}{j r t:Int}{a:Ac}(q1:q≠1)(hw:Tw a):∀(P:Pl) (g:List ah) (n:Nat) (L:List PV) (x6 x7:Option PV),Wd g (n+P.length)->g[fi]?=some (uf j d r)->g[q]?=some ⟨.lst,L⟩->(∀x∈P,∃m,g[x.1]?=some (nN m t x.2))->(a.w≠"fill"->∀x∈P,lZ x.2=false)->L.length+P.length<=4000 ->
  ∃g' y6 y7,fg (cS 6) (bJ (run aI (c+4))) (nO P) ⟨[some (.ref 0),some (.ref fi),some (c8 k a),some (.int (-1)),some (.ref q),some (.int t),x6,x7],g⟩=some (.ok .nx,⟨[some (.ref 0),some (.ref fi),some (c8 k a),some (.int (-1)),some (.ref q),some (.int t),y6,y7],g'⟩)/\Ch g g' [1,q]/\Wd g' n/\g'[q]?=some ⟨.lst,L++P.map (·.2)⟩
 | [],g,n,L,x6,x7,W,hf,hq,hx,hv,hl=>⟨g,x6,x7,rfl,Ch.refl _ _,W,by rw[dQ,dz];exact hq⟩
 | x::P,g,n,L,x6,x7,W,hf,hq,hx,hv,hl=>by
  rw[cz]at hl W;obtain⟨m,hm⟩:=hx x (by simp)
  obtain⟨g1,e1,c1,w1,u1⟩:=LJ c (k:=k) (x7:=x7) (n:=n+P.length) (W.mono (by lia)) hf hq hm q1 hw (λh=>hv h x (by simp)) (by lia)
  obtain⟨es,h1,_,_⟩:=Wd.add (v:=.aP) (W.mono (k':=0+1) (by lia))
  have n1:∀{i:Nat} {cc:ah},g[i]?=some cc->(∀l,cc≠⟨.lst,l⟩)->i∉[1,q]:=λe n=>by
   simp only[aD,bu,bz,not_or];exact⟨ib e h1 (n _),ib e hq (n _)⟩
  obtain⟨g2,y6,y7,e2,c2,w2,u2⟩:=Cv c (k:=k) (t:=t) q1 hw P g1 n (L++[x.2]) (some (.ref x.1)) (some (fP t)) w1 (c1.get hf (n1 hf (by intro l z;cases z))) u1 (λy hy=>by
   obtain⟨m',Sj⟩:=hx y (by simp[hy])
   exact⟨m',c1.get Sj (n1 Sj (by intro l z;cases z))⟩) (λh y hy=>hv h y (by simp[hy])) (by simp;lia)
  refine⟨g2,y6,y7,?_,c1.tr c2 (λ_ h _=>h),w2,by rw[u2];simp⟩
  exact fC (s1:=⟨[some (.ref 0),some (.ref fi),some (c8 k a),some (.int (-1)),some (.ref q),some (.int t),some (.ref x.1),x7],g⟩) rfl e1 e2
theorem iV{h:List ah}{nb nt:Int}{L:List (Str×(Str×Nat))}{m:Str}(e:h[0]?=some (ji nb nt))(hm:(["entries","boxes_made","tags_made"]:List Str).contains m=false):AJ L m (.ref 0) h=L.lookup ("Boxes":Str):=by
 unfold AJ Lv;rw[ai e rfl];show(if(["entries","boxes_made","tags_made"]:List Str).contains m=true then none else some ("Boxes":Str)).bind (λC=>L.lookup C)=_
 rw[hm,if_neg cR];rfl
theorem pd(c:Nat){h:List ah}{fi d k n:Nat}{j r:Int}{H:List (Str×Nat×Pl)}{a:Ac}(R:oT h fi d j r H)(ft:rj H a)(hw:Tw a)(hm:a.m<=2)(hv:a.w≠"fill"->∀x∈bQ H a,lZ x.2=false)(W:Wd h (n+2)) :
  ∃h',run aI (c+6) "Boxes.touch" [.ref 0,.ref fi,c8 k a] h=some (.ok (jM (bQ H a)),h')/\Ch h h' [1]/\Wd h' n:=by
 have e1:=QK (c+4) R ft (k:=k);have⟨nb,nt,es,h0,h1,_⟩:=W;have pm:(bQ H a).length<=2:=by
  obtain⟨P,l,_⟩:=ft;rw[rk l,mW]
  lia
 obtain⟨g,Q,t,i1,i2,i3⟩:=wu R ft;have vM:(h++[(⟨.lst,[]⟩:ah)])[h.length]?=some ⟨.lst,[]⟩:=dk;have q1:h.length≠1:=by have:=eV h1;lia
 obtain⟨h2,y6,y7,e3,c3,w3,u3⟩:=Cv c (k:=k) (j:=j) (r:=r) (d:=d) (fi:=fi) (t:=t) (q:=h.length) q1 hw (bQ H a) (h++[⟨.lst,[]⟩]) n [] none none ((W.ch (Ch.app h [⟨.lst,[]⟩] []) (by simp)).mono (by lia)) (cO R.f) vM (λx hx=>by
  obtain⟨m,hm⟩:=i3 x hx;exact⟨m,cO hm⟩) hv (by simp;lia)
 have Z2:aJ (h++[⟨.lst,[]⟩]) (.ref d) (.str a.x)=some (.ref g):=by
  obtain⟨P,l,_⟩:=ft;have e:=rh R.d l;rw[i1]at e;cases e;exact rh (cO R.d) l
 have d1:=ai (cO (g:=[⟨.lst,[]⟩]) R.f) rfl;have d2:=ai (cO (g:=[⟨.lst,[]⟩]) i2) rfl;have RA:oT (h++[⟨.lst,[]⟩]) fi d j r H:=⟨cO R.f,cO R.d,λe he=>by
  obtain⟨t,a1,a2⟩:=R.p e he;exact⟨t,cO a1,λx hx=>by obtain⟨m,hm⟩:=a2 x hx;exact⟨m,cO hm⟩⟩,R.l⟩
 have e4:=VW (c+3) RA ft (k:=k);have hE:=fZ h0;have nP:=fZ (cO (g:=[⟨.lst,[]⟩]) h0);have nr:∀i l,aj (.ref i::l)=false:=λi l=>km i l
 have ce:=dO u3 rfl;rw[gy]at ce;have e5:run aI (c+5) "Boxes.touch_boxes" [.ref 0,.ref fi,c8 k a,.int (-1)] h=some (.ok (jM (bQ H a)),h2.set h.length Ay):=by
  revert e3
  delta bJ fN
  intro e3;rw[jg];simp only[↓bf,d1,d2,Z2,e4,e3,ce,Ia,nP,nr,aA,az];rfl
 have mt:=λL=>iV (L:=L) (m:="touch_boxes") h0 (by kernel_rfl)
 have c4:Ch h (h2.set h.length Ay) [1]:=by
  have a1:Ch h (h++[⟨.lst,[]⟩]) [1]:=Ch.app _ _ _;exact(a1.tr c3 (λn hn hl=>by simp at hn ⊢;lia)).tr (Ch.set _) (λn hn hl=>by simp at hn;lia)
 refine⟨_,?_,c4,w3.ch (Ch.set _) (by simp;have:=eV h1;lia)⟩
 rw[oN];simp only[↓bf,e1,e5,mt,hE,nr,aA,az]
end bG
set_option maxHeartbeats 2000000
namespace bG
open PySem L2 L2.U
structure Nm where
 a:Str
 b:Str
 c:Str
 f:Nat->Str
 z:Nat
structure aS (N:Nm):Prop where
 ab:N.a≠N.b
 ac:N.a≠N.c
 bc:N.b≠N.c
 a0:N.a≠""
 b0:N.b≠""
 c0:N.c≠""
 ff:∀i j,i<3->j<3->N.f i=N.f j->i=j
 z1:1<=N.z
 z8:N.z<=8
inductive N3 where
 | a | b | c
noncomputable def Nm.n(N:Nm):N3->Str
 | .a=>N.a
 | .b=>N.b
 | .c=>N.c
def yr(z:Nat):PV:=.ak [.str "rec",.ak [.ak [.str "strip",.int (z:Int)],.ak [.str "num"]]]
def yt:PV:=.ak [.str "num"]
def oJ(N:Nm):N3->PV
 | .c=>yr N.z
 | _=>yt
inductive Ix where
 | at (i:Nat) | a | b
noncomputable def yS(N:Nm):Ix->PV
 | .at i=>.int (i:Int)
 | .a=>.str N.a
 | .b=>.str N.b
inductive Sp where
 | a | b | i (x:Ix) | s | n
def g7(N:Nm):Sp->PV
 | .a=>.ak [.str N.a,.bl false,.ak [],.aP]
 | .b=>.ak [.str N.b,.bl false,.ak [],.aP]
 | .i x=>.ak [.str N.c,.bl false,.ak [.int 0],yS N x]
 | .s=>.ak [.str N.c,.bl false,.ak [.int 0],.aP]
 | .n=>.ak [.str N.c,.bl false,.ak [.int 1],.aP]
noncomputable def Sp.x:Sp->N3
 | .a=>.a
 | .b=>.b
 | _=>.c
noncomputable def Sp.f:Sp->Nat
 | .n=>1
 | _=>0
inductive Op where
 | num (i:Int) | sp (s:Sp)
def jN(N:Nm):Op->PV
 | .num i=>.int i
 | .sp s=>g7 N s
inductive Sg where
 | add | sub | mul
noncomputable def QM:Sg->Str
 | .add=>"+"
 | .sub=>"-"
 | .mul=>"*"
inductive Rw where
 | put (s:Sp) (o:Op)
 | fill (o:Op)
 | set (s:Sp) (g:Sg) (o p:Op)
 | jh (o:Op)
 | call (j:Nat) (t:Option N3) (as:List N3)
 | ifs (o p:Op) (k:Nat)
 | go (k:Nat)
 | bh (t:Option N3)
def Cw(N:Nm):Option N3->Str
 | none=>""
 | some x=>N.n x
def aT(N:Nm):Rw->PV
 | .put s o=>.ak [.str "put",g7 N s,jN N o]
 | .fill o=>.ak [.str "fill",g7 N .s,jN N o]
 | .set s g o p=>.ak [.str "set",g7 N s,.str (QM g),jN N o,jN N p]
 | .jh o=>.ak [.str "say",jN N o]
 | .call j t as=>.ak [.str "call",.str (Cw N t),.str (N.f j),.ak (as.map λx=>.str (N.n x))]
 | .ifs o p k=>.ak [.str "if",jN N o,jN N p,.int (k:Int)]
 | .go k=>.ak [.str "go",.int (k:Int)]
 | .bh t=>.ak [.str "give",.str (Cw N t)]
structure Fd where
 f:Str
 w:Bool
 r:Option N3
 rows:List Rw
noncomputable def par(w:Bool):List N3:=if w=true then [.a,.c]else [.a]
noncomputable def QN(w:Bool):List N3:=if w=true then [.b]else [.b,.c]
def dH(N:Nm)(x:N3):PV:=.ak [.str (N.n x),oJ N x]
def rm(N:Nm):Option N3->PV
 | none=>.aP
 | some x=>oJ N x
def fdP(N:Nm)(F:Fd):PV:=.ak [.str F.f,.ak ((par F.w).map (dH N)),rm N F.r,.ak ((QN F.w).map (dH N)),.ak (F.rows.map (aT N))]
theorem Ib(N:Nm)(s:Sp):noRef (g7 N s)=true:=by
 cases s
 case i x=>cases x<;>rfl
 all_goals rfl
theorem VY(N:Nm)(o:Op):noRef (jN N o)=true:=by
 cases o
 ·rfl
 ·exact Ib N _
theorem dG{α:Type}{f:α->PV}(h:∀x,noRef (f x)=true):∀l:List α,aj (l.map f)=true
 | []=>rfl
 | x::l=>by rw[aO,aj,h x,dG h l];rfl
theorem nQ{l:List PV}(h:aj l=true):noRef (.lst l)=true:=by rw[noRef];exact h
theorem A7{l:List PV}(h:aj l=true):noRef (.ak l)=true:=by rw[noRef];exact h
theorem iL(N:Nm)(x:N3):noRef (oJ N x)=true:=by cases x<;>rfl
theorem Ic(N:Nm)(r:Option N3):noRef (rm N r)=true:=by
 cases r
 ·rfl
 ·exact iL N _
theorem rn(N:Nm)(r:Rw):noRef (aT N r)=true:=by
 cases r
 case call j t as=>simp only[aT,noRef,aj,nc,bW];exact dG (λ_=>rfl) as
 all_goals simp[aT,noRef,aj,Ib,VY,dG]
theorem om(N:Nm)(F:Fd):noRef (fdP N F)=true:=by
 simp[fdP,dH,noRef,aj,dG,iL,Ic,rn]
theorem aS.n{N:Nm}(K:aS N):∀{x y:N3},N.n x=N.n y->x=y
 | .a,.a,_=>rfl
 | .b,.b,_=>rfl
 | .c,.c,_=>rfl
 | .a,.b,h=>absurd h K.ab
 | .b,.a,h=>absurd h.symm K.ab
 | .a,.c,h=>absurd h K.ac
 | .c,.a,h=>absurd h.symm K.ac
 | .b,.c,h=>absurd h K.bc
 | .c,.b,h=>absurd h.symm K.bc
theorem LK{h:List ah}{x y:Str}:qG h (.str x) (.str y)=some (.bl (x==y)):=rfl
theorem jO(c:Nat){N:Nm}(K:aS N)(F:Fd)(x:N3):run aI (c+1) "kind_of" [fdP N F,.str (N.n x)] []=some (.ok (oJ N x),[]):=by
 rw[yf];have hab:=bO.mpr K.ab;have hac:=bO.mpr K.ac;have Z4:=bO.mpr K.bc;have Z5:=bO.mpr K.ab.symm;have Z6:=bO.mpr K.ac.symm;have Z7:=bO.mpr K.bc.symm;obtain⟨f,w,r,rows⟩:=F;cases w<;>cases x<;>simp only[↓bf,LK,fdP,par,QN,dH,Nm.n,hab,hac,Z4,Z5,Z6,Z7,iN]<;>rfl
end bG
set_option maxHeartbeats 2000000
namespace bG
open PySem L2 L2.U
noncomputable def kE:N3->Nat
 | .c=>2
 | _=>1
def QO(N:Nm)(w:Str)(s:Sp):Ac:=⟨w,N.n s.x,false,s.f,1,""⟩
def QP(N:Nm)(w:Str)(x:N3):Ac:=⟨w,N.n x,false,0,kE x,""⟩
theorem dc(c:Nat)(N:Nm)(x:N3):run aI (c+1) "is_holder" [oJ N x] []=some (.ok (.bl false),[]):=by
 cases x<;>kernel_rfl
theorem wx(c:Nat)(N:Nm)(x:N3):run aI (c+2) "shape_of" [oJ N x] []=some (.ok (oJ N x),[]):=by
 cases x<;>kernel_rfl
theorem touch_s(c:Nat){N:Nm}(K:aS N)(F:Fd)(w t:Str)(s:Sp):run aI (c+8) "touch" [fdP N F,.str w,g7 N s,.str t] []=some (.ok (fQ ⟨w,N.n s.x,false,s.f,1,t⟩),[]):=by
 rw[ub];have e1:∀h,aJ h (g7 N s) (.int 0)=some (.str (N.n s.x)):=λh=>by cases s<;>rfl
 have e2:∀h,aJ h (g7 N s) (.int 1)=some (.bl false):=λh=>by cases s<;>rfl
 have e3:=λx=>jO (c+6) K F x
 have e4:=λx=>wx (c+5) N x
 cases s<;>simp only[↓bf,e1,e2,e3,e4]<;>rfl
theorem touch_w(c:Nat){N:Nm}(K:aS N)(F:Fd)(w t:Str)(x:N3):run aI (c+8) "touch" [fdP N F,.str w,.ak [.str (N.n x),.bl false,.ak [],.aP],.str t] []=some (.ok (fQ ⟨w,N.n x,false,0,kE x,t⟩),[]):=by
 rw[ub];have e3:=λx=>jO (c+6) K F x
 have e4:=λx=>wx (c+5) N x
 cases x<;>simp only[↓bf,e3,e4]<;>rfl
theorem pe(c:Nat){N:Nm}(K:aS N)(F:Fd)(w t:Str)(x:N3):run aI (c+9) "touch_whole" [fdP N F,.str w,.str (N.n x),.str t] []=some (.ok (fQ ⟨w,N.n x,false,0,kE x,t⟩),[]):=by
 rw[oP];have e3:=λx=>jO (c+7) K F x
 have e4:=λx=>dc (c+7) N x
 have e5:=touch_w c K F w t x;simp only[↓bf,e3,e4,e5]
def nR(N:Nm)(x:N3):Ac:=QP N "read" x
def wz(N:Nm):Sp->List Ac
 | .i .a=>[nR N .a]
 | .i .b=>[nR N .b]
 | _=>[]
def oU(N:Nm):Op->List Ac
 | .num _=>[]
 | .sp s=>wz N s++[QO N "read" s]
def Eg(N:Nm):Sp->List Ac
 | .i x=>wz N (.i x)++[QO N "turn" (.i x)]
 | s=>[QO N "fill" s]
noncomputable def yu:Ac:=⟨"hand","",false,0,0,""⟩
def bZ(N:Nm):Rw->List Ac
 | .put s o=>oU N o++Eg N s
 | .fill o=>oU N o++Eg N .s
 | .set s _ o p=>oU N o++oU N p++Eg N s
 | .jh o=>oU N o
 | .call _ t as=>as.map (nR N)++yu::(match t with | none=>[] | some x=>[QP N "fill" x])
 | .ifs o p _=>oU N o++oU N p
 | .go _=>[]
 | .bh t=>match t with | none=>[] | some x=>[nR N x]
noncomputable def LL:Rw->Str
 | .put _ _=>"put_acts"
 | .fill _=>"put_acts"
 | .set _ _ _ _=>"set_acts"
 | .jh _=>"say_acts"
 | .call _ _ _=>"call_acts"
 | .ifs _ _ _=>"if_acts"
 | .go _=>"go_acts"
 | .bh _=>"give_acts"
theorem VZ(c:Nat){N:Nm}(K:aS N)(F:Fd)(s:Sp):run aI (c+10) "at_acts" [fdP N F,g7 N s] []=some (.ok (.lst ((wz N s).map fQ)),[]):=by
 rw[yg];have e1:run aI (c+9) "touch_whole" [fdP N F,.str "read",.str N.a,.str ""] []=some (.ok (fQ (nR N .a)),[]):=pe c K F "read" "" .a;have e2:run aI (c+9) "touch_whole" [fdP N F,.str "read",.str N.b,.str ""] []=some (.ok (fQ (nR N .b)),[]):=pe c K F "read" "" .b;cases s
 case i x=>cases x<;>simp only[↓bf,g7,yS,e1,e2]<;>rfl
 all_goals (simp only[↓bf,g7,yS]<;>rfl)
theorem rp(c:Nat){N:Nm}(K:aS N)(F:Fd)(o:Op):run aI (c+11) "operand_acts" [fdP N F,jN N o] []=some (.ok (.lst ((oU N o).map fQ)),[]):=by
 rw[nM];cases o with
 | num i=>simp only[↓bf,jN]<;>rfl
 | sp s =>
  have e1:=VZ c K F s;have e2:=touch_s (c+2) K F "read" "" s;have e4:∀st,WU Ty.tuple (rd 1) ⟨[some (fdP N F),some (g7 N s)],st⟩=some (.ok (.bl true),⟨[some (fdP N F),some (g7 N s)],st⟩):=λst=>by cases s<;>rfl
  cases s
  case i x=>cases x<;>simp only[↓bf,jN,e1,e2,e4]<;>rfl
  all_goals (simp only[↓bf,jN,e1,e2,e4]<;>rfl)
end bG
set_option maxHeartbeats 2000000
namespace bG
open PySem L2 L2.U
theorem aS.n0{N:Nm}(K:aS N)(x:N3):N.n x≠"":=by
 cases x
 ·exact K.a0
 ·exact K.b0
 ·exact K.c0
theorem add_l{h:List ah}(A B:List Ac)(hl:A.length+B.length<=1000):cZ h (.lst (A.map fQ)) (.lst (B.map fQ))=some (.lst ((A++B).map fQ)):=by
 show L2.U.sizeOk ((A.map fQ).length+(B.map fQ).length) (.lst (A.map fQ++B.map fQ))=_;rw[aN,aN,fW];unfold L2.U.sizeOk;exact if_pos (aX hl (by decide))
theorem pf(N:Nm)(s:Sp):(wz N s).length<=1:=by
 cases s
 case i x=>cases x<;>simp[wz]
 all_goals simp[wz]
theorem dt(N:Nm)(o:Op):(oU N o).length<=2:=by
 cases o with
 | num i=>simp[oU]
 | sp s=>have:=pf N s;simp[oU];lia
theorem j5(N:Nm)(s:Sp):(Eg N s).length<=2:=by
 cases s
 case i x=>have:=pf N (.i x);simp[Eg];lia
 all_goals simp[Eg]
theorem Ie(c:Nat){N:Nm}(K:aS N)(F:Fd)(s:Sp):run aI (c+11) "target_acts" [fdP N F,g7 N s] []=some (.ok (.lst ((Eg N s).map fQ)),[]):=by
 rw[oQ];cases s
 case i x =>
  have e1:=VZ c K F (.i x);have e2:=touch_s (c+2) K F "turn" "" (.i x);have e3:=λh=>add_l (h:=h) (wz N (.i x)) [QO N "turn" (.i x)] (by have:=pf N (.i x);simp;lia)
  cases x<;>simp only[↓bf,e1,e2,e3]<;>rfl
 case a=>have e2:=touch_s (c+2) K F "fill" "" .a;simp only[↓bf,e2];rfl
 case b=>have e2:=touch_s (c+2) K F "fill" "" .b;simp only[↓bf,e2];rfl
 case s=>have e2:=touch_s (c+2) K F "fill" "" .s;simp only[↓bf,e2];rfl
 case n=>have e2:=touch_s (c+2) K F "fill" "" .n;simp only[↓bf,e2];rfl
theorem V0(c:Nat){N:Nm}(K:aS N)(F:Fd)(s:Sp)(o:Op):run aI (c+12) "put_acts" [fdP N F,aT N (.put s o)] []=some (.ok (.lst ((bZ N (.put s o)).map fQ)),[]):=by
 rw[my];have e1:=rp c K F o;have e2:=Ie c K F s;have e3:=λh=>add_l (h:=h) (oU N o) (Eg N s) (by have:=dt N o;have:=j5 N s;lia)
 simp only[↓bf,e1,e2,e3,aT];rfl
theorem QQ(c:Nat){N:Nm}(K:aS N)(F:Fd)(o:Op):run aI (c+12) "put_acts" [fdP N F,aT N (.fill o)] []=some (.ok (.lst ((bZ N (.fill o)).map fQ)),[]):=by
 rw[my];have e1:=rp c K F o;have e2:=Ie c K F .s;have e3:=λh=>add_l (h:=h) (oU N o) (Eg N .s) (by have:=dt N o;have:=j5 N .s;lia)
 simp only[↓bf,e1,e2,e3,aT];rfl
theorem V4(c:Nat){N:Nm}(K:aS N)(F:Fd)(s:Sp)(g:Sg)(o p:Op):run aI (c+12) "set_acts" [fdP N F,aT N (.set s g o p)] []=some (.ok (.lst ((bZ N (.set s g o p)).map fQ)),[]):=by
 rw[v5];have e1:=rp c K F o;have e4:=rp c K F p;have e2:=Ie c K F s;have l1:=dt N o;have l2:=dt N p;have l3:=j5 N s;have e3:=λh=>add_l (h:=h) (oU N o) (oU N p) (by lia)
 have e5:=λh=>add_l (h:=h) (oU N o++oU N p) (Eg N s) (by rw[bR];lia)
 simp only[↓bf,e1,e2,e3,e4,e5,aT];rfl
theorem V5(c:Nat){N:Nm}(K:aS N)(F:Fd)(o:Op):run aI (c+12) "say_acts" [fdP N F,aT N (.jh o)] []=some (.ok (.lst ((bZ N (.jh o)).map fQ)),[]):=by
 rw[v7];have e1:=rp c K F o;simp only[↓bf,e1,aT];rfl
theorem V6(c:Nat){N:Nm}(K:aS N)(F:Fd)(o p:Op)(k:Nat):run aI (c+12) "if_acts" [fdP N F,aT N (.ifs o p k)] []=some (.ok (.lst ((bZ N (.ifs o p k)).map fQ)),[]):=by
 rw[yi];have e1:=rp c K F o;have e4:=rp c K F p;have l1:=dt N o;have l2:=dt N p;have e3:=λh=>add_l (h:=h) (oU N o) (oU N p) (by lia)
 simp only[↓bf,e1,e3,e4,aT];rfl
theorem Z8(c:Nat){N:Nm}(F:Fd)(k:Nat):run aI (c+12) "go_acts" [fdP N F,aT N (.go k)] []=some (.ok (.lst ((bZ N (.go k)).map fQ)),[]):=by
 rw[yj];simp only[↓bf];rfl
theorem Ig(c:Nat)(N:Nm)(x:N3):run aI (c+4) "is_copied" [oJ N x] []=some (.ok (.bl true),[]):=by
 cases x<;>kernel_rfl
theorem Cy(c:Nat){N:Nm}(K:aS N)(F:Fd)(x:N3):run aI (c+10) "owner_act" [fdP N F,.str (N.n x)] []=some (.ok (fQ (nR N x)),[]):=by
 rw[sH];have e1:=jO (c+8) K F x;have e2:=Ig (c+5) N x;have e3:=pe c K F "read" "" x;simp only[↓bf,e1,e2,e3];rfl
theorem QR(c:Nat){N:Nm}(K:aS N)(F:Fd)(t:Option N3):run aI (c+12) "give_acts" [fdP N F,aT N (.bh t)] []=some (.ok (.lst ((bZ N (.bh t)).map fQ)),[]):=by
 rw[sJ];cases t with
 | none=>simp only[↓bf,aT,Cw];rfl
 | some x =>
  have e1:=jO (c+10) K F x;have e2:=dc (c+10) N x;have e3:=Cy (c+1) K F x;have e4:∀h,qG h (.str (N.n x)) (.str "")=some (.bl false):=λh=>by
   show some (PV.bl (N.n x==""))=_;rw[bO.mpr (K.n0 x)]
  simp only[↓bf,aT,Cw,e1,e2,e3,e4];rfl
theorem V7(c:Nat){N:Nm}(K:aS N)(F:Fd)(x:N3)(t:Str):run aI (c+11) "arg_act" [fdP N F,.str (N.n x),.str t] []=some (.ok (fQ (nR N x)),[]):=by
 rw[yh];have e1:=jO (c+9) K F x;have e2:=dc (c+9) N x;have e3:=Cy c K F x;simp only[↓bf,e1,e2,e3]
end bG
set_option maxHeartbeats 2000000
namespace bG
open PySem L2 L2.U
def mkc(p:PV):Gx PV:=λst=>match p with
 | .nd .lst qs=>j8 ⟨.lst,qs⟩ st
 | _=>none
theorem yv(link:List (Option Nat))(fi:Gx B3)(bd:Bd):jC true link fi bd=bnd (jC false link fi bd) mkc:=by
 funext st
 unfold jC bnd;cases fi st with
 | none=>rfl
 | some r =>
  obtain⟨r,st1⟩:=r;cases r with
  | ok s =>
   show(B5 (bd (dj link st1.ρ)) st1.h s).bind (B6 true st1.ρ)=((B5 (bd (dj link st1.ρ)) st1.h s).bind (B6 false st1.ρ)).bind (OP mkc);cases B5 (bd (dj link st1.ρ)) st1.h s<;>rfl
  | ex m C=>rfl
theorem mC{h:List ah}{n:Nat}:∀{l:List PV},aj l=true->dC (lx h n) l=some l
 | [],_=>rfl
 | p::l,hn=>by
  simp only[aj,aG]at hn;show(lx h n p).bind (λy=>(dC (lx h n) l).map λys=>y::ys)=_
  rw[mC hn.2,show lx h n p=some p by cases n<;>(unfold lx;rw[if_pos hn.1])]
  rfl
theorem jP{ps:List PV}(h:aj ps=true):eF [⟨.lst,ps⟩] (.ref 0)=some (.lst ps):=by
 show(dC (lx _ 3) ps).map _=_;rw[mC h];rfl
theorem rA{ρ:List (Option PV)}{F:List PV}{v:PV}(h:F.length<=4000):fH (dY eS) (.ref 0) [v] ⟨ρ,[⟨.lst,F⟩]⟩=some (.ok .aP,⟨ρ,[⟨.lst,F++[v]⟩]⟩):=by
 have:eS F [v]=some (F++[v]):=if_pos (show F.length<gX from mS h (by decide))
 show(((eS F [v]).map λqs=>((⟨.lst,qs⟩:ah),PV.aP)).map λr=>_)=_
 rw[this];rfl
theorem V8(a:Ac):noRef (fQ a)=true:=by simp[fQ,noRef,aj]
theorem rD(A:List Ac):aj (A.map fQ)=true:=dG V8 A
def Ih(as:List N3):Prop:=(∃x,as=[x])\/∃x y,as=[x,y]
theorem QS(c:Nat){N:Nm}(K:aS N)(F:Fd)(j:Nat)(t:Option N3)(as:List N3)(ha:Ih as):∃p h',eF h' p=some (.lst ((bZ N (.call j t as)).map fQ))/\run aI (c+12) "call_acts" [fdP N F,aT N (.call j t as)] []=some (.ok p,h'):=by
 rw[sG];have e1:=λx t=>V7 c K F x t
 have e2:=λx=>jO (c+10) K F x
 have e3:=λx=>dc (c+10) N x
 have e4:=λx=>pe (c+2) K F "fill" "" x
 have ne:∀h x,qG h (.str (N.n x)) (.str "")=some (.bl false):=λh x=>by
   show some (PV.bl (N.n x==""))=_;rw[bO.mpr (K.n0 x)]
 have e6:∀a,ja 0 [a]=[.ak [.int 0,a]]:=λ_=>rfl
 have l1:∀a:PV,[a].length<=4000000:=λ_=>by simp
 have l2:∀a b:PV,[a,b].length<=4000000:=λ_ _=>by simp
 have e7:∀a b,ja 0 [a,b]=[.ak [.int 0,a],.ak [.int 1,b]]:=λ_ _=>rfl
 rw[yv];rcases ha with⟨x,rfl⟩ | ⟨x,y,rfl⟩
 ·cases t with
  | none =>
   refine⟨.ref 0,_,jP (rD _),?_⟩;simp only[↓bf,aT,Cw,aO,dQ,e1,e6,e7,rA,l1,l2];rfl
  | some z =>
   refine⟨.lst ((bZ N (.call j (some z) [x])).map fQ),[⟨.lst,[fQ (nR N x),fQ yu]⟩],jJ (nQ (rD _)),?_⟩;have e8:∀v,cZ [⟨.lst,[fQ (nR N x),fQ yu]⟩] (.ref 0) (.lst [v])=some (.lst ([fQ (nR N x),fQ yu]++[v])):=λv=>rfl
   have f1:∀h z,eF h (oJ N z)=some (oJ N z):=λh z=>jJ (iL N z)
   simp only[↓bf,aT,Cw,aO,dQ,e1,e2,e3,e4,e6,e7,e8,f1,rA,l1,l2,ne,om,iL,aj,noRef];rfl
 ·cases t with
  | none =>
   refine⟨.ref 0,_,jP (rD _),?_⟩;simp only[↓bf,aT,Cw,aO,dQ,e1,e6,e7,rA,l1,l2];rfl
  | some z =>
   refine⟨.lst ((bZ N (.call j (some z) [x,y])).map fQ),[⟨.lst,[fQ (nR N x),fQ (nR N y),fQ yu]⟩],jJ (nQ (rD _)),?_⟩;have e8:∀v,cZ [⟨.lst,[fQ (nR N x),fQ (nR N y),fQ yu]⟩] (.ref 0) (.lst [v])=some (.lst ([fQ (nR N x),fQ (nR N y),fQ yu]++[v])):=λv=>rfl
   have f1:∀h z,eF h (oJ N z)=some (oJ N z):=λh z=>jJ (iL N z)
   simp only[↓bf,aT,Cw,aO,dQ,e1,e2,e3,e4,e6,e7,e8,f1,rA,l1,l2,ne,om,iL,aj,noRef];rfl
end bG
set_option maxHeartbeats 2000000
namespace bG
open PySem L2 L2.U
def Jv:Rw->Prop
 | .call _ _ as=>Ih as
 | _=>True
theorem V9(c:Nat){N:Nm}(K:aS N)(F:Fd)(r:Rw)(h:Jv r):∃p h',eF h' p=some (.lst ((bZ N r).map fQ))/\run aI (c+12) (LL r) [fdP N F,aT N r] []=some (.ok p,h'):=by
 have fz:∀A:List Ac,eF [] (.lst (A.map fQ))=some (.lst (A.map fQ)):=λA=>jJ (nQ (rD A))
 cases r with
 | put s o=>exact⟨_,_,fz _,V0 c K F s o⟩
 | fill o=>exact⟨_,_,fz _,QQ c K F o⟩
 | set s g o p=>exact⟨_,_,fz _,V4 c K F s g o p⟩
 | jh o=>exact⟨_,_,fz _,V5 c K F o⟩
 | call j t as=>exact QS c K F j t as h
 | ifs o p k=>exact⟨_,_,fz _,V6 c K F o p k⟩
 | go k=>exact⟨_,_,fz _,Z8 c F k⟩
 | bh t=>exact⟨_,_,fz _,QR c K F t⟩
theorem yw(N:Nm)(r:Rw)(h:Jv r):(bZ N r).length<=6:=by
 cases r with
 | put s o=>have:=dt N o;have:=j5 N s;simp only[bZ,bR];lia
 | fill o=>have:=dt N o;have:=j5 N .s;simp only[bZ,bR];lia
 | set s g o p=>have:=dt N o;have:=dt N p;have:=j5 N s;simp only[bZ,bR];lia
 | jh o=>have:=dt N o;simp only[bZ];lia
 | call j t as=>rcases h with⟨x,rfl⟩ | ⟨x,y,rfl⟩<;>cases t<;>simp[bZ]
 | ifs o p k=>have:=dt N o;have:=dt N p;simp only[bZ,bR];lia
 | go k=>simp[bZ]
 | bh t=>cases t<;>simp[bZ]
noncomputable def uh:Rw->Str
 | .put _ _=>"put"
 | .fill _=>"fill"
 | .set _ _ _ _=>"set"
 | .jh _=>"say"
 | .call _ _ _=>"call"
 | .ifs _ _ _=>"if"
 | .go _=>"go"
 | .bh _=>"give"
theorem rE{h:List ah}(N:Nm)(r:Rw):aJ h (aT N r) (.int 0)=some (.str (uh r)):=by cases r<;>rfl
noncomputable abbrev rsA:Ac:=⟨"rest","",false,0,0,""⟩
def Ij(A:List Ac):List Ac:=if A.isEmpty then [rsA]else A
noncomputable def kn:Nat->List (List Ac)->List (Nat×Ac)
 | _,[]=>[]
 | j,A::T=>A.map (λa=>(j,a))++kn (j+1) T
def rF(z:Nat×Ac):PV:=c8 z.1 z.2
theorem Wa(r:Rw):(List.lookup (uh r) gH)=some (LL r):=by
 cases r<;>kernel_rfl
theorem QT(r:Rw):LB.lookup (LL r)=some 2:=by cases r<;>kernel_rfl
theorem Wb{ρ:List (Option PV)}{L R:List PV}(h:L.length+R.length<=1000000):oF (.ref 0) [.lst R] ⟨ρ,[⟨.lst,L⟩]⟩=some (.ok .aP,⟨ρ,[⟨.lst,L++R⟩]⟩):=by
 show(fH (dY λps _=>if ps.length+R.length<=gX then some (ps++R)else none) (.ref 0) [] ⟨ρ,[⟨.lst,L⟩]⟩)=_
 have e:(if L.length+R.length<=gX then some (L++R)else none)=some (L++R):=if_pos (aX h (by decide))
 show(((if L.length+R.length<=gX then some (L++R)else none).map λqs=>((⟨.lst,qs⟩:ah),PV.aP)).map λr=>_)=_
 rw[e];rfl
theorem Eh(c:CT){N:Nm}{x0 x1:Option PV}{F:Fd}{r:Rw}{A:List Ac}{p:PV}{h':List ah}(hA:A.length<=200)(hf:eF h' p=some (.lst (A.map fQ)))(hc:c (LL r) [fdP N F,aT N r] []=some (.ok p,h'))(k:Nat)(L:List PV)(hL:L.length<=9000)(x6:Option PV):jK c ⟨[x0,x1,some (fdP N F),some (.ref 0),some (.int (k:Int)),some (aT N r),x6],[⟨.lst,L⟩]⟩=some (.ok .nx,⟨[x0,x1,some (fdP N F),some (.ref 0),some (.int (k:Int)),some (aT N r),some (.lst (A.map fQ))],[⟨.lst,L++(Ij A).map (c8 k)⟩]⟩):=by
 have e1:∀h,aJ h (aT N r) (.int 0)=some (.str (uh r)):=λh=>rE N r
 have e3:(P0 (.str (uh r))).bind (λk=>Option.map PV.fn (List.lookup k gH))=some (.fn (LL r)):=by
  show Option.map PV.fn (List.lookup (uh r) gH)=_;rw[Wa];rfl
 have e4:(W5 (.fn (LL r))).bind (λx=>Option.map (λn=>(x,n)) (List.lookup x LB))=some (LL r,2):=by
  show Option.map (λn=>(LL r,n)) (List.lookup (LL r) LB)=_
  rw[QT];rfl
 have ll:(A.map fQ).length<=4000000:=by rw[aN];lia
 cases hE:A.isEmpty with
 | true =>
  cases A with
  | cons a A=>cases hE
  | nil =>
   have e2:∀ρ,oF (.ref 0) [.lst ((some (PV.ak [.int (k:Int),.str "rest",.str "",.bl false,.int 0,.int 0,.str ""])).toList++[])] ⟨ρ,[⟨.lst,L⟩]⟩=some (.ok .aP,⟨ρ,[⟨.lst,L++[.ak [.int (k:Int),.str "rest",.str "",.bl false,.int 0,.int 0,.str ""]]⟩]⟩):=λρ=>Wb (R:=[.ak [.int (k:Int),.str "rest",.str "",.bl false,.int 0,.int 0,.str ""]]) (by simp;lia)
   have l1:[PV.ak [.str "rest",.str "",.bl false,.int 0,.int 0,.str ""]].length<=4000000:=by simp
   refine bH ?_;unfold jK;simp only[↓gY,e1,e2,e3,e4,l1,hc,hf,aj,noRef,om,rn];rfl
 | false =>
  have ho:Ij A=A:=by unfold Ij;rw[hE];rfl
  rw[ho];have e2:∀ρ,oF (.ref 0) [.lst (A.map λa=>.ak [.int (k:Int),.str a.w,.str a.x,.bl a.t,.int (a.f:Int),.int (a.m:Int),.str a.k])] ⟨ρ,[⟨.lst,L⟩]⟩=some (.ok .aP,⟨ρ,[⟨.lst,L++A.map (c8 k)⟩]⟩):=λρ=>Wb (by rw[aN];lia)
  have e5:∀h a,cZ h (.ak [.int (k:Int)]) (fQ a)=some (.ak [.int (k:Int),.str a.w,.str a.x,.bl a.t,.int (a.f:Int),.int (a.m:Int),.str a.k]):=λh a=>rfl
  refine bH ?_;unfold jK;simp only[↓gY,e1,e2,e3,e4,e5,hc,hf,ll,aj,noRef,om,rn,List.isEmpty_map,hE,Bool.not_false]
def lD(N:Nm)(rs:List Rw):List (List Ac):=rs.map λr=>Ij (bZ N r)
theorem Cz{A:List Ac}(h:A.length<=6):(Ij A).length<=6:=by
 unfold Ij;split
 ·simp
 ·exact h
theorem ui(c:Nat){N:Nm}(K:aS N){x0 x1:Option PV}{F:Fd}:∀(rs:List Rw) (k:Nat) (L:List PV) (x4 x5 x6:Option PV),(∀r∈rs,Jv r)->L.length+6*rs.length<=9000->∃(Np x5' x6':Option PV),fg Q0 (jK (run aI (c+12))) (ja k (rs.map (aT N))) ⟨[x0,x1,some (fdP N F),some (.ref 0),x4,x5,x6],[⟨.lst,L⟩]⟩=some (.ok .nx,⟨[x0,x1,some (fdP N F),some (.ref 0),Np,x5',x6'],[⟨.lst,L++(kn k (lD N rs)).map rF⟩]⟩)
 | [],k,L,x4,x5,x6,_,_=>⟨x4,x5,x6,by simp[kn,lD];rfl⟩
 | r::rs,k,L,x4,x5,x6,hr,hl=>by
  simp only[cz]at hl;have h1:=hr r dy;obtain⟨p,h',a3,a4⟩:=V9 c K F r h1;have a2:=yw N r h1;have lo:=Cz a2;have st:=Eh (run aI (c+12)) (x0:=x0) (x1:=x1) (F:=F) (by lia) a3 a4 k L (by lia) x6
  obtain⟨z4,z5,z6,t3⟩:=ui c K (x0:=x0) (x1:=x1) (F:=F) rs (k+1) (L++(Ij (bZ N r)).map (c8 k)) (some (.int (k:Int))) (some (aT N r)) (some (.lst ((bZ N r).map fQ))) (λq hq=>hr q (cW _ hq)) (by rw[bR,aN];lia)
  refine⟨z4,z5,z6,?_⟩;rw[show L++(kn k (lD N (r::rs))).map rF=L++(Ij (bZ N r)).map (c8 k)++(kn (k+1) (lD N rs)).map rF by simp[lD,kn,rF,zq]]
  exact fC (s1:=⟨[x0,x1,some (fdP N F),some (.ref 0),some (.int (k:Int)),some (aT N r),x6],[⟨.lst,L⟩]⟩) rfl st t3
theorem QU(c:Nat){N:Nm}(K:aS N){P:List Fd}{i:Nat}{F:Fd}(hF:P[i]?=some F)(hr:∀r∈F.rows,Jv r)(hl:F.rows.length<=100):∃p h',eF h' p=some (.lst ((kn 0 (lD N F.rows)).map rF))/\run aI (c+13) "acts" [.ak (P.map (fdP N)),.int (i:Int)] []=some (.ok p,h'):=by
 refine⟨.ref 0,[⟨.lst,(kn 0 (lD N F.rows)).map rF⟩],jP (dG (λz=>by simp[rF,c8,noRef,aj]) _),?_⟩
 have e1:aJ [] (.ak (P.map (fdP N))) (.int (i:Int))=some (fdP N F):=atI_nat (by rw[bK,hF];rfl)
 obtain⟨z4,z5,z6,t3⟩:=ui c K (x0:=some (.ak (P.map (fdP N)))) (x1:=some (.int (i:Int))) (F:=F) F.rows 0 [] none none none hr (by simp;lia)
 rw[HS];unfold HR;simp only[↓bf,e1,t3,gy]
end bG
set_option maxHeartbeats 2000000
namespace bG
open PySem L2 L2.U
noncomputable def bA(T:List (List PV)):List ah:=T.map λl=>⟨.lst,l⟩
noncomputable def dv:Nat->Nat->List PV
 | _,0=>[]
 | b,n+1=>.ref b::dv (b+1) n
theorem yx:∀(n b i:Nat),i<n->(dv b n)[i]?=some (.ref (b+i))
 | n+1,b,0,_=>rfl
 | n+1,b,i+1,h=>by
  show(dv (b+1) n)[i]?=_;rw[yx n (b+1) i (by lia)]
  congr 2
  lia
theorem CA{L:List PV}{ρ:List (Option PV)}:∀(ps:List PV) (h:List ah),fu Q3 ps h=some (dv h.length ps.length,h++List.replicate ps.length ⟨.lst,[]⟩)
 | [],h=>by simp[fu,dv]
 | p::ps,h=>by
  have e:oG (cS 1) (Dz (cC [])) [none,none] p h=some (some (.ref h.length),h++[⟨.lst,[]⟩]):=rfl;rw[rf e (CA (L:=L) (ρ:=ρ) ps _)];simp[dv,gu]
def wA(T:List (List PV))(z:Nat×Ac):List (List PV):=if z.2.w="rest" then T else T.set z.1 (T.getD z.1 []++[rF z])
theorem wB{h:List ah}{n:Nat}{L:List PV}{v:PV}{ρ:List (Option PV)}(e:h[n]?=some ⟨.lst,L⟩)(hl:L.length<=4000):fH (dY eS) (.ref n) [v] ⟨ρ,h⟩=some (.ok .aP,⟨ρ,h.set n ⟨.lst,L++[v]⟩⟩):=by
 have:eS L [v]=some (L++[v]):=if_pos (show L.length<gX from mS hl (by decide))
 show((kf h (.ref n)).bind λc=>(dY eS c.2 [v]).map λr=>_)=_
 rw[dO e rfl];show(((eS L [v]).map λqs=>((⟨.lst,qs⟩:ah),PV.aP)).map λr=>_)=_
 rw[this];rfl
theorem rG(c:CT){x0 x1:Option PV}:∀(Z:List (Nat×Ac)) (T:List (List PV)) (g:List ah) (x3:Option PV) (m:Nat),T.length=m->(∀z∈Z,z.1<m)->(∀l∈T,l.length+Z.length<=4000) ->
  ∃y3,fg (cS 3) (et c) (Z.map rF) ⟨[x0,x1,some (.ref m),x3],bA T++⟨.lst,dv 0 m⟩::g⟩=some (.ok .nx,⟨[x0,x1,some (.ref m),y3],bA (Z.foldl wA T)++⟨.lst,dv 0 m⟩::g⟩)
 | [],T,g,x3,m,_,_,_=>⟨x3,rfl⟩
 | z::Z,T,g,x3,m,hT,hz,hl=>by
  have hm:=hz z dy;have h1:(bA T++⟨.lst,dv 0 m⟩::g)[m]?=some ⟨.lst,dv 0 m⟩:=by
   rw[jj (by simp[bA,hT])]
   simp[bA,hT]
  have h2:(bA T++⟨.lst,dv 0 m⟩::g)[z.1]?=some ⟨.lst,T.getD z.1 []⟩:=by
   rw[fw (by simp[bA,hT];exact hm)]
   simp only[bA,bK,kH];rw[eu (by rw[hT];exact hm)]
   rfl
  have hlz:(T.getD z.1 []).length+Z.length+1<=4000:=by
   have:=hl (T.getD z.1 []) (by rw[kH,eu (by rw[hT];exact hm)];exact zB _)
   rw[cz]at this;lia
  have e1:aJ (bA T++⟨.lst,dv 0 m⟩::g) (.ref m) (.int (z.1:Int))=some (.ref z.1):=by
   have d:=ai h1 rfl;simp only[aJ,d];exact atI_nat (by rw[yx m 0 z.1 hm,u4])
  have d2:=ai h2 rfl;have e0:∀h,aJ h (rF z) (.int 0)=some (.int (z.1:Int)):=λh=>rfl
  have e2:=λρ=>wB (ρ:=ρ) (v:=rF z) h2 (by lia)
  have e3:∀h,aJ h (rF z) (.int 1)=some (.str z.2.w):=λh=>rfl
  have e4:∀h,MR h (.str z.2.w) (.str "rest")=some (.bl (!(z.2.w=="rest"))):=λh=>rfl
  have hs:(bA T++⟨.lst,dv 0 m⟩::g).set z.1 ⟨.lst,T.getD z.1 []++[rF z]⟩=bA (T.set z.1 (T.getD z.1 []++[rF z]))++⟨.lst,dv 0 m⟩::g:=by
   rw[List.set_append_left _ _ (by simp[bA,hT];exact hm)]
   simp[bA,List.map_set]
  by_cases hw:z.2.w="rest"
  ·obtain⟨y3,ih⟩:=rG c (x0:=x0) (x1:=x1) Z T g (some (rF z)) m hT (λy hy=>hz y (cW _ hy)) (λl h=>by have:=hl l h;simp at this;lia)
   refine⟨y3,?_⟩;have hp:wA T z=T:=if_pos hw;rw[kR,hp,aO];have hq:(z.2.w=="rest")=true:=by rw[hw];rfl
   refine fC (s1:=⟨[x0,x1,some (.ref m),some (rF z)],_⟩) rfl ?_ ih;refine bH ?_
   delta et fN
   simp only[↓gY,e3,e4,hq,Bool.not_true]
  ·have hp:wA T z=T.set z.1 (T.getD z.1 []++[rF z]):=if_neg hw;obtain⟨y3,ih⟩:=rG c (x0:=x0) (x1:=x1) Z (T.set z.1 (T.getD z.1 []++[rF z])) g (some (rF z)) m (by simp[hT]) (λy hy=>hz y (cW _ hy)) (λl h=>by
    rcases List.mem_or_eq_of_mem_set h with h | rfl
    ·have:=hl l h;simp at this;lia
    ·rw[bR];simp only[cz,mX];lia)
   refine⟨y3,?_⟩;rw[kR,hp,aO];have hq:(z.2.w=="rest")=false:=bO.mpr hw;refine fC (s1:=⟨[x0,x1,some (.ref m),some (rF z)],_⟩) rfl ?_ ih;refine bH ?_
   delta et fN
   rw[<-hs];simp only[↓gY,d2,e0,e1,e2,e3,e4,hq,Bool.not_false]
end bG
set_option maxHeartbeats 2000000
namespace bG
open PySem L2 L2.U
def yT(N:Nm):Nat->List Rw->List (List PV)
 | _,[]=>[]
 | k,r::rs=>(bZ N r).map (c8 k)::yT N (k+1) rs
theorem CB(N:Nm):∀(rs:List Rw) (k:Nat),(yT N k rs).length=rs.length
 | [],_=>rfl
 | r::rs,k=>by show(yT N (k+1) rs).length+1=_;rw[CB];rfl
theorem Ik(N:Nm):∀(rs:List Rw) (k i:Nat) (r:Rw),rs[i]?=some r->(yT N k rs)[i]?=some ((bZ N r).map (c8 (k+i)))
 | r::rs,k,0,q,e=>by cases e;rfl
 | r::rs,k,i+1,q,e=>by
  show(yT N (k+1) rs)[i]?=_;rw[Ik N rs (k+1) i q (by simpa using e)]
  congr 3
  lia
 | [],_,_,_,e=>by simp at e
theorem yy(k:Nat):∀(A:List Ac) (pre:List (List PV)) (l:List PV) (rest:List (List PV)),pre.length=k->(∀a∈A,a.w≠"rest")->(A.map (λa=>(k,a))).foldl wA (pre++l::rest)=pre++(l++A.map (c8 k))::rest
 | [],pre,l,rest,_,_=>by simp
 | a::A,pre,l,rest,hk,ha=>by
  have e:wA (pre++l::rest) (k,a)=pre++(l++[c8 k a])::rest:=by
   unfold wA;rw[if_neg (ha a dy)];simp only[kH];rw[jj (by lia),List.set_append_right _ _ (by lia),hk]
   simp[rF]
  rw[aO,kR,e,yy k A pre _ rest hk λb hb=>ha b (cW _ hb)]
  simp
theorem Ei(N:Nm)(r:Rw):∀a∈bZ N r,a.w≠"rest":=by
 have hat:∀s,∀a∈wz N s,a.w="read":=λs a h=>by
  cases s
  case i x=>cases x<;>simp[wz]at h<;>(subst h;rfl)
  all_goals cases h
 have hop:∀o,∀a∈oU N o,a.w="read":=λo a h=>by
  cases o with
  | num i=>cases h
  | sp s =>
   rcases b8.mp h with h | h
   ·exact hat s a h
   ·rw[aW.mp h];rfl
 have Z9:∀s,∀a∈Eg N s,a.w≠"rest":=λs a h=>by
  cases s
  case i x =>
   rcases b8.mp h with h | h
   ·rw[hat _ a h];decide
   ·rw[aW.mp h];show("turn":Str)≠"rest";decide
  all_goals (rw[aW.mp h];show("fill":Str)≠"rest";decide)
 have FV:∀o,∀a∈oU N o,a.w≠"rest":=λo a h=>by rw[hop o a h];decide
 intro a h;cases r with
 | put s o =>
  rcases b8.mp h with h | h
  ·exact FV o a h
  ·exact Z9 s a h
 | fill o =>
  rcases b8.mp h with h | h
  ·exact FV o a h
  ·exact Z9 .s a h
 | set s g o p =>
  rcases b8.mp h with h | h
  ·rcases b8.mp h with h | h
   ·exact FV o a h
   ·exact FV p a h
  ·exact Z9 s a h
 | jh o=>exact FV o a h
 | call j t as =>
  rcases b8.mp h with h | h
  ·obtain⟨x,_,rfl⟩:=dR.mp h;show("read":Str)≠"rest";decide
  ·rcases aD.mp h with rfl | h
   ·show("hand":Str)≠"rest";decide
   ·cases t with
    | none=>cases h
    | some x=>rw[aW.mp h];show("fill":Str)≠"rest";decide
 | ifs o p k =>
  rcases b8.mp h with h | h
  ·exact FV o a h
  ·exact FV p a h
 | go k=>cases h
 | bh t =>
  cases t with
  | none=>cases h
  | some x=>rw[aW.mp h];show("read":Str)≠"rest";decide
theorem uj(N:Nm):∀(rs:List Rw) (k:Nat) (pre:List (List PV)),pre.length=k->(kn k (lD N rs)).foldl wA (pre++List.replicate rs.length [])=pre++yT N k rs
 | [],k,pre,_=>by simp[lD,kn,yT]
 | r::rs,k,pre,hk=>by
  show((Ij (bZ N r)).map (λa=>(k,a))++kn (k+1) (lD N rs)).foldl wA (pre++List.replicate (rs.length+1) [])=pre++(bZ N r).map (c8 k)::yT N (k+1) rs
  rw[List.foldl_append,gu];have e:((Ij (bZ N r)).map (λa=>(k,a))).foldl wA (pre++[]::List.replicate rs.length [])=pre++(bZ N r).map (c8 k)::List.replicate rs.length []:=by
   unfold Ij;cases h:(bZ N r).isEmpty with
   | true =>
    rw[zy.mp h];rfl
   | false =>
    have:=yy k (bZ N r) pre [] (List.replicate rs.length []) hk (Ei N r);simpa using this
  rw[e];have:=uj N rs (k+1) (pre++[(bZ N r).map (c8 k)]) (by simp[hk])
  simpa using this
def Az(N:Nm)(rs:List Rw):PV:=.lst ((yT N 0 rs).map .lst)
theorem Il:∀(T:List (List Ac)) (k:Nat),∀z∈kn k T,z.1<k+T.length
 | [],_,z,h=>by cases h
 | A::T,k,z,h=>by
  rcases b8.mp h with h | h
  ·obtain⟨a,_,rfl⟩:=dR.mp h;show k<_;simp
  ·have:=Il T (k+1) z h;simp only[cz];lia
theorem CD:∀(T:List (List Ac)) (k:Nat),(∀A∈T,A.length<=6)->(kn k T).length<=6*T.length
 | [],_,_=>by simp[kn]
 | A::T,k,h=>by
  have h1:=h A dy;have h2:=CD T (k+1) λB hB=>h B (cW _ hB)
  simp only[kn,bR,aN,cz]
  lia
theorem yz(T:List (List PV))(g:List ah)(hT:∀l∈T,aj l=true):∀(n b:Nat),b+n=T.length->dC (lx (bA T++g) 3) (dv b n)=some ((T.drop b).map .lst)
 | 0,b,hb=>by rw[show T.drop b=[]from List.drop_eq_nil_of_le (by lia)];rfl
 | n+1,b,hb=>by
  have qB:b<T.length:=by lia
  have h1:(bA T++g)[b]?=some ⟨.lst,T[b]⟩:=by
   rw[fw (by simp[bA];exact qB)]
   simp[bA,qB]
  have e1:lx (bA T++g) 3 (.ref b)=some (.lst T[b]):=by
   show(((bA T++g)[b]?).bind λc=>if live c=true then(dC (lx (bA T++g) 2) c.ps).map (PV.nd c.k)else none)=_
   rw[h1];show(dC (lx (bA T++g) 2) T[b]).map (PV.nd Kd.lst)=_;rw[mC (hT _ (zB _))];rfl
  show(lx (bA T++g) 3 (.ref b)).bind (λy=>(dC (lx (bA T++g) 3) (dv (b+1) n)).map λys=>y::ys)=_
  rw[e1,yz T g hT n (b+1) (by lia)]
  rw[yW qB];rfl
theorem rH(c:Nat){N:Nm}(K:aS N){P:List Fd}{i:Nat}{F:Fd}(hF:P[i]?=some F)(hr:∀r∈F.rows,Jv r)(hl:F.rows.length<=100):∃p h',eF h' p=some (Az N F.rows)/\run aI (c+14) "acts_by_row" [.ak (P.map (fdP N)),.int (i:Int)] []=some (.ok p,h'):=by
 have nk:∀z,noRef (rF z)=true:=λz=>by simp[rF,c8,noRef,aj]
 have nl:∀(rs:List Rw) (k:Nat),∀l∈yT N k rs,aj l=true:=λrs=>by
  induction rs with
  | nil=>intro k l h;cases h
  | cons r rs ih =>
   intro k l h;rcases aD.mp h with rfl | h
   ·exact dG (λa=>nk (k,a)) _
   ·exact ih (k+1) l h
 refine⟨.ref F.rows.length,bA (yT N 0 F.rows)++[⟨.lst,dv 0 F.rows.length⟩],?_,?_⟩
 ·have hT:=CB N F.rows 0;have h1:(bA (yT N 0 F.rows)++[⟨.lst,dv 0 F.rows.length⟩])[F.rows.length]?=some ⟨.lst,dv 0 F.rows.length⟩:=by
   rw[jj (by simp[bA,hT])]
   simp[bA,hT]
  unfold eF;rw[if_neg (by simp)]
  show(((bA (yT N 0 F.rows)++[⟨.lst,dv 0 F.rows.length⟩])[F.rows.length]?).bind λc=>if live c=true then(dC (lx (bA (yT N 0 F.rows)++[⟨.lst,dv 0 F.rows.length⟩]) 3) c.ps).map (PV.nd c.k)else none)=_
  rw[h1];show(dC (lx (bA (yT N 0 F.rows)++[⟨.lst,dv 0 F.rows.length⟩]) 3) (dv 0 F.rows.length)).map (PV.nd .lst)=_;rw[yz (yT N 0 F.rows) _ (nl F.rows 0) F.rows.length 0 (by lia)]
  rfl
 ·have e1:∀h,aJ h (.ak (P.map (fdP N))) (.int (i:Int))=some (fdP N F):=λh=>atI_nat (by rw[bK,hF];rfl)
  have e2:∀h,aJ h (fdP N F) (.int 4)=some (.ak (F.rows.map (aT N))):=λh=>rfl
  obtain⟨p,h',f1,f2⟩:=QU c K hF hr hl;have e3:(F.rows.map (aT N)).length<=4000000:=by rw[aN];lia
  have e4:fu Q3 (F.rows.map (aT N)) []=some (dv 0 F.rows.length,bA (List.replicate F.rows.length [])):=by
   rw[CA (L:=[]) (ρ:=[])];simp[bA]
  have e5:(bA (List.replicate F.rows.length [])).length=F.rows.length:=by simp[bA]
  have e6:aj [PV.nd .ak (P.map (fdP N)),PV.int (i:Int)]=true:=by simp[aj,noRef,dG,om]
  obtain⟨y3,hL⟩:=rG (run aI (c+13)) (x0:=some (.ak (P.map (fdP N)))) (x1:=some (.int (i:Int))) (kn 0 (lD N F.rows)) (List.replicate F.rows.length []) [] none F.rows.length (by simp) (λz hz=>by have:=Il _ _ z hz;simpa[lD]using this) (λl h=>by
   rw[pE h];have:=CD (lD N F.rows) 0 λA hA=>by
    obtain⟨r,h1,rfl⟩:=dR.mp hA;exact Cz (yw N r (hr r h1))
   simp only[lD,aN]at this;simp only[mX,lD];lia)
  have hf:=uj N F.rows 0 [] rfl;rw[gy,gy]at hf;rw[hf]at hL;rw[oS];rw[yv]
  delta et fN at hL
  simp only[↓bf,e1,e2,e3,e4,e5,e6,f1,f2,hL,cb,bW]
end bG
set_option maxHeartbeats 4000000
namespace bG
open PySem L2 L2.U
theorem eW{h:List ah}{i:Nat}{C:Str}{ns:List Str}{ps:List PV}(e:h[i]?=some ⟨.ins C ns,ps⟩):qP h (.ref i) C=true:=by
 unfold qP;rw[dO e rfl];exact iN C
theorem QV{h:List ah}{nb nt:Int}(e:h[0]?=some (ji nb nt)):qO "boxes_made" (.ref 0) h=some (("Boxes":Str),PV.int nb):=by
 unfold qO;rw[ai e rfl];rfl
theorem QW{h:List ah}{nb nt:Int}(e:h[0]?=some (ji nb nt)):qO "tags_made" (.ref 0) h=some (("Boxes":Str),PV.int nt):=by
 unfold qO;rw[ai e rfl];rfl
theorem QX{h:List ah}{nb nt y:Int}{ρ:List (Option PV)}(e:h[0]?=some (ji nb nt)):eG eI eJ "boxes_made" (.ref 0) (.int y) ⟨ρ,h⟩=some ⟨ρ,h.set 0 (ji y nt)⟩:=by
 rw[gm e (by kernel_rfl)]
 rfl
theorem QY{h:List ah}{nb nt y:Int}{ρ:List (Option PV)}(e:h[0]?=some (ji nb nt)):eG eI eJ "tags_made" (.ref 0) (.int y) ⟨ρ,h⟩=some ⟨ρ,h.set 0 (ji nb y)⟩:=by
 rw[gm e (by kernel_rfl)]
 rfl
theorem QZ(k:Nat){g:List ah}{m t:Int}{v:PV}:EE (run aI k) "Box" [.ref g.length,.int m,.int t,v] (g++[⟨.ins "Box" [],[]⟩])=some (.ok .aP,g++[nN m t v]):=by
 rw[QH];have e1:∀ρ,eG eI eJ "number" (.ref g.length) (.int m) ⟨ρ,g++[⟨.ins "Box" [],[]⟩]⟩=some ⟨ρ,g++[⟨.ins "Box" ["number"],[.int m]⟩]⟩:=λρ=>fO (by kernel_rfl)
 have e2:∀ρ,eG eI eJ "pile" (.ref g.length) (.lst [.ak [.int t,.str "own"]]) ⟨ρ,g++[⟨.ins "Box" ["number"],[.int m]⟩]⟩=some ⟨ρ,g++[⟨.ins "Box" ["number","pile"],[.int m,fP t]⟩]⟩:=λρ=>fO (by kernel_rfl)
 have e3:∀ρ,eG eI eJ "value" (.ref g.length) v ⟨ρ,g++[⟨.ins "Box" ["number","pile"],[.int m,fP t]⟩]⟩=some ⟨ρ,g++[nN m t v]⟩:=λρ=>fO (by kernel_rfl)
 simp only[↓bf,e1,e2,e3]
theorem LM(k:Nat){g:List ah}{Q:List PV}{t:Int}:EE (run aI k) "Grip" [.ref g.length,.lst Q,.int t] (g++[⟨.ins "Grip" [],[]⟩])=some (.ok .aP,g++[Ju Q t]):=by
 rw[LC];have e1:∀ρ,eG eI eJ "boxes" (.ref g.length) (.lst Q) ⟨ρ,g++[⟨.ins "Grip" [],[]⟩]⟩=some ⟨ρ,g++[⟨.ins "Grip" ["boxes"],[.lst Q]⟩]⟩:=λρ=>fO (by kernel_rfl)
 have e2:∀ρ,eG eI eJ "tag" (.ref g.length) (.int t) ⟨ρ,g++[⟨.ins "Grip" ["boxes"],[.lst Q]⟩]⟩=some ⟨ρ,g++[Ju Q t]⟩:=λρ=>fO (by kernel_rfl)
 simp only[↓bf,e1,e2]
theorem Im(c:Nat){g:List ah}{n:Nat}{j t:Int}{v:PV}(W:Wd g (n+1)):∃h' m,run aI (c+1) "Boxes.new_box" [.ref 0,.int j,.int t,v] g=some (.ok (.ref g.length),h')/\h'.length=g.length+1/\Ch g h' [0,1]/\Wd h' n/\h'[g.length]?=some (nN m t v):=by
 have⟨nb,nt,es,h0,h1,hk⟩:=W;have e1:=QZ c (g:=g) (m:=nb) (t:=t) (v:=v);have a0:(g++[nN nb t v])[0]?=some (ji nb nt):=cO h0;have d0:=ai h0 rfl;have i0:=eW a0;have f0:=QV a0;have s0:=λρ=>QX (ρ:=ρ) (y:=nb+1) a0
 have l1:=eV h1;obtain⟨g1,rZ⟩:∃g1,g1=(g++[nN nb t v]).set 0 (ji (nb+1) nt):=⟨_,rfl⟩
 rw[<-rZ]at s0;have c1:Ch (g++[nN nb t v]) g1 [0]:=by rw[rZ];exact Ch.set _
 have b0:g1[0]?=some (ji (nb+1) nt):=by rw[rZ];exact bI a0
 have b1:=c1.get (cO (g:=[nN nb t v]) h1) (by simp)
 have bb:g1[g.length]?=some (nN nb t v):=c1.get dk (by intro z;rw[aW]at z;lia)
 have db0:=ai b0 rfl;have VX:=ai b1 rfl;have dbb:=ai bb rfl;have ap:=λρ v=>iU (ρ:=ρ) (v:=v) b1 (by lia)
 have ad:∀h,sE h (.int nb) (.int 1)=some (.int (nb+1)):=λh=>rfl
 refine⟨g1.set 1 ⟨.lst,es++[.ak [.int j,.int (-1),.str "own",.int nb,.int t,.int (-1)]]⟩,nb,?_,?_,?_,?_,?_⟩
 ·rw[mx];simp only[↓bf,e1,d0,i0,f0,s0,db0,VX,dbb,ap,ad]
 ·rw[iq,rZ,iq,bR];rfl
 ·exact(((Ch.app g _ [0,1]).tr c1 (by simp))).tr (Ch.set _) (by simp)
 ·exact⟨nb+1,nt,_,by rw[aL (by decide),b0],bI b1,by rw[bR];show es.length+1+n<=_;lia⟩
 ·rw[aL (by lia),bb]
noncomputable def c6:Nat->List PV->Pl
 | _,[]=>[]
 | n,v::vs=>(n,v)::c6 (n+1) vs
theorem yA(c:Nat){j t:Int}:∀(vs:List PV) (g:List ah) (n:Nat),Wd g (n+vs.length)->∃h',fu (oG (cS 1) (yb [("Boxes","Boxes.new_box",4)] (run aI (c+1)) "new_box" (rd 3) Q2) [none,none,some (.int j),some (.ref 0),some (.int t)]) vs g=some ((c6 g.length vs).map λx=>.ref x.1,h')/\h'.length=g.length+vs.length/\Ch g h' [0,1]/\Wd h' n/\∀x∈c6 g.length vs,∃m,h'[x.1]?=some (nN m t x.2)
 | [],g,n,W=>⟨g,rfl,rfl,Ch.refl _ _,W,λx hx=>by cases hx⟩
 | v::vs,g,n,W=>by
  rw[cz]at W;obtain⟨h1,m,e1,l1,c1,w1,b1⟩:=Im c (j:=j) (t:=t) (v:=v) (n:=n+vs.length) (W.mono (by lia))
  have⟨nb,nt,es,h0,YF,hk⟩:=W;have mt:=λL=>iV (L:=L) (m:="new_box") h0 (by kernel_rfl)
  obtain⟨h2,e2,l2,c2,w2,b2⟩:=yA c (j:=j) (t:=t) vs h1 n w1;have bd:oG (cS 1) (yb [("Boxes","Boxes.new_box",4)] (run aI (c+1)) "new_box" (rd 3) Q2) [none,none,some (.int j),some (.ref 0),some (.int t)] v g=some (some (.ref g.length),h1):=by
   refine QJ (st1:=⟨[none,some v,some (.int j),some (.ref 0),some (.int t)],g⟩) (QG:=[none,some v,some (.int j),some (.ref 0),some (.int t)]) rfl ?_;refine bH ?_;simp only[↓gY,e1,mt]
  refine⟨h2,?_,by rw[l2,l1,cz];lia,c1.tr c2 (λ_ h _=>h),w2,?_⟩
  ·rw[rf bd e2,l1];rfl
  ·intro x hx;rcases aD.mp hx with rfl | hx
   ·have:=eV YF;exact⟨m,c2.get b1 (by intro z;simp only[aD,bu,bz]at z;lia)⟩
   ·rw[l1]at b2;exact b2 x hx
theorem ph(c:Nat){g:List ah}{n:Nat}{j:Int}{vs:List PV}(hv:vs.length<=2)(W:Wd g (n+2)):∃h',run aI (c+2) "Boxes.owned" [.ref 0,.int j,.lst vs] g=some (.ok (.ref (g.length+vs.length)),h')/\h'.length=g.length+vs.length+1/\Ch g h' [0,1]/\Wd h' n/\ue h' (g.length+vs.length) (c6 g.length vs):=by
 have⟨nb,nt,es,h0,h1,hk⟩:=W;have mt:=λL=>iV (L:=L) (m:="new_tag") h0 (by kernel_rfl)
 have i0:=eW h0;have f0:=QW h0;have s0:=λρ=>QY (ρ:=ρ) (y:=nt+1) h0
 obtain⟨g1,rZ⟩:∃g1,g1=g.set 0 (ji nb (nt+1)):=⟨_,rfl⟩
 rw[<-rZ]at s0;have b0:g1[0]?=some (ji nb (nt+1)):=by rw[rZ];exact bI h0
 have c1:Ch g g1 [0]:=by rw[rZ];exact Ch.set _
 have gl:g1.length=g.length:=by rw[rZ,iq]
 have db0:=ai b0 rfl;have ad:∀h,sE h (.int nt) (.int 1)=some (.int (nt+1)):=λh=>rfl
 have su:∀h,O7 h (.int (nt+1)) (.int 1)=some (.int nt):=λh=>by show some (PV.int (nt+1-1))=_;rw[Int.add_sub_cancel]
 have e1:run aI (c+1) "Boxes.new_tag" [.ref 0] g=some (.ok (.int nt),g1):=by
  rw[mw];simp only[↓bf,i0,f0,s0,db0,ad,su]
 have W1:Wd g1 (n+vs.length):=⟨nb,nt+1,es,b0,c1.get h1 (by simp),by lia⟩
 obtain⟨h2,e2,l2,c2,w2,b2⟩:=yA c (j:=j) (t:=nt) vs g1 n W1;have e3:=LM (c+1) (g:=h2) (Q:=nO (c6 g1.length vs)) (t:=nt);have l3:vs.length<=4000000:=aX hv (by decide)
 rw[gl]at e2 b2 l2 e3;refine⟨h2++[Ju (nO (c6 g.length vs)) nt],?_,by rw[bR,l2];rfl,((c1.mono (by simp)).tr c2 (λ_ h _=>h)).tr (Ch.app _ _ []) (by simp),w2.ch (Ch.app _ _ []) (by simp),nt,?_,λx hx=>?_⟩
 ·rw[l2]at e3;have e3:EE (run aI (c+1)) "Grip" [.ref (g.length+vs.length),.lst ((c6 g.length vs).map λx=>.ref x.1),.int nt] (h2++[⟨.ins "Grip" [],[]⟩])=some (.ok .aP,h2++[Ju (nO (c6 g.length vs)) nt]):=e3
  rw[oM];simp only[↓bf,e1,e2,e3,mt,l2,l3]
 ·rw[<-l2];exact dk
 ·obtain⟨m,hm⟩:=b2 x hx;exact⟨m,cO hm⟩
end bG
set_option maxHeartbeats 4000000
namespace bG
open PySem L2 L2.U
noncomputable def nL:N3->Nat
 | .c=>2
 | _=>1
theorem Io(c:Nat)(N:Nm)(x:N3):∃p h' q,run aI (c+2) "leaves" [oJ N x] []=some (.ok p,h')/\eF h' p=some q/\∀h,fE h [q]=some (.int (nL x:Int)):=by
 cases x with
 | c =>
  have e1:run aI (c+1) "leaves" [.ak [.str "strip",.int (N.z:Int)]] []=some (.ok (.ak [.ak [.str "strip",.int (N.z:Int)]]),[]):=by
   rw[gP];simp only[↓bf]
  have e2:run aI (c+1) "leaves" [.ak [.str "num"]] []=some (.ok (.ak [.ak [.str "num"]]),[]):=by
   rw[gP];simp only[↓bf]
  have i0:∀h,aJ h (oJ N .c) (.int 0)=some (.str "rec"):=λh=>rfl
  have i1:∀h,aJ h (oJ N .c) (.int 1)=some (.ak [.ak [.str "strip",.int (N.z:Int)],.ak [.str "num"]]):=λh=>rfl
  have x1:∀ρ a,oF (.ref 0) [.ak [a]] ⟨ρ,[⟨.lst,[]⟩]⟩=some (.ok .aP,⟨ρ,[⟨.lst,[a]⟩]⟩):=λρ a=>rfl
  have x2:∀ρ a b,oF (.ref 0) [.ak [b]] ⟨ρ,[⟨.lst,[a]⟩]⟩=some (.ok .aP,⟨ρ,[⟨.lst,[a,b]⟩]⟩):=λρ a b=>rfl
  refine⟨.ak [.ak [.str "strip",.int (N.z:Int)],.ak [.str "num"]],[⟨.lst,[.ak [.str "strip",.int (N.z:Int)],.ak [.str "num"]]⟩],.ak [.ak [.str "strip",.int (N.z:Int)],.ak [.str "num"]],?_,rfl,λh=>rfl⟩
  rw[gP];simp only[↓bf,e1,e2,i0,i1,x1,x2]
 | a=>exact⟨.ak [yt],[],.ak [yt],by rw[gP];simp only[↓bf,oJ,yt],rfl,λh=>rfl⟩
 | b=>exact⟨.ak [yt],[],.ak [yt],by rw[gP];simp only[↓bf,oJ,yt],rfl,λh=>rfl⟩
theorem Ip(c:Nat){g:List ah}{n:Nat}{j:Int}(N:Nm)(x:N3)(W:Wd g (n+2)):∃h',run aI (c+4) "Boxes.let" [.ref 0,.int j,oJ N x] g=some (.ok (.ref (g.length+nL x)),h')/\h'.length=g.length+nL x+1/\Ch g h' [0,1]/\Wd h' n/\ue h' (g.length+nL x) (c6 g.length (List.replicate (nL x) .aP)):=by
 obtain⟨p,hp,q,e1,e2,e3⟩:=Io (c+1) N x;have⟨nb,nt,es,h0,h1,hk⟩:=W;have mt:=λL=>iV (L:=L) (m:="owned") h0 (by kernel_rfl)
 have hE:=fZ h0;have ih:=dc (c+2) N x;obtain⟨h',o1,o2,o3,o4,o5⟩:=ph (c+1) (j:=j) (vs:=List.replicate (nL x) .aP) (by cases x<;>simp[nL]) W
 rw[List.length_replicate]at o1 o2 o5;have mu:∀h,lA h (.lst [.aP]) (.int (nL x:Int))=some (.lst (List.replicate (nL x) .aP)):=λh=>by cases x<;>rfl
 refine⟨h',?_,o2,o3,o4,o5⟩;have nr:aj [oJ N x]=true:=by simp[aj,iL]
 rw[sF];simp only[↓bf,e1,e2,e3,mt,ih,o1,mu,hE,nr,iL,aj,noRef,cb,bW,kT]
abbrev cQ(es:List (Str×PV)):ah:=⟨.gB false (es.map λe=>bD e.1),es.map (·.2)⟩
theorem pj{x:Str}{ys:List Str}(h:∀y∈ys,y≠x):jA (bD x) (ys.map bD)=false:=by
 unfold jA;rw[List.any_eq_false];intro k hk;obtain⟨y,hy,rfl⟩:=dR.mp hk;have:bD y≠bD x:=λz=>h y hy (by unfold bD at z;injection z with z1 _;injection z1)
 simp[this]
theorem CF{h:List ah}{d:Nat}{es:List (Str×PV)}{x:Str}{v:PV}{ρ:List (Option PV)}(e:h[d]?=some (cQ es))(hl:es.length<100)(hd:∀e∈es,e.1≠x) :
  gk (.ref d) (.str x) v ⟨ρ,h⟩=some ⟨ρ,h.set d (cQ (es++[(x,v)]))⟩:=by
 have hn:=pj (x:=x) (ys:=es.map (·.1)) (λy hy=>by obtain⟨e,he,rfl⟩:=dR.mp hy;exact hd e he)
 rw[kX]at hn;show((kf h (.ref d)).bind λc=>match c.2.k with
  | .lst=>(l7 (.str x)).bind λi=>(BF c.2.ps.length i).map λj=>(⟨ρ,h.set c.1 ⟨.lst,c.2.ps.set j v⟩⟩:cq)
  | .gB t lJ=>(i8 t (.str x)).bind λk=>if lJ.length<gX then some ⟨ρ,h.set c.1 (fj t k v lJ c.2.ps)⟩else none
  | _=>none)=_
 rw[dO e rfl];show(if(es.map λe=>bD e.1).length<gX then some (⟨ρ,h.set d (fj false (bD x) v (es.map λe=>bD e.1) (es.map (·.2)))⟩:cq)else none)=_
 rw[if_pos (by rw[aN];exact kW hl (by decide))]
 unfold fj;rw[if_neg (by rw[show jA (bD x) (es.map λe=>bD e.1)=false from hn];exact cR)]
 simp[cQ]
theorem ic{h L:List ah}{es:List (Str×PV)}{x:Str}{v:PV}{ρ:List (Option PV)}(hl:es.length<100)(hd:∀e∈es,e.1≠x) :
  gk (.ref h.length) (.str x) v ⟨ρ,h++cQ es::L⟩=some ⟨ρ,h++cQ (es++[(x,v)])::L⟩:=by
 rw[CF (es:=es) (by simp) hl hd]
 simp
theorem Iq(k:Nat){g:List ah}{j:Int}{d:Nat}:EE (run aI k) "Frame" [.ref g.length,.int j,.ref d] (g++[⟨.ins "Frame" [],[]⟩])=some (.ok .aP,g++[uf j d 0]):=by
 rw[HQ];have e1:∀ρ,eG eI eJ "at" (.ref g.length) (.int j) ⟨ρ,g++[⟨.ins "Frame" [],[]⟩]⟩=some ⟨ρ,g++[⟨.ins "Frame" ["at"],[.int j]⟩]⟩:=λρ=>fO (by kernel_rfl)
 have e2:∀ρ,eG eI eJ "has" (.ref g.length) (.ref d) ⟨ρ,g++[⟨.ins "Frame" ["at"],[.int j]⟩]⟩=some ⟨ρ,g++[⟨.ins "Frame" ["at","has"],[.int j,.ref d]⟩]⟩:=λρ=>fO (by kernel_rfl)
 have e3:∀ρ,eG eI eJ "row" (.ref g.length) (.int 0) ⟨ρ,g++[⟨.ins "Frame" ["at","has"],[.int j,.ref d]⟩]⟩=some ⟨ρ,g++[uf j d 0]⟩:=λρ=>fO (by kernel_rfl)
 simp only[↓bf,e1,e2,e3]
structure Vs where
 a:Int
 b:Int
 s:List Int
 n:Int
def stP(s:List Int):PV:=.ak (s.map .int)
structure Ra where
 a:PV
 b:PV
 s:PV
 n:PV
def raw(V:Vs):Ra:=⟨.int V.a,.int V.b,stP V.s,.int V.n⟩
noncomputable def Hn(N:Nm)(w:Bool)(n:Nat)(A:Ra):List (Str×Nat×Pl) :=
 if w=true then [(N.a,n+2,[(n+1,A.a)]),(N.c,n+5,[(n+3,A.s),(n+4,A.n)]),(N.b,n+7,[(n+6,A.b)])]
 else [(N.a,n+2,[(n+1,A.a)]),(N.b,n+4,[(n+3,A.b)]),(N.c,n+7,[(n+5,A.s),(n+6,A.n)])]
noncomputable abbrev EF(prog:PV)(w nu:Nat)(li:PV)(fl sd:Nat)(cnt:Int):ah:=⟨.ins "Run" ["program","world","numbers","listed","frames","said","count"],[prog,.ref w,.ref nu,li,.ref fl,.ref sd,.int cnt]⟩
structure cG (h:List ah) (R:Nat) (N:Nm) (P:List Fd) (w nu fl sd:Nat) (fs:List PV) (cnt:Int) (aU:List Int):Prop where
 r:h[R]?=some (EF (.ak (P.map (fdP N))) w nu (.lst (P.map λF=>Az N F.rows)) fl sd cnt)
 nu:h[nu]?=some ⟨.gB false (P.map λF=>bD F.f),(List.range P.length).map fun(i:Nat)=>.int (i:Int)⟩
 fl:h[fl]?=some ⟨.lst,fs⟩
 sd:h[sd]?=some ⟨.lst,aU.map .int⟩
theorem cG.ch{h h':List ah}{A:List Nat}{N:Nm}{P:List Fd}{R w0 nu fl sd:Nat}{fs:List PV}{cnt:Int}{aU:List Int}(hR:cG h R N P w0 nu fl sd fs cnt aU)(c:Ch h h' A)(hA:R∉A/\nu∉A/\fl∉A/\sd∉A):cG h' R N P w0 nu fl sd fs cnt aU :=
 ⟨c.get hR.r hA.1,c.get hR.nu hA.2.1,c.get hR.fl hA.2.2.1,c.get hR.sd hA.2.2.2⟩
theorem cG.app{h:List ah}(g:List ah){N:Nm}{P:List Fd}{R w0 nu fl sd:Nat}{fs:List PV}{cnt:Int}{aU:List Int}(hR:cG h R N P w0 nu fl sd fs cnt aU):cG (h++g) R N P w0 nu fl sd fs cnt aU:=hR.ch (Ch.app h g []) (by simp)
theorem mD{h:List ah}{g:Nat}{es:List (Str×PV)}{x:Str}{v:PV}(e:h[g]?=some (cQ es))(hx:d8 (bD x) (es.map λe=>bD e.1) (es.map (·.2))=some v):aJ h (.ref g) (.str x)=some v:=by
 have d:=ai e rfl;simp only[aJ,d];exact hx
theorem ue.ch{h h':List ah}{A:List Nat}{g:Nat}{P:Pl}(G:ue h g P)(c:Ch h h' A)(hg:g∉A)(hp:∀x∈P,x.1∉A):ue h' g P:=by
 obtain⟨t,a1,a2⟩:=G;exact⟨t,c.get a1 hg,λx hx=>by obtain⟨m,hm⟩:=a2 x hx;exact⟨m,c.get hm (hp x hx)⟩⟩
noncomputable def uk(N:Nm):List Int:=List.replicate N.z 0
end bG
set_option maxHeartbeats 4000000
namespace bG
open PySem L2 L2.U
theorem keep{A:List Nat}{x y:List ah}{d gg:Nat}{PP:Pl}(h4:4<d)(G:ue x gg PP)(cc:Ch x y A)(hA:A=[4]\/A=[0,1]\/A=[d])(h1:d<gg)(h2:∀z∈PP,d<z.1):ue y gg PP:=by
 have nn:∀{m:Nat},d<m->m∉A:=λhm z=>by rcases hA with rfl | rfl | rfl<;>simp only[aD,bu,bz]at z<;>lia
 exact G.ch cc (nn h1) λz hz=>nn (h2 z hz)
theorem j6{h g h':List ah}{d n:Nat}{es:List (Str×PV)}(x:Str)(v:PV)(hd:d=h.length)(h5:5<d)(D:g[d]?=some (cQ es))(k:Ch h g [0,1])(q:Ch g h' [0,1])(W:Wd h' n)(hes:es.length<100)(hx:∀e∈es,e.1≠x) :
  ∃t,(∀ρ,gk (.ref d) (.str x) v ⟨ρ,h'⟩=some ⟨ρ,t⟩)/\Ch h' t [d]/\t[d]?=some (cQ (es++[(x,v)]))/\t.length=h'.length/\Wd t n/\Ch h t [0,1]:=by
 have E:=q.get D (by intro z;simp only[aD,bu,bz]at z;lia)
 have u:Ch h' (h'.set d (cQ (es++[(x,v)]))) [d]:=Ch.set _;exact⟨_,λρ=>CF E hes hx,u,bI E,iq,W.ch u (by simp only[aD,bu,bz];lia),(k.tr q (λ_ h _=>h)).tr u (λm hm hl=>by simp only[aD,bu,bz]at hm;lia)⟩
theorem CG(c:Nat){h t:List ah}{N:Nm}{P:List Fd}{fs:List PV}{cnt:Int}{aU:List Int}{d j n:Nat}(hR:cG h 2 N P 0 3 4 5 fs cnt aU)(k:Ch h t [0,1])(hd:d=h.length)(lt:t.length=d+8)(W:Wd t n)(Q4:fs.length<=4000) :
  ∃h9,(∀ρ,fH (dY eS) (.ref 4) [.ref (d+8)] ⟨ρ,t++[uf j d 0]⟩=some (.ok .aP,⟨ρ,h9⟩))/\EE (run aI c) "Frame" [.ref (d+8),.int (j:Int),.ref d] (t++[⟨.ins "Frame" [],[]⟩])=some (.ok .aP,t++[uf j d 0])/\da (t++[uf j d 0]) (.ref 4)=some (.lst,fs)/\cG h9 2 N P 0 3 4 5 (fs++[.ref (d+8)]) cnt aU/\Ch t h9 [4]/\h9[d+8]?=some (uf j d 0)/\Wd h9 n/\Ch h h9 [0,1,4]/\h9.length=d+9:=by
 have R3:=hR.ch k (by simp)
 have R4:=R3.app [uf j d 0];have f1:=Iq c (g:=t) (j:=(j:Int)) (d:=d);rw[lt]at f1;obtain⟨h9,Wc⟩:∃h9,h9=(t++[uf j d 0]).set 4 ⟨.lst,fs++[.ref (d+8)]⟩:=⟨_,rfl⟩
 have c9:Ch t h9 [4]:=by
  rw[Wc];exact(Ch.app t [uf j d 0] [4]).tr (Ch.set _) (λ_ h _=>h)
 refine⟨h9,λρ=>by rw[Wc];exact iU R4.fl (by lia),f1,ai R4.fl rfl,⟨c9.get R3.r (by simp),c9.get R3.nu (by simp),by rw[Wc];exact bI R4.fl,c9.get R3.sd (by simp)⟩,c9,?_,W.ch c9 (by simp),(k.mono (by simp)).tr c9 (by simp),by rw[Wc,iq,bR,lt];rfl⟩
 rw[Wc,aL (by lia),<-lt]
 exact dk
theorem yB(c:Nat){h:List ah}{g j n:Nat}{N:Nm}(K:aS N){P:List Fd}{fs:List PV}{cnt:Int}{aU:List Int}{F:Fd}{va:Int}{es:List (Str×PV)}
  (hR:cG h 2 N P 0 3 4 5 fs cnt aU) (W:Wd h (n+6)) (hF:P[j]?=some F) (hw:F.w=false) (hg:h[g]?=some (cQ es)) (ga:d8 (bD N.a) (es.map λe=>bD e.1) (es.map (·.2))=some (.lst [.int va])) (Q4:fs.length<=4000) :
  ∃h',run aI (c+8) "begin" [.ref 2,.int (j:Int),.ref g] h=some (.ok .aP,h')/\cG h' 2 N P 0 3 4 5 (fs++[.ref (h.length+8)]) cnt aU/\oT h' (h.length+8) h.length j 0 (Hn N false h.length ⟨.int va,.aP,.aP,.aP⟩)/\Wd h' n/\Ch h h' [0,1,4]/\h'.length=h.length+9:=by
 have h5:5<h.length:=eV hR.sd;obtain⟨d,hd⟩:∃d,d=h.length:=⟨_,rfl⟩
 rw[<-hd]at h5 ⊢;obtain⟨g0,Ir⟩:∃g0,g0=h++[⟨.gB false [],[]⟩]:=⟨_,rfl⟩
 have l0:g0.length=d+1:=by rw[Ir,bR,hd];rfl
 have k0:Ch h g0 [0,1]:=by rw[Ir];exact Ch.app _ _ _
 have D0:g0[d]?=some (cQ []):=by rw[Ir,hd];exact dk
 have W0:Wd g0 ((n+4)+2):=by rw[Ir];exact(W.ch (Ch.app h _ []) (by simp)).mono (by lia)
 obtain⟨h1,o1,p1,q1,W1,G1⟩:=ph (c+5) (j:=(j:Int)) (vs:=[.int va]) (by simp) W0
 rw[l0]at o1 p1 G1;have o1:run aI (c+7) "Boxes.owned" [.ref 0,.int (j:Int),.lst [.int va]] g0=some (.ok (.ref (d+2)),h1):=o1;have G1:ue h1 (d+2) (c6 (d+1) [.int va]):=G1;obtain⟨t1,s1,u1,D1,L1,V1,k1⟩:=j6 (N.n .a) (.ref (d+2)) hd h5 D0 k0 q1 W1 (by simp) (by simp)
 have L1:t1.length=d+3:=L1.trans p1;obtain⟨h2,o2,p2,q2,W2,G2⟩:=Ip (c+3) (j:=(j:Int)) N .b V1;rw[L1]at o2 p2 G2;have o2:run aI (c+7) "Boxes.let" [.ref 0,.int (j:Int),oJ N .b] t1=some (.ok (.ref (d+4)),h2):=o2
 have G2:ue h2 (d+4) (c6 (d+3) (List.replicate 1 .aP)):=G2;obtain⟨t2,s2,u2,D2,L2,V2,k2⟩:=j6 (N.n .b) (.ref (d+4)) hd h5 D1 k1 q2 W2 (by simp) (by simp;exact K.ab)
 have L2:t2.length=d+5:=L2.trans p2;obtain⟨h3,o3,p3,q3,W3,G3⟩:=Ip (c+3) (j:=(j:Int)) N .c V2;rw[L2]at o3 p3 G3;have o3:run aI (c+7) "Boxes.let" [.ref 0,.int (j:Int),oJ N .c] t2=some (.ok (.ref (d+7)),h3):=o3
 have G3:ue h3 (d+7) (c6 (d+5) (List.replicate 2 .aP)):=G3;obtain⟨t3,s3,u3,D3,L3,V3,k3⟩:=j6 (N.n .c) (.ref (d+7)) hd h5 D2 k2 q3 W3 (by simp) (by simp;exact⟨K.ac,K.bc⟩)
 have L3:t3.length=d+8:=L3.trans p3;have r0:=ai (hR.ch k0 (by simp)).r rfl
 have r1:=ai (hR.ch k1 (by simp)).r rfl
 have r2:=ai (hR.ch k2 (by simp)).r rfl
 have r3:=ai (hR.ch k3 (by simp)).r rfl
 have r5:=ai (hR.ch k3 (by simp)).fl rfl
 have wm:∀{t:List ah} {k:Nat} (L:List (Str×(Str×Nat))) (m:Str),Wd t k->(["entries","boxes_made","tags_made"]:List Str).contains m=false->AJ L m (.ref 0) t=L.lookup ("Boxes":Str):=λL m ⟨_,_,_,a0,_,_⟩ hm=>iV a0 hm
 have mo0:=λL=>wm L "owned" W0 (by kernel_rfl)
 have mo1:=λL=>wm L "owned" V1 (by kernel_rfl)
 have ml1:=λL=>wm L "let" V1 (by kernel_rfl)
 have ml2:=λL=>wm L "let" V2 (by kernel_rfl)
 have e2:∀h,aJ h (.ak (P.map (fdP N))) (.int (j:Int))=some (fdP N F):=λh=>atI_nat (by rw[bK,hF];rfl)
 have e3:∀h,aJ h (fdP N F) (.int 1)=some (.ak [dH N .a]):=λh=>by
  show some (PV.ak ((par F.w).map (dH N)))=_;rw[hw];rfl
 have e4:∀h,aJ h (fdP N F) (.int 3)=some (.ak [dH N .b,dH N .c]):=λh=>by
  show some (PV.ak ((QN F.w).map (dH N)))=_;rw[hw];rfl
 have e5:=dc (c+6) N;have Xj:g∉[0,1]:=by
  obtain⟨nb,nt,N0,a0,a1,_⟩:=W;simp only[aD,bu,bz,not_or];exact⟨ib hg a0 (by intro z;cases z),ib hg a1 (by intro z;cases z)⟩
 have e6:aJ g0 (.ref g) (.str (N.n .a))=_:=mD (k0.get hg Xj) ga;have hE0:=fZ (hR.ch k0 (by simp)).r
 have nP:=fZ (hR.ch k1 (by simp)).r
 obtain⟨h9,a1,f1,r4,R9,c9,fr9,W9,ca,la⟩:=CG (c+7) (j:=j) hR k3 hd L3 V3 Q4;refine⟨h9,?_,R9,⟨fr9,c9.get D3 (by simp;lia),?_,?_⟩,W9,ca,la⟩
 ·rw[uc];simp only[↓bf,<-Ir,<-hd,r0,r1,r2,r3,r4,r5,mo0,mo1,ml1,ml2,e2,e3,e4,e5,e6,o1,o2,o3,s1,s2,s3,hE0,nP,f1,L3,a1,iL,aj,noRef,cb,bW,kT]
 ·have kp:=λ{A x y gg PP}=>@keep A x y d gg PP (by lia)
  intro e he;simp only[Hn,eO,fT,dS,aD,bu,bz]at he;rcases he with rfl | rfl | rfl
  ·have z:∀z∈c6 (d+1) [.int va],d<z.1:=by simp[c6]
   show ue h9 (d+2) _;exact kp (kp (kp (kp (kp (kp G1 u1 (by simp) (by lia) z) q2 (by simp) (by lia) z) u2 (by simp) (by lia) z) q3 (by simp) (by lia) z) u3 (by simp) (by lia) z) c9 (by simp) (by lia) z
  ·have z:∀z∈c6 (d+3) (List.replicate 1 .aP),d<z.1:=by simp[c6]<;>lia
   show ue h9 (d+4) _;exact kp (kp (kp (kp G2 u2 (by simp) (by lia) z) q3 (by simp) (by lia) z) u3 (by simp) (by lia) z) c9 (by simp) (by lia) z
  ·have z:∀z∈c6 (d+5) (List.replicate 2 .aP),d<z.1:=by simp[c6]<;>lia
   show ue h9 (d+7) _;exact kp (kp G3 u3 (by simp) (by lia) z) c9 (by simp) (by lia) z
 ·intro e he;simp only[Hn,eO,fT,dS,aD,bu,bz]at he;rcases he with rfl | rfl | rfl<;>simp
theorem Iu(c:Nat){h:List ah}{g j n:Nat}{N:Nm}(K:aS N){P:List Fd}{fs:List PV}{cnt:Int}{aU:List Int}{F:Fd}{va vn:Int}{vs:List Int}{es:List (Str×PV)}
  (hR:cG h 2 N P 0 3 4 5 fs cnt aU) (W:Wd h (n+6)) (hF:P[j]?=some F) (hw:F.w=true) (hg:h[g]?=some (cQ es)) (ga:d8 (bD N.a) (es.map λe=>bD e.1) (es.map (·.2))=some (.lst [.int va])) (gc:d8 (bD N.c) (es.map λe=>bD e.1) (es.map (·.2))=some (.lst [stP vs,.int vn])) (Q4:fs.length<=4000) :
  ∃h',run aI (c+8) "begin" [.ref 2,.int (j:Int),.ref g] h=some (.ok .aP,h')/\cG h' 2 N P 0 3 4 5 (fs++[.ref (h.length+8)]) cnt aU/\oT h' (h.length+8) h.length j 0 (Hn N true h.length ⟨.int va,.aP,stP vs,.int vn⟩)/\Wd h' n/\Ch h h' [0,1,4]/\h'.length=h.length+9:=by
 have h5:5<h.length:=eV hR.sd;obtain⟨d,hd⟩:∃d,d=h.length:=⟨_,rfl⟩
 rw[<-hd]at h5 ⊢;obtain⟨g0,Ir⟩:∃g0,g0=h++[⟨.gB false [],[]⟩]:=⟨_,rfl⟩
 have l0:g0.length=d+1:=by rw[Ir,bR,hd];rfl
 have k0:Ch h g0 [0,1]:=by rw[Ir];exact Ch.app _ _ _
 have D0:g0[d]?=some (cQ []):=by rw[Ir,hd];exact dk
 have W0:Wd g0 ((n+4)+2):=by rw[Ir];exact(W.ch (Ch.app h _ []) (by simp)).mono (by lia)
 obtain⟨h1,o1,p1,q1,W1,G1⟩:=ph (c+5) (j:=(j:Int)) (vs:=[.int va]) (by simp) W0
 rw[l0]at o1 p1 G1;have o1:run aI (c+7) "Boxes.owned" [.ref 0,.int (j:Int),.lst [.int va]] g0=some (.ok (.ref (d+2)),h1):=o1;have G1:ue h1 (d+2) (c6 (d+1) [.int va]):=G1;obtain⟨t1,s1,u1,D1,L1,V1,k1⟩:=j6 (N.n .a) (.ref (d+2)) hd h5 D0 k0 q1 W1 (by simp) (by simp)
 have L1:t1.length=d+3:=L1.trans p1;obtain⟨h2,o2,p2,q2,W2,G2⟩:=ph (c+5) (j:=(j:Int)) (vs:=[stP vs,.int vn]) (by simp) V1
 rw[L1]at o2 p2 G2;have o2:run aI (c+7) "Boxes.owned" [.ref 0,.int (j:Int),.lst [stP vs,.int vn]] t1=some (.ok (.ref (d+5)),h2):=o2;have G2:ue h2 (d+5) (c6 (d+3) [stP vs,.int vn]):=G2;obtain⟨t2,s2,u2,D2,L2,V2,k2⟩:=j6 (N.n .c) (.ref (d+5)) hd h5 D1 k1 q2 W2 (by simp) (by simp;exact K.ac)
 have L2:t2.length=d+6:=L2.trans p2;obtain⟨h3,o3,p3,q3,W3,G3⟩:=Ip (c+3) (j:=(j:Int)) N .b V2;rw[L2]at o3 p3 G3;have o3:run aI (c+7) "Boxes.let" [.ref 0,.int (j:Int),oJ N .b] t2=some (.ok (.ref (d+7)),h3):=o3
 have G3:ue h3 (d+7) (c6 (d+6) (List.replicate 1 .aP)):=G3;obtain⟨t3,s3,u3,D3,L3,V3,k3⟩:=j6 (N.n .b) (.ref (d+7)) hd h5 D2 k2 q3 W3 (by simp) (by simp;exact⟨K.ab,λz=>K.bc z.symm⟩)
 have L3:t3.length=d+8:=L3.trans p3;have r0:=ai (hR.ch k0 (by simp)).r rfl
 have r1:=ai (hR.ch k1 (by simp)).r rfl
 have r2:=ai (hR.ch k2 (by simp)).r rfl
 have r3:=ai (hR.ch k3 (by simp)).r rfl
 have r5:=ai (hR.ch k3 (by simp)).fl rfl
 have wm:∀{t:List ah} {k:Nat} (L:List (Str×(Str×Nat))) (m:Str),Wd t k->(["entries","boxes_made","tags_made"]:List Str).contains m=false->AJ L m (.ref 0) t=L.lookup ("Boxes":Str):=λL m ⟨_,_,_,a0,_,_⟩ hm=>iV a0 hm
 have mo0:=λL=>wm L "owned" W0 (by kernel_rfl)
 have mo1:=λL=>wm L "owned" V1 (by kernel_rfl)
 have ml1:=λL=>wm L "let" V1 (by kernel_rfl)
 have ml2:=λL=>wm L "let" V2 (by kernel_rfl)
 have e2:∀h,aJ h (.ak (P.map (fdP N))) (.int (j:Int))=some (fdP N F):=λh=>atI_nat (by rw[bK,hF];rfl)
 have e3:∀h,aJ h (fdP N F) (.int 1)=some (.ak [dH N .a,dH N .c]):=λh=>by
  show some (PV.ak ((par F.w).map (dH N)))=_;rw[hw];rfl
 have e4:∀h,aJ h (fdP N F) (.int 3)=some (.ak [dH N .b]):=λh=>by
  show some (PV.ak ((QN F.w).map (dH N)))=_;rw[hw];rfl
 have e5:=dc (c+6) N;have Xj:g∉[0,1]:=by
  obtain⟨nb,nt,N0,a0,a1,_⟩:=W;simp only[aD,bu,bz,not_or];exact⟨ib hg a0 (by intro z;cases z),ib hg a1 (by intro z;cases z)⟩
 have e6:aJ g0 (.ref g) (.str (N.n .a))=_:=mD (k0.get hg Xj) ga;have e7:aJ t1 (.ref g) (.str (N.n .c))=_:=mD (k1.get hg Xj) gc;have hE0:=fZ (hR.ch k0 (by simp)).r
 have nP:=fZ (hR.ch k1 (by simp)).r
 obtain⟨h9,a1,f1,r4,R9,c9,fr9,W9,ca,la⟩:=CG (c+7) (j:=j) hR k3 hd L3 V3 Q4;refine⟨h9,?_,R9,⟨fr9,c9.get D3 (by simp;lia),?_,?_⟩,W9,ca,la⟩
 ·rw[uc];simp only[↓bf,<-Ir,<-hd,r0,r1,r2,r3,r4,r5,mo0,mo1,ml1,ml2,e2,e3,e4,e5,e6,e7,o1,o2,o3,s1,s2,s3,hE0,nP,f1,L3,a1,iL,aj,noRef,cb,bW,kT]
 ·have kp:=λ{A x y gg PP}=>@keep A x y d gg PP (by lia)
  intro e he;simp only[Hn,eO,fT,dS,aD,bu,bz]at he;rcases he with rfl | rfl | rfl
  ·have z:∀z∈c6 (d+1) [.int va],d<z.1:=by simp[c6]
   show ue h9 (d+2) _;exact kp (kp (kp (kp (kp (kp G1 u1 (by simp) (by lia) z) q2 (by simp) (by lia) z) u2 (by simp) (by lia) z) q3 (by simp) (by lia) z) u3 (by simp) (by lia) z) c9 (by simp) (by lia) z
  ·have z:∀z∈c6 (d+3) [stP vs,.int vn],d<z.1:=by simp[c6]<;>lia
   show ue h9 (d+5) _;exact kp (kp (kp (kp G2 u2 (by simp) (by lia) z) q3 (by simp) (by lia) z) u3 (by simp) (by lia) z) c9 (by simp) (by lia) z
  ·have z:∀z∈c6 (d+6) (List.replicate 1 .aP),d<z.1:=by simp[c6]<;>lia
   show ue h9 (d+7) _;exact kp (kp G3 u3 (by simp) (by lia) z) c9 (by simp) (by lia) z
 ·intro e he;simp only[Hn,eO,fT,dS,aD,bu,bz]at he;rcases he with rfl | rfl | rfl<;>simp
end bG
set_option maxHeartbeats 4000000
namespace bG
open PySem L2 L2.U
def LN(V:Vs):Sp->PV
 | .a=>.int V.a
 | .b=>.int V.b
 | .i _=>stP V.s
 | .s=>stP V.s
 | .n=>.int V.n
def CH(V:Vs):Sp->List PV
 | .i .a=>[.lst [.int V.a]]
 | .i .b=>[.lst [.int V.b]]
 | _=>[]
def A8(V:Vs):Op->List PV
 | .num _=>[]
 | .sp s=>CH V s++[.lst [LN V s]]
noncomputable def ko(V:Vs):Ix->Nat
 | .at i=>i
 | .a=>(V.a%(V.s.length:Int)).toNat
 | .b=>(V.b%(V.s.length:Int)).toNat
def opV(V:Vs):Op->Int
 | .num i=>i
 | .sp .a=>V.a
 | .sp .b=>V.b
 | .sp (.i x)=>V.s.getD (ko V x) 0
 | .sp .s=>0
 | .sp .n=>V.n
def A9(V:Vs):Op->Prop
 | .sp (.i (.at i))=>i<V.s.length
 | .sp .s=>False
 | _=>True
theorem LO{h:List ah}{L:List PV}{v:PV}{ρ:List (Option PV)}(hl:L.length<=4000):fH (dY eS) (.ref h.length) [v] ⟨ρ,h++[⟨.lst,L⟩]⟩=some (.ok .aP,⟨ρ,h++[⟨.lst,L++[v]⟩]⟩):=by
 rw[wB dk hl,Ct]
theorem nS{V:Vs}{i:Nat}{h:List ah}(hi:i<V.s.length):aJ h (stP V.s) (.int (i:Int))=some (.int (V.s.getD i 0)):=atI_nat (by rw[bK,kH,eu hi];rfl)
theorem mE{V:Vs}{h:List ah}:fE h [stP V.s]=some (.int (V.s.length:Int)):=by
 show some (PV.int ((V.s.map PV.int).length:Int))=_;rw[aN]
theorem iW{x:Int}{n:Nat}{h:List ah}(hn:1<=n):cD h (.int x) (.int (n:Int))=some (.int (((x%(n:Int)).toNat:Nat):Int)):=by
 show(if decide (0<(n:Int))=true then some (PV.int (x%(n:Int)))else none)=_
 rw[if_pos (ez (by lia)),uJ (fV _ (by lia))]
theorem Iv{i n:Nat}{h:List ah}(hn:i<n):cD h (.int (i:Int)) (.int (n:Int))=some (.int (i:Int)):=by
 rw[iW (by lia)]
 rw[Int.emod_eq_of_lt (by lia) (by lia),kO]
theorem mod_lt{x:Int}{n:Nat}(hn:1<=n):(x%(n:Int)).toNat<n:=by
 have:=jm x (show(0:Int)<n by lia)
 have:=fV x (show(n:Int)≠0 by lia)
 lia
noncomputable def ctO:Op->dw
 | .num _=>.ct
 | _=>.nx
theorem LP(c:Nat){N:Nm}{V:Vs}{o:Op}{h:List ah}{L:List PV}{r p:PV}{k:Nat}{x4 x5 x6:Option PV}(hs:1<=V.s.length)(hL:L.length<=100)(hk:k<=100)(ho:A9 V o)
  (hp:∀(i:Nat) v,(A8 V o)[i]?=some v->aJ (h++[⟨.lst,L⟩]) p (.int ((k+i:Nat):Int))=some v) :
  ∃y4 y5 y6,aE (run aI c) ⟨[some r,some p,some (.ref h.length),some (.int (k:Int)),some (jN N o),x5,x6],h++[⟨.lst,L⟩]⟩=some (.ok (ctO o),⟨[some r,some p,some (.ref h.length),some (.int ((k+(A8 V o).length:Nat):Int)),y4,y5,y6],h++[⟨.lst,L++[.int (opV V o)]⟩]⟩):=by
 have a1:=λρ v=>LO (h:=h) (ρ:=ρ) (v:=v) (L:=L) (by lia)
 have d1:da (h++[⟨.lst,L⟩]) (.ref h.length)=some (.lst,L):=ai dk rfl;have ad:∀h (i:Nat),sE h (.int (i:Int)) (.int 1)=some (.int ((i+1:Nat):Int)):=λh i=>rfl
 cases o with
 | num i =>
  refine⟨some (jN N (.num i)),x5,x6,?_⟩;refine bH ?_
  delta aE fN
  simp only[↓gY,a1,d1,jN];rfl
 | sp s =>
  cases s with
  | a =>
   have p0:aJ (h++[⟨.lst,L⟩]) p (.int (k:Int))=some _:=hp 0 _ rfl;refine⟨some (g7 N .a),some .aP,some (.int V.a),?_⟩;refine bH ?_
   delta aE fN
   simp only[↓gY,a1,d1,p0,ad,kY];rfl
  | b =>
   have p0:aJ (h++[⟨.lst,L⟩]) p (.int (k:Int))=some _:=hp 0 _ rfl;refine⟨some (g7 N .b),some .aP,some (.int V.b),?_⟩;refine bH ?_
   delta aE fN
   simp only[↓gY,a1,d1,p0,ad,kY];rfl
  | n =>
   have p0:aJ (h++[⟨.lst,L⟩]) p (.int (k:Int))=some _:=hp 0 _ rfl;refine⟨some (g7 N .n),some .aP,some (.int V.n),?_⟩;refine bH ?_
   delta aE fN
   simp only[↓gY,a1,d1,p0,ad,kY];rfl
  | s=>exact absurd ho id
  | i x =>
   have e3:∀h,fE h [LN V (.i x)]=_:=λh=>mE (V:=V) (h:=h)
   cases x with
   | «at» i =>
    have p0:aJ (h++[⟨.lst,L⟩]) p (.int (k:Int))=some _:=hp 0 _ rfl;have e1:∀h,cD h (yS N (.at i)) (.int (V.s.length:Int))=_:=λh=>Iv ho
    have e2:∀h,aJ h (LN V (.i (.at i))) (.int (i:Int))=_:=λh=>nS (V:=V) ho
    refine⟨some (g7 N (.i (.at i))),some (.int (i:Int)),some (stP V.s),?_⟩;refine bH ?_
    delta aE fN
    simp only[↓gY,a1,d1,p0,ad,e1,e2,e3,kY];rfl
   | a =>
    have p0:aJ (h++[⟨.lst,L⟩]) p (.int (k:Int))=some _:=hp 0 _ rfl;have p1:=hp 1 _ rfl;have e1:∀h,cD h (.int V.a) (.int (V.s.length:Int))=_:=λh=>iW hs
    have e2:∀h,aJ h (LN V (.i .a)) (.int ((V.a%(V.s.length:Int)).toNat:Int))=_:=λh=>nS (V:=V) (mod_lt hs)
    refine⟨some (g7 N (.i .a)),some (.int V.a),some (stP V.s),?_⟩;refine bH ?_
    delta aE fN
    simp only[↓gY,a1,d1,p0,p1,ad,e1,e2,e3,kY];rfl
   | b =>
    have p0:aJ (h++[⟨.lst,L⟩]) p (.int (k:Int))=some _:=hp 0 _ rfl;have p1:=hp 1 _ rfl;have e1:∀h,cD h (.int V.b) (.int (V.s.length:Int))=_:=λh=>iW hs
    have e2:∀h,aJ h (LN V (.i .b)) (.int ((V.b%(V.s.length:Int)).toNat:Int))=_:=λh=>nS (V:=V) (mod_lt hs)
    refine⟨some (g7 N (.i .b)),some (.int V.b),some (stP V.s),?_⟩;refine bH ?_
    delta aE fN
    simp only[↓gY,a1,d1,p0,p1,ad,e1,e2,e3,kY];rfl
noncomputable def bT:Rw->List Op
 | .put _ o=>[o]
 | .fill o=>[o]
 | .set _ _ o p=>[o,p]
 | .jh o=>[o]
 | .ifs o p _=>[o,p]
 | _=>[]
theorem Ba(c:Nat){N:Nm}(r:Rw):run aI (c+2) "operands" [aT N r] []=some (.ok (.lst ((bT r).map (jN N))),[]):=by
 cases r<;>kernel_rfl
def gS(V:Vs):List Op->List PV
 | []=>[]
 | o::os=>A8 V o++gS V os
theorem CI(c:Nat){N:Nm}{V:Vs}{h:List ah}{r p:PV}(hs:1<=V.s.length)(G:List PV)(hp:∀(i:Nat) v L,G[i]?=some v->aJ (h++[⟨.lst,L⟩]) p (.int (i:Int))=some v):∀(os:List Op) (L:List PV) (k:Nat) (x4 x5 x6:Option PV),(∀o∈os,A9 V o)->L.length+os.length<=100->k+2*os.length<=100->(∃rest,G.drop k=gS V os++rest) ->
  ∃y3 y4 y5 y6,fg (cS 4) (aE (run aI c)) (os.map (jN N)) ⟨[some r,some p,some (.ref h.length),some (.int (k:Int)),x4,x5,x6],h++[⟨.lst,L⟩]⟩=some (.ok .nx,⟨[some r,some p,some (.ref h.length),y3,y4,y5,y6],h++[⟨.lst,L++os.map (λo=>.int (opV V o))⟩]⟩)
 | [],L,k,x4,x5,x6,_,_,_,_=>⟨_,x4,x5,x6,by simp;rfl⟩
 | o::os,L,k,x4,x5,x6,ho,hl,hk,⟨rest,hG⟩=>by
  simp only[cz]at hl hk;have fl:(A8 V o).length<=2:=by
   cases o with
   | num i=>simp[A8]
   | sp s =>
    cases s
    case i x=>cases x<;>simp[A8,CH]
    all_goals simp[A8,CH]
  obtain⟨z4,z5,z6,h1⟩:=LP c (N:=N) (r:=r) (p:=p) (k:=k) (x4:=x4) (x5:=x5) (x6:=x6) (h:=h) (L:=L) hs (by lia) (by lia) (ho o dy) (λi v hi=>hp (k+i) v L (by
   have:(G.drop k)[i]?=some v:=by
    rw[hG];show((A8 V o++gS V os)++rest)[i]?=some v;rw[jn,fw (de.mp hi).1];exact hi
   rwa [List.getElem?_drop]at this))
  obtain⟨y3,y4,y5,y6,h2⟩:=CI c (N:=N) (r:=r) (p:=p) hs G hp os (L++[.int (opV V o)]) (k+(A8 V o).length) z4 z5 z6 (λq hq=>ho q (cW _ hq)) (by rw[bR];simp only[cz,mX];lia) (by lia) ⟨rest,by
   rw[<-List.drop_drop,hG];show((A8 V o++gS V os)++rest).drop _=_;rw[jn,List.drop_left]⟩
  refine⟨y3,y4,y5,y6,?_⟩;rw[jn]at h2;show bnd (stp (cS 4 (jN N o))) (λ_=>bnd (aE (run aI c)) (qC (fg (cS 4) (aE (run aI c)) (os.map (jN N))))) _=_
  refine eB (show stp (cS 4 (jN N o)) _=some (.ok .nx,⟨[some r,some p,some (.ref h.length),some (.int (k:Int)),some (jN N o),x5,x6],h++[⟨.lst,L⟩]⟩)from rfl) (eB h1 ?_)
  have:qC (fg (cS 4) (aE (run aI c)) (os.map (jN N))) (ctO o)=fg (cS 4) (aE (run aI c)) (os.map (jN N)):=by cases o<;>rfl
  rw[this];exact h2
end bG
set_option maxHeartbeats 4000000
namespace bG
open PySem L2 L2.U
def iM(V:Vs)(r:Rw):List PV:=(bT r).map λo=>.int (opV V o)
structure pq (g:List ah) (p:PV) (G:List PV):Prop where
 WR:∀(i:Nat) v L,G[i]?=some v->aJ (g++L) p (.int (i:Int))=some v
theorem rJ(r:Rw):(bT r).length<=2:=by cases r<;>simp[bT]
theorem We(c:Nat){N:Nm}{V:Vs}{g:List ah}{p:PV}{G:List PV}{r:Rw}(hs:1<=V.s.length)(hp:pq g p G)(ho:∀o∈bT r,A9 V o)(hG:∃rest,G=gS V (bT r)++rest) :
  run aI (c+3) "numbers_found" [aT N r,p] g=some (.ok (.ref g.length),g++[⟨.lst,iM V r⟩]):=by
 have l:=rJ r;obtain⟨y3,y4,y5,y6,hl⟩:=CI (c+2) (N:=N) (r:=aT N r) (p:=p) (h:=g) hs G (λi v L=>hp.WR i v [⟨.lst,L⟩]) (bT r) [] 0 none none none ho (by simp;lia) (by lia) hG
 have e1:=Ba c (N:=N) r;have e2:aj [aT N r]=true:=by simp[aj,rn]
 rw[show(((0:Nat):Int))=0 from rfl,gy]at hl
 delta aE fN at hl
 rw[mz];simp only[↓bf,e1,e2,hl,gy,cb,bW];rfl
noncomputable def wC:Int:=1000000000000000000000000000000
def rkN:Sg->Int->Int->Int
 | .add,x,y=>(x+y)%wC
 | .sub,x,y=>(x-y)%wC
 | .mul,x,y=>x*y%wC
def oV(V:Vs):Rw->Int
 | .put _ o=>opV V o
 | .fill o=>opV V o
 | .set _ g o p=>rkN g (opV V o) (opV V p)
 | _=>0
def Bd(x:Int):Prop:=0<=x/\x<wC
theorem Iw{h:List ah}:O8 h (.int 10) (.int 30)=some (.int wC):=by kernel_rfl
theorem yC{h:List ah}{x:Int}:cD h (.int x) (.int wC)=some (.int (x%wC)):=by
 show(if decide (0<wC)=true then some (PV.int (x%wC))else none)=_
 rw[if_pos (by decide +kernel)]
theorem Iy{x:Int}(h:Bd x):x.natAbs<Jt:=by
 have h1:=h.1;have h2:=h.2;unfold wC at h2;unfold Jt
 lia
theorem Nq{h:List ah}{x y:Int}(hx:Bd x)(hy:Bd y):lA h (.int x) (.int y)=some (.int (x*y)):=if_pos (.inr ⟨Iy hx,Iy hy⟩)
theorem aai(c:Nat){N:Nm}{V:Vs}{g:List ah}{q:Nat}{G:List PV}{r:Rw}(hs:1<=V.s.length)(hp:pq g (.ref q) G)(ho:∀o∈bT r,A9 V o)(hb:∀o∈bT r,Bd (opV V o))(hG:∃rest,G=gS V (bT r)++rest)(hE:g.isEmpty=false)(hr:(∃s o,r=.put s o)\/(∃o,r=.fill o)\/∃s g o p,r=.set s g o p) :
  run aI (c+4) "number_put" [aT N r,.ref q] g=some (.ok (.int (oV V r)),g++[⟨.lst,iM V r⟩]):=by
 have e1:=We c (N:=N) hs hp ho hG;have e2:aj [aT N r,.ref q]=false:=by simp[aj,noRef]
 have e3:=rE (h:=g++[⟨.lst,iM V r⟩]) N r;have e4:=λh=>Iw (h:=h)
 have e5:=λh x=>yC (h:=h) (x:=x)
 have i0:∀v,(iM V r)[0]?=some v->aJ (g++[⟨.lst,iM V r⟩]) (.ref g.length) (.int 0)=some v:=λv hv=>by
  have d:=ai (h:=g++[⟨.lst,iM V r⟩]) dk rfl;simp only[aJ,d];exact atI_nat (j:=0) hv
 have i1:∀v,(iM V r)[1]?=some v->aJ (g++[⟨.lst,iM V r⟩]) (.ref g.length) (.int 1)=some v:=λv hv=>by
  have d:=ai (h:=g++[⟨.lst,iM V r⟩]) dk rfl;simp only[aJ,d];exact atI_nat (j:=1) hv
 rw[qZ];rcases hr with⟨s,o,rfl⟩ | ⟨o,rfl⟩ | ⟨s,w,o,p,rfl⟩
 ·have j0:=i0 _ rfl;simp only[↓bf,e1,e2,e3,j0,hE,aA,az];rfl
 ·have j0:=i0 _ rfl;simp only[↓bf,e1,e2,e3,j0,hE,aA,az];rfl
 ·have j0:=i0 _ rfl;have j1:=i1 _ rfl;have b0:=hb o (by simp[bT])
  have b1:=hb p (by simp[bT])
  have e6:=λh=>Nq (h:=h) b0 b1
  have e7:∀h,aJ h (aT N (.set s w o p)) (.int 2)=some (.str (QM w)):=λh=>rfl
  cases w<;>(simp only[↓bf,e1,e2,e3,e4,e5,e6,e7,QM,j0,j1,hE,aA,az];rfl)
end bG
set_option maxHeartbeats 4000000
namespace bG
open PySem L2 L2.U
noncomputable def Iz:Rw->Option Sp
 | .put s _=>some s
 | .fill _=>some .s
 | .set s _ _ _=>some s
 | _=>none
def Sv(N:Nm)(V:Vs)(x:Int):Sp->PV
 | .i i=>stP (V.s.set (ko V i) x)
 | .s=>stP (List.replicate N.z x)
 | _=>.int x
theorem LQ(c:Nat){N:Nm}(K:aS N)(F:Fd):run aI (c+7) "strip_of" [fdP N F,g7 N .s] []=some (.ok (.ak [.str "strip",.int (N.z:Int)]),[]):=by
 rw[wc];have e3:=jO (c+5) K F .c;have e4:=wx (c+4) N .c;have e5:∀h,aJ h (g7 N .s) (.int 0)=some (.str (N.n .c)):=λh=>rfl
 simp only[↓bf,e3,e4,e5]
theorem wD{h:List ah}{x:Int}{z:Nat}(z8:z<=8):lA h (.ak [.int x]) (.int (z:Int))=some (stP (List.replicate z x)):=by
 show(if(0<=(z:Int)/\(z:Int)<=1000/\1<=[PV.int x].length/\[PV.int x].length<=100)then some (PV.ak (List.replicate (z:Int).toNat [PV.int x]).flatten)else none)=_
 rw[if_pos ⟨by lia,by lia,by simp,by simp⟩,kO]
 unfold stP
 congr 2
 clear z8;induction z with
 | zero=>rfl
 | succ n ih=>rw[gu,kP,ih];simp[gu]
theorem IA(s:List Int)(q:Nat)(hq:q<=s.length):iF (s.map .int) none (some (q:Int))=(s.take q).map .int:=by
 unfold iF;rw[HT.qo,HT.lO,aN,pO hq,uY];simp
theorem IB(s:List Int)(q:Nat)(hq:q<=s.length):iF (s.map .int) (some (q:Int)) none=(s.drop q).map .int:=by
 unfold iF;rw[HT.qo,HT.lO,aN,pO hq,List.map_drop];rw[uF (by simp)]
theorem wF{h:List ah}{s:List Int}{q:Nat}{x:Int}(hq:q<s.length)(h8:s.length<=8) :
  (cZ h (.ak ((s.take q).map .int)) (.ak [.int x]))=some (.ak ((s.take q++[x]).map .int))/\cZ h (.ak ((s.take q++[x]).map .int)) (.ak ((s.drop (q+1)).map .int))=some (stP (s.set q x)):=by
 constructor
 ·show L2.U.sizeOk (((s.take q).map PV.int).length+1) (.ak ((s.take q).map PV.int++[.int x]))=_;unfold L2.U.sizeOk;rw[if_pos (aX (show _<=100 by simp;lia) (by decide))]
  simp
 ·show L2.U.sizeOk (((s.take q++[x]).map PV.int).length+((s.drop (q+1)).map PV.int).length) (.ak ((s.take q++[x]).map PV.int++(s.drop (q+1)).map PV.int))=_;unfold L2.U.sizeOk;rw[if_pos (aX (show _<=100 by simp;lia) (by decide))]
  unfold stP;rw[<-fW,List.set_eq_take_append_cons_drop,if_pos hq,jn];rfl
def Bb(V:Vs):Sp->Prop
 | .i (.at i)=>i<V.s.length
 | .s=>False
 | _=>True
theorem lenZ{V:Vs}{z:Nat}(hz:V.s.length=z){h:List ah}:fE h [stP V.s]=some (.int (z:Int)):=by rw[mE,hz]
theorem Ej(c:Nat){N:Nm}(K:aS N)(F:Fd){V:Vs}{g:List ah}{q:Nat}{r:Rw}{s:Sp}{u:PV}(hu:∀x,s=.i x->u=stP V.s)(hz:V.s.length=N.z)(hp:pq g (.ref q) (gS V (bT r)++CH V s))(ho:∀o∈bT r,A9 V o)(hb:∀o∈bT r,Bd (opV V o))(hE:g.isEmpty=false)
  (hr:((∃o,r=.put s o)/\Bb V s)\/((∃o,r=.fill o)/\s=.s)\/((∃w o p,r=.set s w o p)/\Bb V s))
  (hl:∀v,(CH V s).getLast?=some v->∀L,aJ (g++L) (.ref q) (.int (-1))=some v) :
  run aI (c+8) "written" [fdP N F,aT N r,.ref q,.lst [u]] g=some (.ok (.lst [Sv N V (oV V r) s]),g++[⟨.lst,iM V r⟩]):=by
 have hs:1<=V.s.length:=by rw[hz];exact K.z1
 have h8:V.s.length<=8:=by rw[hz];exact K.z8
 have e1:=aai (c+3) (N:=N) hs hp ho hb ⟨_,rfl⟩ hE (by
  rcases hr with⟨⟨o,h⟩,_⟩ | ⟨⟨o,h⟩,_⟩ | ⟨⟨w,o,p,h⟩,_⟩
  ·exact .inl ⟨s,o,h⟩
  ·exact .inr (.inl ⟨o,h⟩)
  ·exact .inr (.inr ⟨s,w,o,p,h⟩))
 have e2:aj [aT N r,.ref q]=false:=by simp[aj,noRef]
 have e3:=λh=>rE (h:=h) N r
 have e4:uh r="put"\/uh r="set"\/(uh r="fill"/\s=.s):=by
  rcases hr with⟨⟨o,h⟩,_⟩ | ⟨⟨o,h⟩,h2⟩ | ⟨⟨w,o,p,h⟩,_⟩
  ·rw[h];exact .inl rfl
  ·rw[h];exact .inr (.inr ⟨rfl,h2⟩)
  ·rw[h];exact .inr (.inl rfl)
 have e5:∀h,aJ h (aT N r) (.int 1)=some (g7 N s):=λh=>by
  rcases hr with⟨⟨o,z⟩,_⟩ | ⟨⟨o,z⟩,z2⟩ | ⟨⟨w,o,p,z⟩,_⟩
  ·rw[z];rfl
  ·rw[z,z2];rfl
  ·rw[z];rfl
 generalize oV V r=num at e1 ⊢
 generalize iM V r=nms at e1 ⊢
 generalize hg:g++[⟨.lst,nms⟩]=g' at e1 ⊢
 have hE':g'.isEmpty=false:=by rw[<-hg];cases g<;>rfl
 rw[ym];by_cases hw:uh r="fill"
 ·have hss:s=.s:=by
   rcases e4 with h | h | h
   ·rw[h]at hw;exact absurd hw (by decide)
   ·rw[h]at hw;exact absurd hw (by decide)
   ·exact h.2
  subst hss;rw[hw]at e3;have e6:=LQ c K F;have e7:=λh=>wD (h:=h) (x:=num) K.z8
  have nr:aj [fdP N F,g7 N .s]=true:=by simp[aj,om,Ib]
  simp only[↓bf,e1,e2,e3,e5,e6,e7,hE,hE',nr,aA,az,cb,bW];rfl
 ·have hA:Bb V s:=by
   rcases hr with⟨_,h⟩ | ⟨⟨o,h⟩,_⟩ | ⟨_,h⟩
   ·exact h
   ·rw[h]at hw;exact absurd rfl hw
   ·exact h
  have IC:uh r="put"\/uh r="set":=by
   rcases e4 with h | h | h
   ·exact .inl h
   ·exact .inr h
   ·exact absurd h.1 hw
  have e6:∀h,aJ h (g7 N s) (.int 3)=some (match s with | .i x=>yS N x | _=>.aP):=λh=>by
   cases s
   case i x=>cases x<;>rfl
   all_goals rfl
  cases s with
  | s=>exact absurd hA id
  | a=>rcases IC with h | h<;>(rw[h]at e3;simp only[↓bf,e1,e2,e3,e5,e6,hE,aA,az];rfl)
  | b=>rcases IC with h | h<;>(rw[h]at e3;simp only[↓bf,e1,e2,e3,e5,e6,hE,aA,az];rfl)
  | n=>rcases IC with h | h<;>(rw[h]at e3;simp only[↓bf,e1,e2,e3,e5,e6,hE,aA,az];rfl)
  | i x =>
   have e8:∀h,aJ h (.lst [u]) (.int 0)=some (stP V.s):=λh=>by rw[hu x rfl];rfl
   have e9:=λh=>mE (V:=V) (h:=h)
   have hI:ko V x<V.s.length:=by
    cases x with
    | «at» i=>exact hA
    | a=>exact mod_lt hs
    | b=>exact mod_lt hs
   have c1:∀h,yP h none (some (ko V x:Int)) (stP V.s)=some (.ak ((V.s.take (ko V x)).map .int)):=λh=>by
    show some (PV.ak (iF (V.s.map .int) none (some (ko V x:Int))))=_;rw[IA _ _ (by lia)]
   have c2:∀h,yP h (some (((ko V x+1:Nat):Int))) none (stP V.s)=some (.ak ((V.s.drop (ko V x+1)).map .int)):=λh=>by
    show some (PV.ak (iF (V.s.map .int) (some ((ko V x+1:Nat):Int)) none))=_;rw[IB _ _ (by lia)]
   have c3:=λh=>(wF (h:=h) (x:=num) hI h8).1
   have c4:=λh=>(wF (h:=h) (x:=num) hI h8).2
   have ad:∀h,cZ h (.int (ko V x:Int)) (.int 1)=some (.int ((ko V x+1:Nat):Int)):=λh=>rfl
   cases x with
   | «at» i =>
    have m1:∀h,cD h (yS N (.at i)) (.int (V.s.length:Int))=some (.int ((ko V (.at i):Nat):Int)):=λh=>Iv hA
    rcases IC with h | h<;>(rw[h]at e3;simp only[↓bf,e1,e2,e3,e5,e6,e8,e9,c1,c2,c3,c4,ad,m1,hE,aA,az];rfl)
   | a =>
    have m1:∀h,cD h (.int V.a) (.int (V.s.length:Int))=some (.int ((ko V .a:Nat):Int)):=λh=>iW hs
    have l1:aJ g' (.ref q) (.int (-1))=some (.lst [.int V.a]):=by rw[<-hg];exact hl _ rfl _
    rcases IC with h | h<;>(rw[h]at e3;simp only[↓bf,e1,e2,e3,e5,e6,e8,e9,c1,c2,c3,c4,ad,m1,l1,hE,aA,az];rfl)
   | b =>
    have m1:∀h,cD h (.int V.b) (.int (V.s.length:Int))=some (.int ((ko V .b:Nat):Int)):=λh=>iW hs
    have l1:aJ g' (.ref q) (.int (-1))=some (.lst [.int V.b]):=by rw[<-hg];exact hl _ rfl _
    rcases IC with h | h<;>(rw[h]at e3;simp only[↓bf,e1,e2,e3,e5,e6,e8,e9,c1,c2,c3,c4,ad,m1,l1,hE,aA,az];rfl)
end bG
set_option maxHeartbeats 4000000
namespace bG
open PySem L2 L2.U
noncomputable def newV(P:Pl)(W:List PV)(x:Nat×PV):PV:=match P,W with
 | y::P,w::W=>newV P W (x.1,if y.1=x.1 then w else x.2)
 | _,_=>x.2
def Q5(H:List (Str×Nat×Pl))(P:Pl)(W:List PV):List (Str×Nat×Pl):=H.map λe=>(e.1,e.2.1,e.2.2.map λx=>(x.1,newV P W x))
theorem LR(H:List (Str×Nat×Pl))(P:Pl)(W:List PV):A6 (Q5 H P W)=A6 H:=by
 unfold A6 Q5;simp only[kX,zq]
theorem CJ{x0 x1 x2 x3:Option PV}:∀(P:Pl) (W:List PV) (h:List ah) (x4 x5:Option PV),(∀x∈P,∃m t v,h[x.1]?=some (nN m t v))->P.length=W.length ->
  ∃h' y4 y5,fg Q0 (Ld eI eJ "value" (rd 5) (rd 4)) (List.zipWith fL (P.map λx=>.ref x.1) W) ⟨[x0,x1,x2,x3,x4,x5],h⟩=some (.ok .nx,⟨[x0,x1,x2,x3,y4,y5],h'⟩)/\Ch h h' (P.map (·.1))/\∀n m t v,h[n]?=some (nN m t v)->h'[n]?=some (nN m t (newV P W (n,v)))
 | [],[],h,x4,x5,_,_=>⟨h,x4,x5,rfl,Ch.refl _ _,λn m t v e=>by unfold newV;exact e⟩
 | [],_::_,h,x4,x5,_,e=>by cases e
 | _::_,[],h,x4,x5,_,e=>by cases e
 | x::P,w::W,h,x4,x5,hp,e=>by
  obtain⟨m,t,v,e1⟩:=hp x (by simp)
  have st:∀n m' t' v',h[n]?=some (nN m' t' v')->(h.set x.1 (nN m t w))[n]?=some (nN m' t' (if x.1=n then w else v')):=λn m' t' v' e2=>by
   by_cases hx:x.1=n
   ·subst hx;rw[e1]at e2;cases e2;rw[if_pos rfl];exact bI e1
   ·rw[if_neg hx,aL hx];exact e2
  obtain⟨h',y4,y5,ih,c1,k1⟩:=CJ (x0:=x0) (x1:=x1) (x2:=x2) (x3:=x3) P W (h.set x.1 (nN m t w)) (some (.ref x.1)) (some w) (λz hz=>by
   obtain⟨m',t',u,e2⟩:=hp z (by simp[hz])
   exact⟨m',t',_,st _ _ _ _ e2⟩) (by simpa using e)
  refine⟨h',y4,y5,?_,?_,λn m' t' v' e2=>?_⟩
  ·have e2:=λρ=>LH (w:=w) (ρ:=ρ) e1
   refine bH ?_;simp only[aO,List.zipWith_cons_cons,fL];simp only[↓gY,e2,ih]
  ·refine Ch.tr ((Ch.set (nN m t w)).mono (B:=(x::P).map (·.1)) (by simp)) c1 ?_
   intro n hn _;simp only[aO,aD];exact .inr hn
  ·exact k1 _ _ _ _ (st n m' t' v' e2)
theorem wG(c:Nat){h:List ah}{fi d k:Nat}{j r:Int}{H:List (Str×Nat×Pl)}{a:Ac}{W:List PV}(R:oT h fi d j r H)(ft:rj H a)(hW:W.length=(bQ H a).length) :
  ∃h',run aI (c+2) "Boxes.store" [.ref 0,.ref fi,c8 k a,.lst W] h=some (.ok .aP,h')/\Ch h h' ((bQ H a).map (·.1))/\oT h' fi d j r (Q5 H (bQ H a) W):=by
 have e1:=VW c R ft (k:=k);have hE:=fZ R.f;obtain⟨g,Q,t,i1,i2,i3⟩:=wu R ft;have hz:Hl (.lst (nO (bQ H a))) (.lst W)=some (List.zipWith fL ((bQ H a).map λx=>.ref x.1) W):=rfl
 obtain⟨h',y4,y5,hl,c1,k1⟩:=CJ (x0:=some (.ref 0)) (x1:=some (.ref fi)) (x2:=some (c8 k a)) (x3:=some (.lst W)) (bQ H a) W h none none (λx hx=>by obtain⟨m,hm⟩:=i3 x hx;exact⟨m,t,_,hm⟩) hW.symm
 have no:∀{n:Nat} {cc:ah},h[n]?=some cc->(∀m t v,cc≠nN m t v)->n∉(bQ H a).map (·.1):=λ{n cc} e hc hm=>by
  obtain⟨x,hx,hxn⟩:=dR.mp hm;have hxn:x.1=n:=hxn;obtain⟨m,hm⟩:=i3 x hx;rw[hxn,e]at hm;exact hc m t x.2 (bE hm)
 refine⟨h',?_,c1,⟨c1.get R.f (no R.f λm t v z=>by cases z),?_,λe he=>?_,λe he=>?_⟩⟩
 ·rw[oO];simp only[↓bf,e1,hE,km,hz,hl,aA,az]
 ·rw[LR];exact c1.get R.d (no R.d λm t v z=>by unfold A6 at z;cases z)
 ·obtain⟨e0,he0,rfl⟩:=dR.mp he;obtain⟨t',a1,a2⟩:=R.p e0 he0;refine⟨t',?_,λx hx=>?_⟩
  ·have:=c1.get a1 (no a1 λm t v z=>by cases z)
   rw[this];simp only[nO,kX,zq]
  ·obtain⟨x0,hx0,rfl⟩:=dR.mp hx;obtain⟨m,hm⟩:=a2 x0 hx0;exact⟨m,k1 _ _ _ _ hm⟩
 ·obtain⟨e0,he0,rfl⟩:=dR.mp he;rw[aN];exact R.l e0 he0
end bG
set_option maxHeartbeats 4000000
namespace bG
open PySem L2 L2.U
structure Fr where
 j:Nat
 r:Nat
 v:Vs
abbrev jQ(h:List ah)(N:Nm)(w:Bool)(n j r:Nat)(A:Ra):Prop:=oT h (n+8) n (j:Int) (r:Int) (Hn N w n A)
abbrev Q6(h:List ah)(N:Nm)(w:Bool)(n:Nat)(F:Fr):Prop:=jQ h N w n F.j F.r (raw F.v)
noncomputable def EG(w:Bool)(n:Nat)(A:Ra):N3->Pl
 | .a=>[(n+1,A.a)]
 | .b=>if w=true then [(n+6,A.b)]else [(n+3,A.b)]
 | .c=>if w=true then [(n+3,A.s),(n+4,A.n)]else [(n+5,A.s),(n+6,A.n)]
noncomputable def Nr(w:Bool)(n:Nat):N3->Nat
 | .a=>n+2
 | .b=>if w=true then n+7 else n+4
 | .c=>if w=true then n+5 else n+7
def El(w:Bool)(n:Nat)(V:Vs)(x:N3):Pl:=EG w n (raw V) x
noncomputable def CK(w:Bool)(n:Nat):Sp->Nat
 | .a=>n+1
 | .b=>if w=true then n+6 else n+3
 | .n=>if w=true then n+4 else n+6
 | _=>if w=true then n+3 else n+5
noncomputable def CL(A:Ra):Sp->PV
 | .a=>A.a
 | .b=>A.b
 | .n=>A.n
 | _=>A.s
theorem Sw{N:Nm}(K:aS N)(w:Bool)(n:Nat)(A:Ra)(x:N3):(Hn N w n A).lookup (N.n x)=some (Nr w n x,EG w n A x):=by
 have Z5:=bO.mpr K.ab.symm;have Z6:=bO.mpr K.ac.symm;have Z7:=bO.mpr K.bc.symm;have Z4:=bO.mpr K.bc;cases w<;>cases x<;>simp[Hn,Nm.n,EG,Nr,eN,Z5,Z6,Z7,Z4]
def mF(V:Vs):N3->List PV
 | .a=>[.int V.a]
 | .b=>[.int V.b]
 | .c=>[stP V.s,.int V.n]
theorem Em{N:Nm}(K:aS N)(w:Bool)(n:Nat)(A:Ra)(x:N3)(wd t:Str):bQ (Hn N w n A) ⟨wd,N.n x,false,0,kE x,t⟩=EG w n A x:=by
 rw[rk (Sw K w n A x)];cases w<;>cases x<;>rfl
theorem gT{N:Nm}(K:aS N)(w:Bool)(n:Nat)(V:Vs)(x:N3)(wd t:Str):bQ (Hn N w n (raw V)) ⟨wd,N.n x,false,0,kE x,t⟩=El w n V x:=Em K w n (raw V) x wd t
theorem wH(w:Bool)(n:Nat)(V:Vs)(x:N3):jM (El w n V x)=.lst (mF V x):=by cases w<;>cases x<;>rfl
theorem yD{N:Nm}(K:aS N)(w:Bool)(n:Nat)(A:Ra)(s:Sp)(wd t:Str):bQ (Hn N w n A) ⟨wd,N.n s.x,false,s.f,1,t⟩=[(CK w n s,CL A s)]:=by
 rw[rk (Sw K w n A s.x)];cases w<;>cases s<;>rfl
theorem LU(V:Vs)(s:Sp):CL (raw V) s=LN V s:=by cases s<;>rfl
theorem LV{N:Nm}(K:aS N)(w:Bool)(n:Nat)(V:Vs)(s:Sp)(wd t:Str):bQ (Hn N w n (raw V)) ⟨wd,N.n s.x,false,s.f,1,t⟩=[(CK w n s,LN V s)]:=by rw[yD K,LU]
theorem yE{N:Nm}(K:aS N)(w:Bool)(n:Nat)(A:Ra)(x:N3)(wd t:Str):rj (Hn N w n A) ⟨wd,N.n x,false,0,kE x,t⟩:=⟨_,Sw K w n A x,by cases w<;>cases x<;>simp[EG,kE]⟩
theorem rK{N:Nm}(K:aS N)(w:Bool)(n:Nat)(A:Ra)(s:Sp)(wd t:Str):rj (Hn N w n A) ⟨wd,N.n s.x,false,s.f,1,t⟩:=⟨_,Sw K w n A s.x,by cases w<;>cases s<;>simp[EG,Sp.x,Sp.f]⟩
theorem gU{N:Nm}(K:aS N)(w:Bool)(n:Nat)(V:Vs)(x:N3)(wd t:Str):rj (Hn N w n (raw V)) ⟨wd,N.n x,false,0,kE x,t⟩:=yE K w n _ x wd t
theorem En{N:Nm}(K:aS N)(w:Bool)(n:Nat)(V:Vs)(s:Sp)(wd t:Str):rj (Hn N w n (raw V)) ⟨wd,N.n s.x,false,s.f,1,t⟩:=rK K w n _ s wd t
def jR(N:Nm)(V:Vs)(x:Int):Sp->Vs
 | .a=>{V with a:=x}
 | .b=>{V with b:=x}
 | .n=>{V with n:=x}
 | .s=>{V with s:=List.replicate N.z x}
 | .i i=>{V with s:=V.s.set (ko V i) x}
noncomputable def um(A:Ra)(v:PV):Sp->Ra
 | .a=>{A with a:=v}
 | .b=>{A with b:=v}
 | .n=>{A with n:=v}
 | _=>{A with s:=v}
theorem ID(N:Nm)(w:Bool)(n:Nat)(A:Ra)(s:Sp)(v u:PV):Q5 (Hn N w n A) [(CK w n s,u)] [v]=Hn N w n (um A v s):=by
 cases w<;>cases s<;>simp[Q5,Hn,newV,CK,um]<;>lia
theorem jS{N:Nm}(K:aS N)(w:Bool)(n:Nat)(V:Vs)(a:Ac):∀y∈bQ (Hn N w n (raw V)) a,lZ y.2=false:=by
 intro y hy;unfold bQ at hy;have hy:=List.mem_of_mem_drop (List.mem_of_mem_take hy);cases hl:(Hn N w n (raw V)).lookup a.x with
 | none=>rw[hl]at hy;cases hy
 | some P =>
  rw[hl]at hy;have hm:=wt hl;have hy:y∈P.2:=hy;unfold Hn at hm;cases w<;>simp at hm<;>rcases hm with⟨_,rfl⟩ | ⟨_,rfl⟩ | ⟨_,rfl⟩<;>simp at hy<;>(first | (rcases hy with rfl | rfl<;>rfl) | (subst hy;rfl))
end bG
set_option maxHeartbeats 4000000
namespace bG
open PySem L2 L2.U
theorem CM(c:Nat)(k:Nat)(a:Ac)(h:a.w="read"\/a.w="fill"\/a.w="turn"):run aI (c+1) "is_lending" [c8 k a] []=some (.ok (.bl false),[]):=by
 obtain⟨w,x,t,f,m,tk⟩:=a;have h:w="read"\/w="fill"\/w="turn":=h;rcases h with rfl | rfl | rfl<;>kernel_rfl
theorem Wd.l1{h:List ah}{k:Nat}(w:Wd h k):∃es,h[1]?=some ⟨.lst,es⟩:=by
 obtain⟨nb,nt,es,_,h1,_⟩:=w;exact⟨es,h1⟩
theorem Wd.mt{h:List ah}{k:Nat}(w:Wd h k)(L:List (Str×(Str×Nat)))(m:Str)(hm:(["entries","boxes_made","tags_made"]:List Str).contains m=false):AJ L m (.ref 0) h=L.lookup ("Boxes":Str):=by
 obtain⟨nb,nt,es,a0,_,_⟩:=w;exact iV a0 hm
theorem oT.ch{h h':List ah}{A:List Nat}{fi d:Nat}{j r:Int}{H:List (Str×Nat×Pl)}(F:oT h fi d j r H)(c:Ch h h' A)(hf:fi∉A)(hd:d∉A)(hp:∀e∈H,e.2.1∉A/\∀x∈e.2.2,x.1∉A):oT h' fi d j r H :=
 ⟨c.get F.f hf,c.get F.d hd,λe he=>(F.p e he).ch c (hp e he).1 (hp e he).2,F.l⟩
theorem oT.Nt{h h':List ah}{fi d:Nat}{j r:Int}{H:List (Str×Nat×Pl)}(F:oT h fi d j r H)(w:∃es,h[1]?=some ⟨.lst,es⟩)(c:Ch h h' [1]):oT h' fi d j r H:=by
 obtain⟨es,h1⟩:=w;have no:∀{i:Nat} {cc:ah},h[i]?=some cc->(∀l,cc≠⟨.lst,l⟩)->i∉[1]:=λe n=>by
  rw[aW];exact ib e h1 (n _)
 refine F.ch c (no F.f λl z=>by cases z) (no F.d λl z=>by unfold A6 at z;cases z) λe he=>?_
 obtain⟨t,a1,a2⟩:=F.p e he;refine⟨no a1 (λl z=>by cases z),λx hx=>?_⟩
 obtain⟨m,hm⟩:=a2 x hx;exact no hm λl z=>by cases z
theorem oT.app{h:List ah}(g:List ah){fi d:Nat}{j r:Int}{H:List (Str×Nat×Pl)}(F:oT h fi d j r H):oT (h++g) fi d j r H:=F.ch (Ch.app h g []) (by simp) (by simp) λe he=>⟨by simp,λx hx=>by simp⟩
def Q7(H:List (Str×Nat×Pl))(a:Ac):Prop:=rj H a/\a.w="read"/\a.m<=2/\∀x∈bQ H a,lZ x.2=false
theorem Q8(c:Nat){N:Nm}{P:List Fd}{fs:List PV}{cnt:Int}{aU:List Int}{h:List ah}{fi d k q n:Nat}{j r:Int}{H:List (Str×Nat×Pl)}{a:Ac}{row:PV}
  (hR:cG h 2 N P 0 3 4 5 fs cnt aU) (hF:oT h fi d j r H) (ha:Q7 H a) (W:Wd h (n+2)) :
  ∃h',run aI (c+7) "do_act" [.ref 2,.ref fi,row,c8 k a,.ref q] h=some (.ok (jM (bQ H a)),h')/\Ch h h' [1]/\Wd h' n:=by
 obtain⟨ft,hw,hm,hv⟩:=ha;obtain⟨h',e2,c2,w2⟩:=pd c (k:=k) hF ft (.inl hw) hm (λ_=>hv) W
 have e1:=CM (c+5) k a (.inl hw);have e3:=ai hR.r rfl;have e4:=λL=>W.mt L "touch" (by kernel_rfl)
 have e5:∀h,aJ h (c8 k a) (.int 1)=some (.str "read"):=λh=>by rw[yp,hw]
 have hE:=fZ hF.f;have hE':=fZ (hF.Nt W.l1 c2).f;have nr:aj [c8 k a]=true:=by simp[aj,yq]
 refine⟨h',?_,c2,w2⟩;rw[qY];simp only[↓bf,e1,e2,e3,e4,e5,hE,hE',nr,yq,aA,az,cb,bW]
theorem lE(c:Nat){N:Nm}{P:List Fd}{fs:List PV}{cnt:Int}{aU:List Int}{h:List ah}{fi d k:Nat}{j r:Int}{H:List (Str×Nat×Pl)}{row so:PV}
  (hR:cG h 2 N P 0 3 4 5 fs cnt aU) (hF:oT h fi d j r H) (hW:∃es,h[1]?=some ⟨.lst,es⟩):∀(A:List Ac) (L:List PV) (g:List ah) (x5:Option PV) (n:Nat),Ch h g [1]->g[h.length]?=some ⟨.lst,L⟩->Wd g (n+2*A.length)->(∀a∈A,Q7 H a)->L.length+A.length<=1000 ->
  ∃g' y5,(∀rest,fg (cS 5) (cN (run aI (c+7))) (A.map (c8 k)++rest) ⟨[some (.ref 2),some (.ref fi),some row,some so,some (.ref h.length),x5],g⟩=fg (cS 5) (cN (run aI (c+7))) rest ⟨[some (.ref 2),some (.ref fi),some row,some so,some (.ref h.length),y5],g'⟩)/\Ch h g' [1]/\g'[h.length]?=some ⟨.lst,L++A.map λa=>jM (bQ H a)⟩/\Wd g' n
 | [],L,g,x5,n,hc,hg,W,_,_=>⟨g,x5,λrest=>by simp,hc,by simpa using hg,W⟩
 | a::A,L,g,x5,n,hc,hg,W,ha,hl=>by
  simp only[cz]at hl W;have h5:5<h.length:=eV hR.sd;have gR:=hR.ch hc (by simp)
  have gF:=hF.Nt hW hc;obtain⟨g1,e1,c1,w1⟩:=Q8 c (k:=k) (q:=h.length) (row:=row) gR gF (ha a dy) (n:=n+2*A.length) (W.mono (by lia))
  have q1:=c1.get hg (by simp;lia)
  have a1:=λρ v=>iU (ρ:=ρ) (v:=v) q1 (by lia)
  have d1:=ai q1 rfl;have d0:=ai hg rfl;have hE:=fZ hg;have nP:=fZ q1;have nr:∀l,aj (.ref 2::l)=false:=km 2
  obtain⟨g2,Jp⟩:∃g2,g2=g1.set h.length ⟨.lst,L++[jM (bQ H a)]⟩:=⟨_,rfl⟩
  have b1:cN (run aI (c+7)) ⟨[some (.ref 2),some (.ref fi),some row,some so,some (.ref h.length),some (c8 k a)],g⟩=some (.ok .nx,⟨[some (.ref 2),some (.ref fi),some row,some so,some (.ref h.length),some (c8 k a)],g2⟩):=by
   rw[Jp];refine bH ?_
   delta cN fN
   simp only[↓gY,e1,a1,d1,d0,hE,nP,nr,aA,az]
  have u2:Ch g1 g2 [h.length]:=by rw[Jp];exact Ch.set _
  have c2:Ch h g2 [1]:=(hc.tr c1 (λ_ h _=>h)).tr u2 (λm hm hl=>by rw[aW]at hm;lia)
  obtain⟨g',y5,ih,i1,i2,i3⟩:=lE c (k:=k) (row:=row) (so:=so) hR hF hW A (L++[jM (bQ H a)]) g2 (some (c8 k a)) n c2 (by rw[Jp];exact bI q1) (w1.ch u2 (by simp;lia)) (λb hb=>ha b (cW _ hb)) (by rw[bR];simp only[cz,mX];lia)
  refine⟨g',y5,λrest=>?_,i1,by rw[i2];simp,i3⟩
  rw[aO,List.cons_append,<-ih rest];exact fC (s1:=⟨[some (.ref 2),some (.ref fi),some row,some so,some (.ref h.length),some (c8 k a)],_⟩) rfl b1 rfl
theorem CN(c:Nat){N:Nm}{P:List Fd}{fs:List PV}{cnt:Int}{aU:List Int}{h:List ah}{fi d k n:Nat}{j r:Int}{H:List (Str×Nat×Pl)}{row:PV}
  (hR:cG h 2 N P 0 3 4 5 fs cnt aU) (hF:oT h fi d j r H) (A:List Ac) (ha:∀a∈A,Q7 H a) (hl:A.length<=100) (W:Wd h (n+2*A.length)) :
  ∃h',run aI (c+8) "do_acts" [.ref 2,.ref fi,row,.lst (A.map (c8 k))] h=some (.ok (.lst (A.map λa=>jM (bQ H a))),h')/\Ch h h' [1]/\Wd h' n:=by
 have h5:5<h.length:=eV hR.sd;obtain⟨g,y5,e1,c1,q1,w1⟩:=lE c (k:=k) (row:=row) (so:=.lst (A.map (c8 k))) hR hF W.l1 A [] (h++[⟨.lst,[]⟩]) none n (Ch.app _ _ _) dk (W.ch (Ch.app h _ []) (by simp)) ha (by simp;lia)
 have e1:=e1 [];rw[dz]at e1;rw[gy]at q1;have e1:fg (cS 5) (cN (run aI (c+7))) (A.map (c8 k)) ⟨[some (.ref 2),some (.ref fi),some row,some (.lst (A.map (c8 k))),some (.ref h.length),none],h++[⟨.lst,[]⟩]⟩=some (.ok .nx,⟨[some (.ref 2),some (.ref fi),some row,some (.lst (A.map (c8 k))),some (.ref h.length),y5],g⟩):=e1;have e3:=dO q1 rfl
 revert e1
 delta cN fN
 intro e1;refine⟨g.set h.length Ay,?_,c1.tr (Ch.set _) (λm hm hl=>by rw[aW]at hm;lia),w1.ch (Ch.set _) (by simp;lia)⟩
 rw[oh];simp only[↓bf,e1,e3]
end bG
set_option maxHeartbeats 4000000
namespace bG
open PySem L2 L2.U
def yU(N:Nm):Sp->Ac
 | .i x=>QO N "turn" (.i x)
 | s=>QO N "fill" s
theorem Q9(N:Nm)(s:Sp):∃wd,(wd="fill"\/wd="turn")/\yU N s=⟨wd,N.n s.x,false,s.f,1,""⟩:=by
 cases s
 case i x=>exact⟨"turn",.inr rfl,rfl⟩
 all_goals exact⟨"fill",.inl rfl,rfl⟩
def jT(N:Nm):List Op->List Ac
 | []=>[]
 | o::os=>oU N o++jT N os
theorem Rb(N:Nm){r:Rw}{s:Sp}(h:Iz r=some s):bZ N r=(jT N (bT r)++wz N s)++[yU N s]:=by
 cases r<;>cases h<;>(first | (cases s<;>simp[bZ,jT,bT,Eg,yU,wz]) | simp[bZ,jT,bT,Eg,yU,wz])
theorem IE{N:Nm}(K:aS N)(w:Bool)(n:Nat)(V:Vs)(s:Sp):(wz N s).map (λa=>jM (bQ (Hn N w n (raw V)) a))=CH V s:=by
 have e:=λx=>gT K w n V x "read" ""
 cases s
 case i x =>
  cases x
  case «at» i=>rfl
  case a=>show [jM (bQ (Hn N w n (raw V)) (nR N .a))]=_;rw[show bQ (Hn N w n (raw V)) (nR N .a)=_ from e .a,wH];rfl
  case b=>show [jM (bQ (Hn N w n (raw V)) (nR N .b))]=_;rw[show bQ (Hn N w n (raw V)) (nR N .b)=_ from e .b,wH];rfl
 all_goals rfl
theorem Rc{N:Nm}(K:aS N)(w:Bool)(n:Nat)(V:Vs)(o:Op):(oU N o).map (λa=>jM (bQ (Hn N w n (raw V)) a))=A8 V o:=by
 cases o with
 | num i=>rfl
 | sp s =>
  show(wz N s++[QO N "read" s]).map _=_;rw[fW,IE K];show _++[jM (bQ (Hn N w n (raw V)) ⟨"read",N.n s.x,false,s.f,1,""⟩)]=_;rw[LV K];rfl
theorem wI{N:Nm}(K:aS N)(w:Bool)(n:Nat)(V:Vs):∀os:List Op,(jT N os).map (λa=>jM (bQ (Hn N w n (raw V)) a))=gS V os
 | []=>rfl
 | o::os=>by
  show(oU N o++jT N os).map _=A8 V o++gS V os;rw[fW,Rc K,wI K w n V os]
theorem IF(x:N3):kE x<=2:=by cases x<;>decide
theorem Nu{N:Nm}(K:aS N)(w:Bool)(n:Nat)(V:Vs)(s:Sp):∀a∈wz N s,Q7 (Hn N w n (raw V)) a:=by
 intro a h;cases s
 case i x =>
  cases x
  case «at» i=>cases h
  case a=>rw[aW.mp h];exact⟨gU K w n V .a "read" "",rfl,IF .a,jS K w n V _⟩
  case b=>rw[aW.mp h];exact⟨gU K w n V .b "read" "",rfl,IF .b,jS K w n V _⟩
 all_goals cases h
theorem Wf{N:Nm}(K:aS N)(w:Bool)(n:Nat)(V:Vs)(o:Op):∀a∈oU N o,Q7 (Hn N w n (raw V)) a:=by
 intro a h;cases o with
 | num i=>cases h
 | sp s =>
  rcases b8.mp h with h | h
  ·exact Nu K w n V s a h
  ·rw[aW.mp h];exact⟨En K w n V s "read" "",rfl,(show 1<=2 by decide),jS K w n V _⟩
theorem Bc{N:Nm}(K:aS N)(w:Bool)(n:Nat)(V:Vs):∀os:List Op,∀a∈jT N os,Q7 (Hn N w n (raw V)) a
 | [],a,h=>by cases h
 | o::os,a,h=>by
  rcases b8.mp h with h | h
  ·exact Wf K w n V o a h
  ·exact Bc K w n V os a h
theorem rL(N:Nm):∀os:List Op,(jT N os).length<=2*os.length
 | []=>by simp[jT]
 | o::os=>by
  have:=dt N o;have:=rL N os;simp only[jT,bR,cz]
  lia
theorem atI_last{α:Type}{xs:List α}{v:α}(h:xs.getLast?=some v):L2.rX xs (-1)=some v:=by
 have hp:0<xs.length:=by cases xs with | nil=>cases h | cons=>simp
 unfold L2.rX L2.BF;rw[if_neg (by lia),if_pos (by lia),jo,show((-1:Int)+xs.length).toNat=xs.length-1 by lia,<-List.getLast?_eq_getElem?]
 exact h
theorem Rf(w:Bool)(n:Nat)(s:Sp):n<CK w n s/\CK w n s<n+8:=by cases w<;>cases s<;>simp[CK]
theorem LW(c:Nat){N:Nm}(K:aS N){P:List Fd}{F:Fd}{fs:List PV}{cnt:Int}{aU:List Int}{g:List ah}{n k q j0 r0 b:Nat}{A:Ra}{V:Vs}{r:Rw}{s:Sp}
  (hR:cG g 2 N P 0 3 4 5 fs cnt aU) (hB:jQ g N F.w n j0 r0 A) (W:Wd g (b+2)) (hP:P[j0]?=some F) (hz:V.s.length=N.z) (hq:g[q]?=some ⟨.lst,gS V (bT r)++CH V s⟩) (q1:q≠1) (ho:∀o∈bT r,A9 V o) (hb:∀o∈bT r,Bd (opV V o))
  (hA:∀x,s=.i x->A.s=stP V.s)
  (hr:((∃o,r=.put s o)/\Bb V s)\/((∃o,r=.fill o)/\s=.s)\/((∃w o p,r=.set s w o p)/\Bb V s)) :
  ∃g',run aI (c+9) "do_act" [.ref 2,.ref (n+8),aT N r,c8 k (yU N s),.ref q] g=some (.ok (.lst [CL A s]),g')/\Ch g g' [1,CK F.w n s]/\Wd g' b/\jQ g' N F.w n j0 r0 (um A (Sv N V (oV V r) s) s):=by
 obtain⟨wd,hwd,ea⟩:=Q9 N s;have tw:Tw (yU N s):=by rw[ea];rcases hwd with h | h<;>simp[Tw,h]
 have e1:=CM (c+7) k (yU N s) tw;have ft:rj (Hn N F.w n A) (yU N s):=by rw[ea];exact rK K F.w n A s wd ""
 have pl:bQ (Hn N F.w n A) (yU N s)=[(CK F.w n s,CL A s)]:=by rw[ea];exact yD K F.w n A s wd ""
 obtain⟨g1,e2,c1,w1⟩:=pd (c+2) (k:=k) (n:=b) hB ft tw (by rw[ea];exact(show 1<=2 by decide)) (λhf x hx=>by
  rw[pl,aW]at hx;rw[hx];cases s with
  | i x=>rw[show CL A (.i x)=A.s from rfl,hA x rfl];rfl
  | _=>exact absurd rfl hf) W
 rw[pl]at e2;have e2:run aI (c+8) "Boxes.touch" [.ref 0,.ref (n+8),c8 k (yU N s)] g=some (.ok (.lst [CL A s]),g1):=e2;have R1:=hR.ch c1 (by simp)
 have B1:=hB.Nt W.l1 c1;have q2:=c1.get hq (by simp;exact q1)
 have fq:pq g1 (.ref q) (gS V (bT r)++CH V s):=⟨λi v L hi=>by
  have d:=ai (cO (g:=L) q2) rfl;simp only[aJ,d];exact atI_nat hi⟩
 have hl:∀v,(CH V s).getLast?=some v->∀L,aJ (g1++L) (.ref q) (.int (-1))=some v:=λv hv L=>by
  have d:=ai (cO (g:=L) q2) rfl;simp only[aJ,d];exact atI_last (by rw[List.getLast?_append,hv];rfl)
 have e3:=ai hR.r rfl;have e3a:=ai R1.r rfl;have e3b:=ai (R1.app [⟨.lst,iM V r⟩]).r rfl;have e4:=λL=>W.mt L "touch" (by kernel_rfl)
 have w2:Wd (g1++[⟨.lst,iM V r⟩]) b:=w1.ch (Ch.app g1 _ []) (by simp)
 have Wg:=λL=>w1.mt L "store" (by kernel_rfl)
 have e5:∀h,MT false h (.str (yU N s).w) (.ak [.str "fill",.str "turn"])=some (.bl true):=λh=>by rw[ea];rcases hwd with rfl | rfl<;>rfl
 have e6:=ai B1.f rfl;have e7:∀h,aJ h (.ak (P.map (fdP N))) (.int (j0:Int))=some (fdP N F):=λh=>atI_nat (by rw[bK,hP];rfl)
 have hE:=fZ hB.f;have nP:=fZ B1.f;have e8:=Ej c K F (u:=CL A s) (g:=g1) (q:=q) (λx hx=>by rw[hx];exact hA x hx) hz fq ho hb nP hr hl
 obtain⟨g2,e9,c9,b9⟩:=wG (c+6) (k:=k) (W:=[Sv N V (oV V r) s]) (B1.app [⟨.lst,iM V r⟩]) ft (by rw[pl];rfl)
 rw[pl]at c9 b9;rw[ID]at b9;have Eo:=fZ (B1.app [⟨.lst,iM V r⟩]).f;have nr:aj [c8 k (yU N s)]=true:=by simp[aj,yq]
 have Nv:aj [fdP N F,aT N r,.ref q,.lst [CL A s]]=false:=by simp[aj,noRef]
 refine⟨g2,?_,?_,?_,b9⟩
 ·rw[qY];simp only[↓bf,yp,e1,e2,e3,e3a,e3b,e4,Wg,e5,e6,e7,e8,e9,hE,nP,Eo,nr,Nv,yq,aA,az,cb,bW]
 ·exact((c1.mono (by simp)).tr (Ch.app g1 [⟨.lst,iM V r⟩] []) (by simp)).tr c9 (by simp)
 ·refine w2.ch c9 ?_;have hbx:∃m t,g1[CK F.w n s]?=some (nN m t (CL A s)):=by
   obtain⟨gg,Q,t,i1,i2,i3⟩:=wu B1 ft;obtain⟨m,hm⟩:=i3 (CK F.w n s,CL A s) (by rw[pl];simp)
   exact⟨m,t,hm⟩
  obtain⟨m,t,hm⟩:=hbx;obtain⟨nb,nt,es,a0,a1,_⟩:=w1;simp only[aO,dQ,aW];exact⟨(λz=>by rw[<-z,a0]at hm;cases hm),(λz=>by rw[<-z,a1]at hm;cases hm)⟩
end bG
set_option maxHeartbeats 4000000
namespace bG
open PySem L2 L2.U
theorem nT{N:Nm}{w:Bool}{n:Nat}{A:Ra}:∀e∈Hn N w n A,(n<e.2.1/\e.2.1<n+8)/\∀x∈e.2.2,n<x.1/\x.1<n+8:=by
 intro e he;unfold Hn at he;cases w<;>simp at he<;>rcases he with rfl | rfl | rfl<;>simp
theorem jQ.lt{h:List ah}{N:Nm}{w:Bool}{n j r:Nat}{A:Ra}(F:jQ h N w n j r A):n+8<h.length:=eV F.f
theorem jQ.ch{h h':List ah}{B:List Nat}{N:Nm}{w:Bool}{n j r:Nat}{A:Ra}(F:jQ h N w n j r A)(c:Ch h h' B)(hA:∀a∈B,a<n\/n+8<a):jQ h' N w n j r A :=
 oT.ch F c (λz=>by have:=hA _ z;lia) (λz=>by have:=hA _ z;lia) λe he=>by
  have:=nT e he;refine⟨λz=>?_,λx hx z=>?_⟩
  ·have:=hA _ z;lia
  ·have:=hA _ z;have:=this;have:=(nT e he).2 x hx
   lia
theorem uo(c:Nat){N:Nm}(K:aS N){P:List Fd}{F:Fd}{fs:List PV}{cnt:Int}{aU:List Int}{h:List ah}{n k j0 r0 b:Nat}{A:Ra}{V:Vs}{r:Rw}{s:Sp}
  (hR:cG h 2 N P 0 3 4 5 fs cnt aU) (hB:jQ h N F.w n j0 r0 A) (W:Wd h (b+12)) (hP:P[j0]?=some F) (hz:V.s.length=N.z) (ho:∀o∈bT r,A9 V o) (hb:∀o∈bT r,Bd (opV V o)) (ht:Iz r=some s)
  (hA:∀x,s=.i x->A.s=stP V.s)
  (FV:∀a∈jT N (bT r)++wz N s,Q7 (Hn N F.w n A) a) (hv:(jT N (bT r)++wz N s).map (λa=>jM (bQ (Hn N F.w n A) a))=gS V (bT r)++CH V s)
  (hr:((∃o,r=.put s o)/\Bb V s)\/((∃o,r=.fill o)/\s=.s)\/((∃w o p,r=.set s w o p)/\Bb V s)) :
  ∃v h',run aI (c+10) "do_acts" [.ref 2,.ref (n+8),aT N r,.lst ((bZ N r).map (c8 k))] h=some (.ok v,h')/\Ch h h' [1,CK F.w n s]/\Wd h' b/\jQ h' N F.w n j0 r0 (um A (Sv N V (oV V r) s) s):=by
 have ln:=jQ.lt hB;have ad:=Rf F.w n s;obtain⟨G,hG⟩:∃G,G=gS V (bT r)++CH V s:=⟨_,rfl⟩
 obtain⟨B,Xk⟩:∃B,B=jT N (bT r)++wz N s:=⟨_,rfl⟩
 rw[<-Xk,<-hG]at hv;rw[<-Xk]at FV;have Al:B.length<=5:=by
  have:=rL N (bT r);have:=rJ r;have:=pf N s;rw[Xk,bR];lia
 have Gl:G.length<=5:=by rw[<-hv,aN];exact Al
 obtain⟨g1,y5,e1,c1,q1,w1⟩:=lE (c+2) (k:=k) (row:=aT N r) (so:=.lst ((bZ N r).map (c8 k))) hR hB W.l1 B [] (h++[⟨.lst,[]⟩]) none (b+2) (Ch.app _ _ _) dk ((W.ch (Ch.app h _ []) (by simp)).mono (by lia)) FV (by simp;lia)
 have e1:=e1 [c8 k (yU N s)];rw[hv,gy]at q1;rw[show B.map (c8 k)++[c8 k (yU N s)]=(bZ N r).map (c8 k) by rw[Rb N ht,Xk];simp]at e1
 have R1:=hR.ch c1 (by simp)
 have B1:=hB.Nt W.l1 c1;obtain⟨g2,e2,c2,w2,b2⟩:=LW c K (k:=k) (q:=h.length) (V:=V) R1 B1 w1 hP hz (by rw[q1,hG]) (by lia) ho hb hA hr
 have q2:=c2.get q1 (by simp;lia)
 have a1:=λρ v=>iU (ρ:=ρ) (v:=v) q2 (by lia)
 have d0:=ai q1 rfl;have d1:=ai q2 rfl;obtain⟨g3,hg3⟩:∃g3,g3=g2.set h.length ⟨.lst,G++[.lst [CL A s]]⟩:=⟨_,rfl⟩
 have q3:g3[h.length]?=some ⟨.lst,G++[.lst [CL A s]]⟩:=by rw[hg3];exact bI q2
 have a1:∀ρ,fH (dY eS) (.ref h.length) [.lst [CL A s]] ⟨ρ,g2⟩=some (.ok .aP,⟨ρ,g3⟩):=λρ=>by rw[hg3];exact a1 ρ _
 have e3:=dO q3 rfl;have hE:=fZ q1;have Eo:=fZ q2;have nr:∀l,aj (.ref 2::l)=false:=km 2
 have c3:Ch g2 (g3.set h.length Ay) [h.length]:=by rw[hg3];exact(Ch.set _).tr (Ch.set _) (λ_ h _=>h)
 refine⟨.lst (G++[.lst [CL A s]]),g3.set h.length Ay,?_,?_,w2.ch c3 (by simp;lia),?_⟩
 ·have e4:fg (cS 5) (cN (run aI (c+9))) [c8 k (yU N s)] ⟨[some (.ref 2),some (.ref (n+8)),some (aT N r),some (.lst ((bZ N r).map (c8 k))),some (.ref h.length),y5],g1⟩=some (.ok .nx,⟨[some (.ref 2),some (.ref (n+8)),some (aT N r),some (.lst ((bZ N r).map (c8 k))),some (.ref h.length),some (c8 k (yU N s))],g3⟩):=by
   refine bH ?_
   delta cN fN
   simp only[↓gY,e2,a1,d0,d1,hE,Eo,nr,aA,az]
  have e5:=e1.trans e4
  revert e5
  delta cN fN
  intro e5;rw[oh];simp only[↓bf,e5,e3]
 ·exact((c1.mono (by simp)).tr c2 (λ_ h _=>h)).tr c3 (λm hm hl=>by rw[aW]at hm;lia)
 ·exact jQ.ch b2 c3 (λa ha=>by rw[aW]at ha;lia)
theorem LX(N:Nm)(V:Vs)(x:Int)(s:Sp):um (raw V) (Sv N V x s) s=raw (jR N V x s):=by cases s<;>rfl
end bG
set_option maxHeartbeats 4000000
namespace bG
open PySem L2 L2.U
structure Jw (h:List ah) (N:Nm) (P:List Fd) (fs:List PV) (cnt:Int) (aU:List Int) (n j0 r0:Nat) (A:Ra) (F:Fd) (r:Rw):Prop where
 R:cG h 2 N P 0 3 4 5 (fs++[.ref (n+8)]) cnt aU
 B:jQ h N F.w n j0 r0 A
 P:P[j0]?=some F
 r:F.rows[r0]?=some r
variable {h:List ah} {N:Nm} {P:List Fd} {fs:List PV} {cnt:Int} {aU:List Int} {n j0 r0:Nat} {A:Ra} {F:Fd} {r:Rw}
theorem jU(c:Nat)(T:Jw h N P fs cnt aU n j0 r0 A F r):run aI (c+1) "row_of" [.ref 2,.ref (n+8)] h=some (.ok (aT N r),h):=by
 rw[AX];have e1:=ai T.R.r rfl;have e2:=ai T.B.f rfl;have e3:∀h,aJ h (.ak (P.map (fdP N))) (.int (j0:Int))=some (fdP N F):=λh=>atI_nat (by rw[bK,T.P];rfl)
 have e4:∀h,aJ h (fdP N F) (.int 4)=some (.ak (F.rows.map (aT N))):=λh=>rfl
 have e5:∀h,aJ h (.ak (F.rows.map (aT N))) (.int (r0:Int))=some (aT N r):=λh=>atI_nat (by rw[bK,T.r];rfl)
 simp only[↓bf,e1,e2,e3,e4,e5]
theorem j7(c:Nat)(T:Jw h N P fs cnt aU n j0 r0 A F r):run aI (c+1) "acts_of" [.ref 2,.ref (n+8)] h=some (.ok (.lst ((bZ N r).map (c8 r0))),h):=by
 rw[yl];have e1:=ai T.R.r rfl;have e2:=ai T.B.f rfl;have e3:∀h,aJ h (.lst (P.map λF=>Az N F.rows)) (.int (j0:Int))=some (Az N F.rows):=λh=>atI_nat (by rw[bK,T.P];rfl)
 have e5:∀h,aJ h (Az N F.rows) (.int (r0:Int))=some (.lst ((bZ N r).map (c8 r0))):=λh=>atI_nat (by rw[bK,Ik N F.rows 0 r0 r T.r,u4];rfl)
 simp only[↓bf,e1,e2,e3,e5]
def mG(V:Vs)(k:Nat):Rw->Nat
 | .go j=>j
 | .ifs o p j=>if opV V o<opV V p then j else k+1
 | _=>k+1
def r6(V:Vs):Rw->List Int
 | .jh o=>[opV V o]
 | _=>[]
def vR(N:Nm)(V:Vs)(r:Rw):Vs:=match Iz r with
 | some s=>jR N V (oV V r) s
 | none=>V
theorem CO{ps:List PV}(h:aj ps=true):eF [⟨.lst,ps⟩] (.ref 0)=some (.lst ps):=jP h
theorem Rh(V:Vs)(o:Op):aj (A8 V o)=true:=by
 cases o with
 | num i=>rfl
 | sp s =>
  have h1:∀s:List Int,noRef (stP s)=true:=λs=>A7 (dG (λ_=>rfl) s)
  cases s
  case i x=>cases x<;>simp[A8,CH,LN,aj,noRef,h1]
  all_goals simp[A8,CH,LN,aj,noRef,h1]
theorem Be{A B:List PV}(h1:aj A=true)(h2:aj B=true):aj (A++B)=true:=by
 induction A with
 | nil=>exact h2
 | cons a A ih =>
  simp only[aj,aG]at h1;rw[List.cons_append,aj,h1.1,ih h1.2];rfl
theorem Bf(V:Vs):∀os,aj (gS V os)=true
 | []=>rfl
 | o::os=>Be (Rh V o) (Bf V os)
theorem Nw(c:Nat){V:Vs}(hs:1<=V.s.length)(ho:∀o∈bT r,A9 V o):run aI (c+3) "numbers_found" [aT N r,.lst (gS V (bT r))] []=some (.ok (.ref 0),[⟨.lst,iM V r⟩]):=by
 have:=We c (N:=N) (V:=V) (g:=[]) (p:=.lst (gS V (bT r))) (G:=gS V (bT r)) (r:=r) hs ⟨λi v L hi=>atI_nat hi⟩ ho ⟨[],by simp⟩
 exact this
theorem IG(V:Vs)(r:Rw):aj (iM V r)=true:=dG (λ_=>rfl) _
theorem yF(c:Nat){V:Vs}{found:PV}(T:Jw h N P fs cnt aU n j0 r0 A F r)(hs:1<=V.s.length)(ho:∀o∈bT r,A9 V o)(hf:(∃o p k,r=.ifs o p k)->found=.lst (gS V (bT r)))(hg:∀t,r≠.bh t)(hc:∀j t as,r≠.call j t as) :
  run aI (c+4) "row_behind" [.ref (n+8),aT N r,found] h=some (.ok (.int (mG V r0 r:Int)),h):=by
 rw[qX];have e1:=λh=>rE (h:=h) N r
 have e2:=ai T.B.f rfl;have e3:∀h,cZ h (.int (r0:Int)) (.int 1)=some (.int ((r0+1:Nat):Int)):=λh=>rfl
 cases r
 case bh t=>exact absurd rfl (hg t)
 case call j t as=>exact absurd rfl (hc j t as)
 case go k=>simp only[↓bf,e1];rfl
 case ifs o p k =>
  have hfo:=hf ⟨o,p,k,rfl⟩;subst hfo;have e4:=Nw c (N:=N) hs ho;have nr:aj [aT N (.ifs o p k),.lst (gS V (bT (.ifs o p k)))]=true:=by simp only[aj,rn,nQ (Bf _ _),kT]
  have e5:=CO (IG V (.ifs o p k));have i0:∀h,aJ h (.lst (iM V (.ifs o p k))) (.int 0)=some (.int (opV V o)):=λh=>rfl
  have i1:∀h,aJ h (.lst (iM V (.ifs o p k))) (.int 1)=some (.int (opV V p)):=λh=>rfl
  have i2:∀h x y,MP h (.int x) (.int y)=some (.bl (decide (x<y))):=λh x y=>rfl
  by_cases vF:opV V o<opV V p
  ·have hd:=ez vF;simp only[↓bf,e1,e4,e5,nr,i0,i1,i2,hd,mG,if_pos vF,cb,bW]
  ·have hd:=cF vF;simp only[↓bf,e1,e2,e3,e4,e5,nr,i0,i1,i2,hd,mG,if_neg vF,cb,bW]
 all_goals (simp only[↓bf,e1,e2,e3,mG])
end bG
set_option maxHeartbeats 4000000
namespace bG
open PySem L2 L2.U
variable {h:List ah} {N:Nm} {P:List Fd} {fs:List PV} {cnt:Int} {aU:List Int} {n j0 r0:Nat} {A:Ra} {f:Fr} {F:Fd} {r:Rw}
abbrev px(h:List ah)(N:Nm)(P:List Fd)(fs:List PV)(cnt:Int)(aU:List Int):Prop:=cG h 2 N P 0 3 4 5 fs cnt aU
abbrev Tp(h:List ah)(N:Nm)(P:List Fd)(fs:List PV)(cnt:Int)(aU:List Int)(n:Nat)(f:Fr)(F:Fd)(r:Rw):Prop:=Jw h N P fs cnt aU n f.j f.r (raw f.v) F r
noncomputable def wJ(n:Nat):List Nat:=[1,2,4,5,n+1,n+2,n+3,n+4,n+5,n+6,n+7,n+8]
noncomputable def jV(n:Nat):List Nat:=[1,n+1,n+2,n+3,n+4,n+5,n+6,n+7]
theorem pA{h:List ah}{i d:Nat}{j r x:Int}{ρ:List (Option PV)}(e:h[i]?=some (uf j d r)):eG eI eJ "row" (.ref i) (.int x) ⟨ρ,h⟩=some ⟨ρ,h.set i (uf j d x)⟩:=by
 rw[gm e (by kernel_rfl)]
 rfl
theorem mH{h:List ah}{i:Nat}{pr li:PV}{w nu fl sd:Nat}{x y:Int}{ρ:List (Option PV)}(e:h[i]?=some (EF pr w nu li fl sd x)):eG eI eJ "count" (.ref i) (.int y) ⟨ρ,h⟩=some ⟨ρ,h.set i (EF pr w nu li fl sd y)⟩:=by
 rw[gm e (by kernel_rfl)]
 rfl
theorem jQ.row{h:List ah}{N:Nm}{w:Bool}{n j r:Nat}{A:Ra}(B:jQ h N w n j r A)(k:Nat):jQ (h.set (n+8) (uf (j:Int) n (k:Int))) N w n j k A :=
 ⟨bI B.f,by rw[aL (by lia)];exact B.d,λe he=>(B.p e he).ch (Ch.set _) (by rw[aW];have:=(nT e he).1;lia) (λx hx=>by rw[aW];have:=(nT e he).2 x hx;lia),B.l⟩
theorem cG.iz(hR:px h N P fs cnt aU)(y:Int):px (h.set 2 (EF (.ak (P.map (fdP N))) 0 3 (.lst (P.map λF=>Az N F.rows)) 4 5 y)) N P fs y aU :=
 ⟨bI hR.r,by rw[aL (by decide)];exact hR.nu,by rw[aL (by decide)];exact hR.fl,by rw[aL (by decide)];exact hR.sd⟩
theorem dP{h:List ah}{i:Nat}{fs:List PV}{p:PV}(e:h[i]?=some ⟨.lst,fs++[p]⟩):aJ h (.ref i) (.int (-1))=some p:=by
 have d:=ai e rfl;simp only[aJ,d];exact atI_last (by simp)
theorem Rj{h:List ah}{n:Nat}{L R:List PV}{ρ:List (Option PV)}(e:h[n]?=some ⟨.lst,L⟩)(hl:L.length+R.length<=1000000):oF (.ref n) [.lst R] ⟨ρ,h⟩=some (.ok .aP,⟨ρ,h.set n ⟨.lst,L++R⟩⟩):=by
 show(fH (dY λps _=>if ps.length+R.length<=gX then some (ps++R)else none) (.ref n) [] ⟨ρ,h⟩)=_
 have e1:(if L.length+R.length<=gX then some (L++R)else none)=some (L++R):=if_pos (aX hl (by decide))
 show((kf h (.ref n)).bind λc=>(dY (λps _=>if ps.length+R.length<=gX then some (ps++R)else none) c.2 []).map λr=>_)=_
 rw[dO e rfl];show(((if L.length+R.length<=gX then some (L++R)else none).map λqs=>((⟨.lst,qs⟩:ah),PV.aP)).map λr=>_)=_
 rw[e1];rfl
structure uq (N:Nm) (V:Vs) (r:Rw):Prop where
 o:∀o∈bT r,A9 V o/\Bd (opV V o)
 t:∀s,Iz r=some s->((∃o,r=.put s o)/\Bb V s)\/((∃o,r=.fill o)/\s=.s)\/((∃w o p,r=.set s w o p)/\Bb V s)
 g:∀t,r≠.bh t
 c:∀j t as,r≠.call j t as
theorem Rk(N:Nm){r:Rw}(h:Iz r=none)(hg:∀t,r≠.bh t)(hc:∀j t as,r≠.call j t as):bZ N r=jT N (bT r):=by
 cases r
 case bh t=>exact absurd rfl (hg t)
 case call j t as=>exact absurd rfl (hc j t as)
 case put s o=>cases h
 case fill o=>cases h
 case set s w o p=>cases h
 all_goals simp[bZ,jT,bT]
def wK(c:Nat)(h:List ah)(N:Nm)(F:Fd)(n j0 r0 b:Nat)(A':Ra)(V:Vs)(r:Rw):Prop :=
  ∃v h',run aI (c+10) "do_acts" [.ref 2,.ref (n+8),aT N r,.lst ((bZ N r).map (c8 r0))] h=some (.ok v,h')/\Ch h h' (jV n)/\Wd h' b/\jQ h' N F.w n j0 r0 A'/\(Iz r=none->v=.lst (gS V (bT r)))
theorem Bh(c:Nat)(K:aS N){b:Nat}(T:Tp h N P fs cnt aU n f F r)(W:Wd h (b+12))(hz:f.v.s.length=N.z)(ok:uq N f.v r):wK c h N F n f.j f.r b (raw (vR N f.v r)) f.v r:=by
 cases ht:Iz r with
 | none =>
  have ol:=rL N (bT r);have ol2:=rJ r;obtain⟨h',e,c1,w1⟩:=CN (c+2) (k:=f.r) (row:=aT N r) (n:=b) T.R T.B (jT N (bT r)) (Bc K F.w n f.v _) (by lia) (W.mono (by lia))
  rw[wI K,<-Rk N ht ok.g ok.c]at e;have hv:vR N f.v r=f.v:=by unfold vR;rw[ht]
  refine⟨_,h',e,c1.mono (by simp[jV]),w1,?_,λ_=>rfl⟩
  rw[hv];exact oT.Nt T.B W.l1 c1
 | some s =>
  obtain⟨v,h',e,c1,w1,b1⟩:=uo c K (k:=f.r) (V:=f.v) T.R T.B W T.P hz (λo ho=>(ok.o o ho).1) (λo ho=>(ok.o o ho).2) ht (λx hx=>rfl) (λa ha=>by
   rcases b8.mp ha with ha | ha
   ·exact Bc K F.w n f.v _ a ha
   ·exact Nu K F.w n f.v s a ha) (by rw[fW,wI K,IE K]) (ok.t s ht)
  have hv:vR N f.v r=jR N f.v (oV f.v r) s:=by unfold vR;rw[ht]
  refine⟨v,h',e,c1.mono (λm hm=>by
   simp only[aD,bu,bz]at hm;rcases hm with rfl | rfl
   ·simp[jV]
   ·cases F.w<;>cases s<;>simp[CK,jV]),w1,?_,λz=>by rw[ht]at z;cases z⟩
  rw[hv,<-LX];exact b1
def LY(r:Rw):Prop:=(∃i,r=.put .b (.num i)/\Bd i)\/(∃i,r=.fill (.num i)/\Bd i)\/∃i,r=.put .n (.num i)/\Bd i
def IH(N:Nm)(A:Ra):Rw->Ra
 | .put .b (.num i)=>{A with b:=.int i}
 | .fill (.num i)=>{A with s:=stP (List.replicate N.z i)}
 | .put .n (.num i)=>{A with n:=.int i}
 | _=>A
theorem Bi(c:Nat)(K:aS N){b:Nat}{V:Vs}(T:Jw h N P fs cnt aU n j0 r0 A F r)(W:Wd h (b+12))(hz:V.s.length=N.z)(hi:LY r):wK c h N F n j0 r0 b (IH N A r) V r:=by
 have go:∀s,Iz r=some s->jT N (bT r)++wz N s=[]->gS V (bT r)++CH V s=[]->(∀x,s≠.i x)->(∀o∈bT r,A9 V o/\Bd (opV V o))->um A (Sv N V (oV V r) s) s=IH N A r->(((∃o,r=.put s o)/\Bb V s)\/((∃o,r=.fill o)/\s=.s)\/((∃w o p,r=.set s w o p)/\Bb V s))->wK c h N F n j0 r0 b (IH N A r) V r:=λs ht h1 h2 h3 h4 h5 h6=>by
  obtain⟨v,h',e,c1,w1,b1⟩:=uo c K (k:=r0) (V:=V) T.R T.B W T.P hz (λo ho=>(h4 o ho).1) (λo ho=>(h4 o ho).2) ht (λx hx=>absurd hx (h3 x)) (λa ha=>by rw[h1]at ha;cases ha) (by rw[h1,h2];rfl) h6
  rw[h5]at b1;refine⟨v,h',e,c1.mono (λm hm=>by
   simp only[aD,bu,bz]at hm;rcases hm with rfl | rfl
   ·simp[jV]
   ·cases F.w<;>cases s<;>simp[CK,jV]),w1,b1,λz=>by rw[ht]at z;cases z⟩
 rcases hi with⟨i,rfl,hb⟩ | ⟨i,rfl,hb⟩ | ⟨i,rfl,hb⟩
 ·exact go .b rfl rfl rfl (by simp) (λo ho=>by rw[aW.mp ho];exact⟨trivial,hb⟩) rfl (.inl ⟨⟨_,rfl⟩,trivial⟩)
 ·exact go .s rfl rfl rfl (by simp) (λo ho=>by rw[aW.mp ho];exact⟨trivial,hb⟩) rfl (.inr (.inl ⟨⟨_,rfl⟩,rfl⟩))
 ·exact go .n rfl rfl rfl (by simp) (λo ho=>by rw[aW.mp ho];exact⟨trivial,hb⟩) rfl (.inl ⟨⟨_,rfl⟩,trivial⟩)
end bG
set_option maxHeartbeats 4000000
namespace bG
open PySem L2 L2.U
variable {h:List ah} {N:Nm} {P:List Fd} {fs:List PV} {cnt:Int} {aU:List Int} {n j0 r0:Nat} {A A':Ra} {V:Vs} {f:Fr} {F:Fd} {r:Rw}
theorem cG.Wh(hR:px h N P fs cnt aU)(x:List Int):px (h.set 5 ⟨.lst,x.map .int⟩) N P fs cnt x :=
 ⟨by rw[aL (by decide)];exact hR.r,by rw[aL (by decide)];exact hR.nu,by rw[aL (by decide)];exact hR.fl,bI hR.sd⟩
theorem mI{h:List ah}{i:Nat}{pr li:PV}{w nu fl sd:Nat}{x:Int}(e:h[i]?=some (EF pr w nu li fl sd x)):qO "count" (.ref i) h=some (("Run":Str),PV.int x):=by
 unfold qO;rw[ai e rfl];rfl
theorem uu(c:Nat)(K:aS N){b:Nat}(T:Jw h N P fs cnt aU n j0 r0 A F r)(hn:6<=n)(hz:V.s.length=N.z)(hw:Wd h b)(ho:∀o∈bT r,A9 V o)(hg:∀t,r≠.bh t)(hc:∀j t as,r≠.call j t as)(aan:wK c h N F n j0 r0 b A' V r)(II:aU.length<=10000) :
  ∃h',run aI (c+11) "do_row" [.ref 2] h=some (.ok .aP,h')/\px h' N P (fs++[.ref (n+8)]) (cnt+1) (aU++r6 V r)/\jQ h' N F.w n j0 (mG V r0 r) A'/\Ch h h' (wJ n)/\Wd h' b:=by
 have hs:1<=V.s.length:=by rw[hz];exact K.z1
 obtain⟨v,h1,e1,c1,w1,b1,v1⟩:=aan;have m6:∀{B:List Nat},(∀m∈B,m=1\/6<m)->2∉B/\3∉B/\4∉B/\5∉B:=λhB=>⟨λz=>by have:=hB _ z;lia,λz=>by have:=hB _ z;lia,λz=>by have:=hB _ z;lia,λz=>by have:=hB _ z;lia⟩
 have R1:px h1 N P (fs++[.ref (n+8)]) cnt aU:=T.R.ch c1 (m6 λm hm=>by simp only[jV,aD,bu,bz]at hm;lia)
 have T1:Jw h1 N P fs cnt aU n j0 r0 A' F r:=⟨R1,b1,T.P,T.r⟩;have e0:=dP T.R.fl;have e2:=jU (c+9) T;have e3:=j7 (c+9) T;have e4:=λh=>rE (h:=h) N r
 have hd:=ai T.R.r rfl;have hE:=fZ T.R.r;have nr:∀l,aj (.ref 2::l)=false:=km 2
 have nr5:∀l,aj (.ref (n+8)::l)=false:=km (n+8)
 have ad:∀h,sE h (.int cnt) (.int 1)=some (.int (cnt+1)):=λh=>rfl
 by_cases Rl:∃o,r=.jh o
 ·obtain⟨o,rfl⟩:=Rl;have hv1:=v1 rfl;subst hv1;have q1:=Nw (c+7) (N:=N) (r:=.jh o) hs ho;have nq:aj [aT N (.jh o),.lst (gS V (bT (.jh o)))]=true:=by simp only[aj,rn,nQ (Bf _ _),kT]
  have q2:=CO (IG V (.jh o));have q3:=λρ=>Rj (ρ:=ρ) (R:=[.int (opV V o)]) R1.sd (by rw[aN];show _+1<=_;lia)
  have Jx:=ai R1.r rfl;have hd4:=ai R1.sd rfl;have sdE:aU.map PV.int++[.int (opV V o)]=(aU++r6 V (.jh o)).map .int:=by rw[fW];rfl
  rw[sdE]at q3;have R2:=cG.Wh R1 (aU++r6 V (.jh o));obtain⟨h2,LZ⟩:∃h2,h2=h1.set 5 ⟨.lst,(aU++r6 V (.jh o)).map .int⟩:=⟨_,rfl⟩
  rw[<-LZ]at R2;have c2:Ch h1 h2 [5]:=by rw[LZ];exact Ch.set _
  have b2:=jQ.ch b1 c2 (by simp <;> lia)
  have T2:Jw h2 N P fs cnt (aU++r6 V (.jh o)) n j0 r0 A' F (.jh o):=⟨R2,b2,T.P,T.r⟩;have q4:=yF (c+6) (V:=V) (found:=.lst (gS V (bT (.jh o)))) T2 hs ho (λ⟨_,_,_,z⟩=>by cases z) (λt z=>by cases z) (λj t as z=>by cases z)
  have q5:=λρ=>pA (ρ:=ρ) (x:=(mG V r0 (.jh o):Int)) b2.f
  have b3:=jQ.row b2 (mG V r0 (.jh o));obtain⟨h3,P4⟩:∃h3,h3=h2.set (n+8) (uf (j0:Int) n (mG V r0 (.jh o):Int)):=⟨_,rfl⟩
  have c3:Ch h2 h3 [n+8]:=by rw[P4];exact Ch.set _
  rw[<-P4]at q5 b3;have R3:px h3 N P (fs++[.ref (n+8)]) cnt (aU++r6 V (.jh o)):=R2.ch c3 (by simp <;> lia)
  have q6:=λρ=>mH (ρ:=ρ) (y:=cnt+1) R3.r
  have q7:=eW R3.r;have q8:=mI R3.r;have Wi:=ai R3.r rfl;have R4:=cG.iz R3 (cnt+1);have c4:=Ch.set (h:=h3) (n:=2) (EF (.ak (P.map (fdP N))) 0 3 (.lst (P.map λF=>Az N F.rows)) 4 5 (cnt+1))
  have nP:=fZ R1.r;have Eo:=fZ R2.r;refine⟨_,?_,R4,jQ.ch b3 c4 (by simp <;> lia),?_,((w1.ch c2 (by simp)).ch c3 (by simp <;> lia)).ch c4 (by simp)⟩
  ·rw[gQ];rw[<-LZ]at q3;simp only[↓bf,e0,e1,e2,e3,e4,hd,hE,nr,nr5,ad,q1,nq,q2,q3,q4,q5,q6,q7,q8,Jx,hd4,Wi,nP,Eo,aA,az,cb,bW]
  ·have t1:=(c1.mono (B:=wJ n) (by simp[wJ,jV])).tr c2 (by simp[wJ])
   have t2:=t1.tr c3 (by simp[wJ])
   exact t2.tr c4 (by simp[wJ])
 ·have w1':∀h,qG h (.str (uh r)) (.str "call")=some (.bl false):=λh=>by cases r<;>first | rfl | exact absurd rfl (hc _ _ _)
  have w2:∀h,qG h (.str (uh r)) (.str "give")=some (.bl false):=λh=>by cases r<;>first | rfl | exact absurd rfl (hg _)
  have w3:∀h,qG h (.str (uh r)) (.str "say")=some (.bl false):=λh=>by cases r<;>first | rfl | exact absurd ⟨_,rfl⟩ Rl
  have sd0:r6 V r=[]:=by cases r<;>first | rfl | exact absurd ⟨_,rfl⟩ Rl
  rw[sd0,dz];have q4:=yF (c+6) (V:=V) (found:=v) T1 hs ho (by
   rintro⟨o,p,k,z⟩
   subst z;exact v1 rfl) hg hc
  have q5:=λρ=>pA (ρ:=ρ) (x:=(mG V r0 r:Int)) b1.f
  have b3:=jQ.row b1 (mG V r0 r);obtain⟨h3,P4⟩:∃h3,h3=h1.set (n+8) (uf (j0:Int) n (mG V r0 r:Int)):=⟨_,rfl⟩
  have c3:Ch h1 h3 [n+8]:=by rw[P4];exact Ch.set _
  rw[<-P4]at q5 b3;have R3:px h3 N P (fs++[.ref (n+8)]) cnt aU:=R1.ch c3 (by simp <;> lia)
  have q6:=λρ=>mH (ρ:=ρ) (y:=cnt+1) R3.r
  have q7:=eW R3.r;have q8:=mI R3.r;have R4:=cG.iz R3 (cnt+1);have c4:=Ch.set (h:=h3) (n:=2) (EF (.ak (P.map (fdP N))) 0 3 (.lst (P.map λF=>Az N F.rows)) 4 5 (cnt+1))
  have nP:=fZ R1.r;refine⟨_,?_,R4,jQ.ch b3 c4 (by simp <;> lia),?_,(w1.ch c3 (by simp <;> lia)).ch c4 (by simp)⟩
  ·rw[gQ];simp only[↓bf,e0,e1,e2,e3,e4,hd,hE,nr,nr5,ad,w1',w2,w3,q4,q5,q6,q7,q8,nP,aA,az,cb,bW]
  ·have t1:=(c1.mono (B:=wJ n) (by simp[wJ,jV])).tr c3 (by simp[wJ])
   exact t1.tr c4 (by simp[wJ])
theorem IJ(c:Nat)(K:aS N){b:Nat}(T:Tp h N P fs cnt aU n f F r)(hn:6<=n)(W:Wd h (b+12))(hz:f.v.s.length=N.z)(ok:uq N f.v r)(II:aU.length<=10000) :
  ∃h',run aI (c+11) "do_row" [.ref 2] h=some (.ok .aP,h')/\px h' N P (fs++[.ref (n+8)]) (cnt+1) (aU++r6 f.v r)/\Q6 h' N F.w n ⟨f.j,mG f.v f.r r,vR N f.v r⟩/\Ch h h' (wJ n)/\Wd h' b :=
 uu c K T hn hz (W.mono (by lia)) (λo ho=>(ok.o o ho).1) ok.g ok.c (Bh c K T W hz ok) II
end bG
set_option maxHeartbeats 4000000
namespace bG
open PySem L2 L2.U
variable {h:List ah} {N:Nm} {P:List Fd} {fs:List PV} {cnt:Int} {aU:List Int} {n:Nat} {f:Fr} {F:Fd} {r:Rw}
noncomputable def f9(V:Vs):N3->Int
 | .a=>V.a
 | .b=>V.b
 | .c=>0
def iX(w:Bool)(as:List N3):Prop:=(w=false/\∃x,x≠.c/\as=[x])\/(w=true/\∃x,x≠.c/\as=[x,.c])
def jd(N:Nm)(V:Vs)(w:Bool)(as:List N3):Vs:=match as with
 | x::_=>if w=true then⟨f9 V x,0,V.s,V.n⟩else⟨f9 V x,0,uk N,0⟩
 | []=>V
structure IK (N:Nm) (P:List Fd):Prop where
 p:∃F0 F1 F2,P=[F0,F1,F2]
 n:∀j F,P[j]?=some F->F.f=N.f j
theorem CP(K:aS N)(hP:IK N P){j:Nat}{G:Fd}(hj:P[j]?=some G):d8 (bD (N.f j)) (P.map λF=>bD F.f) ((List.range P.length).map fun(i:Nat)=>.int (i:Int))=some (.int (j:Int)):=by
 obtain⟨F0,F1,F2,rfl⟩:=hP.p;have h0:=hP.n 0 F0 rfl;have h1:=hP.n 1 F1 rfl;have h2:=hP.n 2 F2 rfl;have ky:∀x y,x<3->y<3->(bD (N.f x)=bD (N.f y)↔x=y):=λx y hx hy=>⟨λz=>K.ff x y hx hy (by unfold bD at z;injection z with z1 _;injection z1),λz=>by rw[z]⟩
 have hj3:j<3:=(de.mp hj).1;show d8 (bD (N.f j)) [bD F0.f,bD F1.f,bD F2.f] [.int 0,.int 1,.int 2]=_;rw[h0,h1,h2];simp only[d8,ky 0 j (by decide) hj3,ky 1 j (by decide) hj3,ky 2 j (by decide) hj3]
 rcases(by lia : j=0\/j=1\/j=2)with rfl | rfl | rfl<;>rfl
theorem Bj{as:List N3}(K:aS N)(n:Nat)(V:Vs)(w':Bool):(as.map (nR N)).map (λa=>jM (bQ (Hn N w' n (raw V)) a))=as.map λx=>.lst (mF V x):=by
 rw[kX];refine zk λx _=>?_
 show jM (bQ (Hn N w' n (raw V)) ⟨"read",N.n x,false,0,kE x,""⟩)=_;rw[gT K,wH]
def L4(V:Vs)(w:Bool)(as:List N3):Ra:=match as with
 | x::_=>if w=true then⟨.int (f9 V x),.aP,stP V.s,.int V.n⟩else⟨.int (f9 V x),.aP,.aP,.aP⟩
 | []=>raw V
theorem dO1{a:Str}{v:PV}:AD [.ak [.str a,v]]=some (cQ [(a,v)]):=rfl
theorem dO2{a b:Str}{v u:PV}(h:a≠b):AD [.ak [.str a,v],.ak [.str b,u]]=some (cQ [(a,v),(b,u)]):=by
 have e:fj false (bD b) u [bD a] [v]=cQ [(a,v),(b,u)]:=by
  unfold fj;rw[if_neg (by have:=pj (x:=b) (ys:=[a]) (by simp;exact h);rw[show jA (bD b) [bD a]=false from this];exact cR)]
  rfl
 show some (fj false (bD b) u [bD a] [v])=_;rw[e]
theorem Ep(c:Nat)(K:aS N){b j:Nat}{t:Option N3}{as:List N3}(T:Tp h N P fs cnt aU n f F (.call j t as))(hP:IK N P){G:Fd}(hj:P[j]?=some G)(ca:iX G.w as)(Q4:fs.length<=3000)(W:Wd h (b+10)) :
  ∃h' m,run aI (c+10) "do_call" [.ref 2,.ref (n+8),aT N (.call j t as)] h=some (.ok .aP,h')/\px h' N P ((fs++[.ref (n+8)])++[.ref (m+8)]) cnt aU/\jQ h' N G.w m j 0 (L4 f.v G.w as)/\Ch h h' [0,1,4]/\Wd h' b/\h.length<=m/\m+8<h'.length:=by
 have e1:=j7 (c+8) T;have hE:=fZ T.R.r;have nr:∀l,aj (.ref 2::l)=false:=km 2
 have la:as.length<=2:=by rcases ca with⟨_,x,_,rfl⟩ | ⟨_,x,_,rfl⟩<;>simp
 obtain⟨h1,e2,c1,w1⟩:=CN (c+1) (k:=f.r) (row:=aT N (.call j t as)) (n:=b+6) T.R T.B (as.map (nR N)) (λa ha=>by
  obtain⟨x,_,rfl⟩:=dR.mp ha;exact⟨gU K F.w n f.v x "read" "",rfl,IF x,jS K F.w n f.v _⟩) (by rw[aN];lia) (W.mono (by rw[aN];lia))
 rw[Bj (as:=as) K n f.v F.w]at e2;have R1:px h1 N P (fs++[.ref (n+8)]) cnt aU:=T.R.ch c1 (by simp)
 have nP:=fZ R1.r;have Jx:=ai R1.r rfl;have e5:aJ h1 (.ref 3) (.str (N.f j))=some (.int (j:Int)):=by
  have d:=ai R1.nu rfl;simp only[aJ,d];exact CP K hP hj
 have e6:∀h,aJ h (.ak (P.map (fdP N))) (.int (j:Int))=some (fdP N G):=λh=>atI_nat (by rw[bK,hj];rfl)
 have i3:∀h,aJ h (aT N (.call j t as)) (.int 3)=some (.ak (as.map λx=>.str (N.n x))):=λh=>rfl
 have i2:∀h,aJ h (aT N (.call j t as)) (.int 2)=some (.str (N.f j)):=λh=>rfl
 have cu:∀h,yP h none (some (as.length:Int)) (.lst ((bZ N (.call j t as)).map (c8 f.r)))=some (.lst ((as.map (nR N)).map (c8 f.r))):=λh=>by
  show some (PV.lst (iF ((bZ N (.call j t as)).map (c8 f.r)) none (some (as.length:Int))))=_;unfold iF;rw[HT.qo,HT.lO,aN];have:as.length<=(bZ N (.call j t as)).length:=by simp[bZ]
  rw[pO this,List.drop_zero,Nat.sub_zero,<-uY];rw[show(bZ N (.call j t as)).take as.length=as.map (nR N) by
   show(as.map (nR N)++_).take as.length=_;rw[List.take_append_of_le_length (by simp),uF (by simp)]]
 have ln:∀h,fE h [.ak (as.map λx=>.str (N.n x))]=some (.int (as.length:Int)):=λh=>by
  show some (PV.int ((as.map λx=>PV.str (N.n x)).length:Int))=_
  rw[aN]
 have l1:∀a:PV,[a].length<=4000000:=λ_=>by simp
 have l2:∀a b:PV,[a,b].length<=4000000:=λ_ _=>by simp
 have Wj:∀x,x≠.c->mF f.v x=[.int (f9 f.v x)]:=λx hx=>by cases x<;>first | rfl | exact absurd rfl hx
 have gW:∀(es:List (Str×PV)) (h':List ah),run aI (c+10) "do_call" [.ref 2,.ref (n+8),aT N (.call j t as)] h=some (.ok .aP,h')->cG h' 2 N P 0 3 4 5 ((fs++[.ref (n+8)])++[.ref ((h1++[cQ es]).length+8)]) cnt aU->jQ h' N G.w (h1++[cQ es]).length j 0 (L4 f.v G.w as)->Wd h' b->Ch (h1++[cQ es]) h' [0,1,4]->h'.length=(h1++[cQ es]).length+9->∃h' m,run aI (c+10) "do_call" [.ref 2,.ref (n+8),aT N (.call j t as)] h=some (.ok .aP,h')/\px h' N P ((fs++[.ref (n+8)])++[.ref (m+8)]) cnt aU/\jQ h' N G.w m j 0 (L4 f.v G.w as)/\Ch h h' [0,1,4]/\Wd h' b/\h.length<=m/\m+8<h'.length:=λes h' a1 a2 a3 a4 a5 a6=>by
  have:=c1.le;refine⟨h',_,a1,a2,a3,((c1.mono (by simp)).tr (Ch.app h1 [cQ es] []) (by simp)).tr a5 (λ_ h _=>h),a4,?_,by lia⟩
  rw[bR]
  lia
 rcases ca with⟨hw,x,hx,rfl⟩ | ⟨hw,x,hx,rfl⟩
 ·obtain⟨h',b1,b2,b3,b4,b5,b6⟩:=yB (c+1) K (va:=f9 f.v x) (n:=b) (R1.app [cQ [(N.a,.lst [.int (f9 f.v x)])]]) (w1.ch (Ch.app h1 _ []) (by simp)) hj hw (g:=h1.length) dk (by show(if bD N.a=bD N.a then _ else _)=_;rw[if_pos rfl]) (by simp;lia)
  have i1:∀h,aJ h (fdP N G) (.int 1)=some (.ak [dH N .a]):=λh=>by
   show some (PV.ak ((par G.w).map (dH N)))=_;rw[hw];rfl
  refine gW _ h' ?_ b2 ?_ b4 b5 b6
  ·rw[oi];rw[show([x].map λx=>PV.lst (mF f.v x))=[.lst [.int (f9 f.v x)]] by rw[aO,Wj x hx];rfl]at e2
   have bg':run aI (c+1+8) "begin" [.ref 2,.int (j:Int),.ref h1.length] (h1++[cQ [(N.n .a,.lst [.int (f9 f.v x)])]])=_:=b1;have z1:Hl (.ak [dH N .a]) (.lst [.lst [.int (f9 f.v x)]])=some [.ak [dH N .a,.lst [.int (f9 f.v x)]]]:=rfl;have Eo:(h1++[cQ [(N.n .a,.lst [.int (f9 f.v x)])]]).isEmpty=false:=by cases h1<;>rfl
   simp only[↓bf,e1,e2,e5,e6,i1,i2,i3,cu,ln,hE,nP,Eo,nr,Jx,z1,l1,bg',dO1,aA,az]
  ·rw[hw];exact b3
 ·have yG:bD N.a≠bD N.c:=λz=>K.ac (by unfold bD at z;injection z with z1 _;injection z1)
  obtain⟨h',b1,b2,b3,b4,b5,b6⟩:=Iu (c+1) K (va:=f9 f.v x) (vs:=f.v.s) (vn:=f.v.n) (n:=b) (R1.app [cQ [(N.a,.lst [.int (f9 f.v x)]),(N.c,.lst [stP f.v.s,.int f.v.n])]]) (w1.ch (Ch.app h1 _ []) (by simp)) hj hw (g:=h1.length) dk (by show(if bD N.a=bD N.a then _ else _)=_;rw[if_pos rfl]) (by show(if bD N.a=bD N.c then _ else if bD N.c=bD N.c then _ else _)=_;rw[if_neg yG,if_pos rfl]) (by simp;lia)
  have i1:∀h,aJ h (fdP N G) (.int 1)=some (.ak [dH N .a,dH N .c]):=λh=>by
   show some (PV.ak ((par G.w).map (dH N)))=_;rw[hw];rfl
  refine gW _ h' ?_ b2 ?_ b4 b5 b6
  ·rw[oi];rw[show([x,N3.c].map λx=>PV.lst (mF f.v x))=[.lst [.int (f9 f.v x)],.lst [stP f.v.s,.int f.v.n]] by rw[aO,Wj x hx];rfl]at e2
   have bg':run aI (c+1+8) "begin" [.ref 2,.int (j:Int),.ref h1.length] (h1++[cQ [(N.n .a,.lst [.int (f9 f.v x)]),(N.n .c,.lst [stP f.v.s,.int f.v.n])]])=_:=b1;have z1:Hl (.ak [dH N .a,dH N .c]) (.lst [.lst [.int (f9 f.v x)],.lst [stP f.v.s,.int f.v.n]])=some [.ak [dH N .a,.lst [.int (f9 f.v x)]],.ak [dH N .c,.lst [stP f.v.s,.int f.v.n]]]:=rfl;have dd:=λv u=>dO2 (a:=N.n .a) (b:=N.n .c) (v:=v) (u:=u) K.ac
   have Eo:(h1++[cQ [(N.n .a,.lst [.int (f9 f.v x)]),(N.n .c,.lst [stP f.v.s,.int f.v.n])]]).isEmpty=false:=by cases h1<;>rfl
   simp only[↓bf,e1,e2,e5,e6,i1,i2,i3,cu,ln,hE,nP,Eo,nr,Jx,z1,l2,bg',dd,aA,az]
  ·rw[hw];exact b3
theorem cG.fl'(hR:px h N P fs cnt aU)(x:List PV):px (h.set 4 ⟨.lst,x⟩) N P x cnt aU :=
 ⟨by rw[aL (by decide)];exact hR.r,by rw[aL (by decide)];exact hR.nu,bI hR.fl,by rw[aL (by decide)];exact hR.sd⟩
theorem Bk(c:Nat)(K:aS N){b j:Nat}{t:Option N3}{as:List N3}(T:Tp h N P fs cnt aU n f F (.call j t as))(hP:IK N P){G:Fd}(hj:P[j]?=some G)(ca:iX G.w as)(Q4:fs.length<=3000)(W:Wd h (b+10)) :
  ∃h' m,run aI (c+11) "do_row" [.ref 2] h=some (.ok .aP,h')/\px h' N P ((fs++[.ref (n+8)])++[.ref (m+8)]) (cnt+1) aU/\jQ h' N G.w m j 0 (L4 f.v G.w as)/\Ch h h' [0,1,2,4]/\Wd h' b/\h.length<=m/\m+8<h'.length:=by
 obtain⟨h1,m,e1,R2,B1,c1,w1,l1,l2⟩:=Ep c K T hP hj ca Q4 W;have h5:5<h.length:=eV T.R.sd;have e0:=dP T.R.fl;have e2:=jU (c+9) T;have e4:∀h,aJ h (aT N (.call j t as)) (.int 0)=some (.str "call"):=λh=>rfl
 have hd:=ai T.R.r rfl;have hE:=fZ T.R.r;have nr:∀l,aj (.ref 2::l)=false:=km 2
 have ad:∀h,sE h (.int cnt) (.int 1)=some (.int (cnt+1)):=λh=>rfl
 have q6:=λρ=>mH (ρ:=ρ) (y:=cnt+1) R2.r
 have q7:=eW R2.r;have q8:=mI R2.r;have R3:=cG.iz R2 (cnt+1);have c4:=Ch.set (h:=h1) (n:=2) (EF (.ak (P.map (fdP N))) 0 3 (.lst (P.map λF=>Az N F.rows)) 4 5 (cnt+1))
 refine⟨_,m,?_,R3,jQ.ch B1 c4 (λa ha=>by rw[aW]at ha;lia),(c1.mono (by simp)).tr c4 (by simp),w1.ch c4 (by simp),l1,by rw[iq];exact l2⟩
 rw[gQ];simp only[↓bf,e0,e1,e2,e4,hd,hE,nr,ad,q6,q7,q8,aA,az]
end bG
set_option maxHeartbeats 4000000
namespace bG
open PySem L2 L2.U
variable {h:List ah} {N:Nm} {P:List Fd} {fs:List PV} {cnt:Int} {aU:List Int} {n:Nat} {f:Fr} {F:Fd} {r:Rw}
noncomputable abbrev Jy(m:Int)(p v:PV):ah:=⟨.ins "Box" ["number","pile","value"],[.int m,p,v]⟩
theorem Er{h:List ah}{i:Nat}{m:Int}{p v w:PV}{ρ:List (Option PV)}(e:h[i]?=some (Jy m p v)):eG eI eJ "pile" (.ref i) w ⟨ρ,h⟩=some ⟨ρ,h.set i (Jy m w v)⟩:=by
 rw[gm e (by kernel_rfl)]
 rfl
theorem Nx(c:CT){fi d gi:Nat}{j r t:Int}{Q:List PV}{x2:Option PV}:∀(X:List Nat) (g:List ah) (n:Nat) (x4:Option PV),Wd g (n+X.length)->g[fi]?=some (uf j d r)->g[gi]?=some (Ju Q t)->(∀x∈X,∃m p v,g[x]?=some (Jy m p v)) ->
  ∃g' y4,fg (cS 4) (dM c) (X.map .ref) ⟨[some (.ref 0),some (.ref fi),x2,some (.ref gi),x4],g⟩=some (.ok .nx,⟨[some (.ref 0),some (.ref fi),x2,some (.ref gi),y4],g'⟩)/\Ch g g' (1::X)/\Wd g' n/\(∀(i:Nat) (m:Int) (p v:PV),g[i]?=some (Jy m p v)->∃p',g'[i]?=some (Jy m p' v))
 | [],g,n,x4,W,_,_,_=>⟨g,x4,rfl,Ch.refl _ _,W,λi m p v e=>⟨p,e⟩⟩
 | x::X,g,n,x4,W,hf,hg,hx=>by
  rw[cz]at W;obtain⟨m,p,v,bx⟩:=hx x (by simp)
  obtain⟨nb,nt,_,h0,_,_⟩:=id W;obtain⟨es,h1,hl,W1⟩:=Wd.add (v:=.ak [.int j,.int r,.str "gone",.int m,.int t,.int (-1)]) (W.mono (k':=(n+X.length)+1) (by lia))
  have ap:=λρ v=>iU (ρ:=ρ) (v:=v) h1 hl
  obtain⟨g1,rZ⟩:∃g1,g1=g.set 1 ⟨.lst,es++[.ak [.int j,.int r,.str "gone",.int m,.int t,.int (-1)]]⟩:=⟨_,rfl⟩
  have ap:∀ρ,fH (dY eS) (.ref 1) [.ak [.int j,.int r,.str "gone",.int m,.int t,.int (-1)]] ⟨ρ,g⟩=some (.ok .aP,⟨ρ,g1⟩):=λρ=>by rw[rZ];exact ap ρ _
  rw[<-rZ]at W1;have c1:Ch g g1 [1]:=by rw[rZ];exact Ch.set _
  have Sx:∀{i:Nat} {cc:ah},g[i]?=some cc->(∀l,cc≠⟨.lst,l⟩)->i∉[1]:=λe n=>by
   rw[aW];exact ib e h1 (n _)
  have Wk:=c1.get bx (Sx bx λl z=>by cases z)
  have gp:=λρ=>Er (ρ:=ρ) (w:=.lst []) Wk
  obtain⟨g2,Jp⟩:∃g2,g2=g1.set x (Jy m (.lst []) v):=⟨_,rfl⟩
  rw[<-Jp]at gp;have c2:Ch g1 g2 [x]:=by rw[Jp];exact Ch.set _
  have xf:fi≠x:=ib (c1.get hf (Sx hf λl z=>by cases z)) Wk (by intro z;cases z)
  have xg:gi≠x:=ib (c1.get hg (Sx hg λl z=>by cases z)) Wk (by intro z;cases z)
  have x0:0≠x:=ib h0 bx (by intro z;cases z)
  have x1:1≠x:=ib h1 bx (by intro z;cases z)
  have k2:∀i m' p' v',g[i]?=some (Jy m' p' v')->∃q,g2[i]?=some (Jy m' q v'):=λi m' p' v' e=>by
   have e1:=c1.get e (Sx e λl z=>by cases z)
   by_cases hi:x=i
   ·subst hi;rw[Wk]at e1;cases e1;exact⟨_,by rw[Jp];exact bI Wk⟩
   ·exact⟨p',by rw[Jp,aL hi];exact e1⟩
  obtain⟨g',y4,e3,c3,w3,k3⟩:=Nx c (j:=j) (r:=r) (d:=d) (t:=t) (Q:=Q) (x2:=x2) X g2 n (some (.ref x)) (W1.ch c2 (by simp;exact⟨x0,x1⟩)) (c2.get (c1.get hf (Sx hf λl z=>by cases z)) (by simp;exact xf)) (c2.get (c1.get hg (Sx hg λl z=>by cases z)) (by simp;exact xg)) (λy hy=>by
   obtain⟨m',p',v',e⟩:=hx y (by simp[hy])
   obtain⟨q,e'⟩:=k2 _ _ _ _ e;exact⟨m',q,v',e'⟩)
  have d0:=ai h0 rfl;have d1:=ai h1 rfl;have df:=ai hf rfl;have dg:=ai hg rfl;have db:=ai bx rfl;have b1:dM c ⟨[some (.ref 0),some (.ref fi),x2,some (.ref gi),some (.ref x)],g⟩=some (.ok .nx,⟨[some (.ref 0),some (.ref fi),x2,some (.ref gi),some (.ref x)],g2⟩):=by
   refine bH ?_
   delta dM fN
   simp only[↓gY,d0,d1,df,dg,db,ap,gp]
  refine⟨g',y4,?_,?_,w3,λi m' p' v' e=>?_⟩
  ·rw[aO];exact fC (s1:=⟨[some (.ref 0),some (.ref fi),x2,some (.ref gi),some (.ref x)],g⟩) rfl b1 e3
  ·refine((c1.mono (by simp)).tr c2 (by simp)).tr c3 (λk hk _=>?_)
   simp only[aD]at hk ⊢;rcases hk with rfl | hk
   ·exact .inl rfl
   ·exact .inr (.inr hk)
  ·obtain⟨q,e'⟩:=k2 _ _ _ _ e;exact k3 _ _ _ _ e'
end bG
set_option maxHeartbeats 4000000
namespace bG
open PySem L2 L2.U
variable {h:List ah} {N:Nm} {P:List Fd} {fs:List PV} {cnt:Int} {aU:List Int} {n:Nat} {f:Fr} {F:Fd} {r:Rw}
noncomputable def L5:List (Nat×List Nat)->List Nat
 | []=>[]
 | e::G=>e.2++L5 G
theorem IL(c:CT){fi d:Nat}{j r:Int}{x2:Option PV}:∀(Gs:List (Nat×List Nat)) (g:List ah) (n:Nat) (x3 x4:Option PV),Wd g (n+(L5 Gs).length)->g[fi]?=some (uf j d r)->(∀e∈Gs,(∃t,g[e.1]?=some (Ju (e.2.map .ref) t))/\∀x∈e.2,∃m p v,g[x]?=some (Jy m p v)) ->
  ∃g' y3 y4,fg (cS 3) (dN c) (Gs.map λe=>.ref e.1) ⟨[some (.ref 0),some (.ref fi),x2,x3,x4],g⟩=some (.ok .nx,⟨[some (.ref 0),some (.ref fi),x2,y3,y4],g'⟩)/\Ch g g' (1::L5 Gs)/\Wd g' n
 | [],g,n,x3,x4,W,_,_=>⟨g,x3,x4,rfl,Ch.refl _ _,W⟩
 | e::Gs,g,n,x3,x4,W,hf,hG=>by
  obtain⟨⟨t,ht⟩,hx⟩:=hG e (by simp)
  have hb:L5 (e::Gs)=e.2++L5 Gs:=rfl;rw[hb,bR]at W;obtain⟨g1,y4,e1,c1,w1,k1⟩:=Nx c (x2:=x2) e.2 g (n+(L5 Gs).length) x4 (W.mono (by lia)) hf ht hx
  obtain⟨es,h1⟩:=W.l1;have no:∀{i:Nat} {cc:ah},g[i]?=some cc->(∀l,cc≠⟨.lst,l⟩)->(∀m p v,cc≠Jy m p v)->i∉1::e.2:=λ{i cc} ei n1 n2 z=>by
   rcases aD.mp z with rfl | z
   ·rw[h1]at ei;exact n1 _ (bE ei).symm
   ·obtain⟨m,p,v,ex⟩:=hx _ z;rw[ei]at ex;exact n2 m p v (bE ex)
  obtain⟨g',y3,y4',e2,c2,w2⟩:=IL c (x2:=x2) Gs g1 n (some (.ref e.1)) y4 w1 (c1.get hf (no hf (λl z=>by cases z) λm p v z=>by cases z)) (λe' he'=>by
   obtain⟨⟨t',ht'⟩,Ar⟩:=hG e' (by simp[he'])
   refine⟨⟨t',c1.get ht' (no ht' (λl z=>by cases z) λm p v z=>by cases z)⟩,λx hx=>?_⟩
   obtain⟨m,p,v,ex⟩:=Ar x hx;obtain⟨p',ep⟩:=k1 _ _ _ _ ex;exact⟨m,p',v,ep⟩)
  have dg:=ai ht rfl;refine⟨g',y3,y4',?_,?_,w2⟩
  ·rw[aO]
   revert e1
   delta dM fN
   intro e1;refine fC (s1:=⟨[some (.ref 0),some (.ref fi),x2,some (.ref e.1),x4],g⟩) rfl (?_:dN c _=some (.ok .nx,⟨[some (.ref 0),some (.ref fi),x2,some (.ref e.1),y4],g1⟩)) e2;refine bH ?_
   delta dN fN
   simp only[↓gY,dg,e1]
  ·rw[hb];refine(c1.mono ?_).tr c2 ?_
   ·intro m hm;simp only[aD,b8]at hm ⊢;rcases hm with hm | hm
    ·exact .inl hm
    ·exact .inr (.inl hm)
   ·intro m hm _;simp only[aD,b8]at hm ⊢;rcases hm with hm | hm
    ·exact .inl hm
    ·exact .inr (.inr hm)
def bkP(V:Vs):Option N3->PV
 | none=>.aP
 | some x=>.lst (mF V x)
noncomputable def Es(w:Bool):List N3:=if w=true then [.a,.c,.b]else [.a,.b,.c]
theorem rM(c:Nat)(K:aS N)(T:Tp h N P fs cnt aU n f F r):run aI (c+2) "owned_by" [.ref 2,.ref (n+8)] h=some (.ok (.lst ((Es F.w).map λx=>.ref (Nr F.w n x))),h):=by
 have e1:=ai T.R.r rfl;have e2:=ai T.B.f rfl;have e3:∀h,aJ h (.ak (P.map (fdP N))) (.int (f.j:Int))=some (fdP N F):=λh=>atI_nat (by rw[bK,T.P];rfl)
 have e5:=dc c N;have hE:=fZ T.R.r;have l3:∀a b d:PV,[a,b,d].length<=4000000:=λ_ _ _=>by simp
 have Xl:=λx=>rh T.B.d (Sw K F.w n (raw f.v) x)
 cases hw:F.w
 ·rw[hw]at Xl;have i1:∀h,aJ h (fdP N F) (.int 1)=some (.ak [dH N .a]):=λh=>by
   show some (PV.ak ((par F.w).map (dH N)))=_;rw[hw];rfl
  have i3:∀h,aJ h (fdP N F) (.int 3)=some (.ak [dH N .b,dH N .c]):=λh=>by
   show some (PV.ak ((QN F.w).map (dH N)))=_;rw[hw];rfl
  rw[mB];simp only[↓bf,e1,e2,e3,e5,i1,i3,hE,l3,Xl,iL,aj,noRef,cb,bW,kT];rfl
 ·rw[hw]at Xl;have i1:∀h,aJ h (fdP N F) (.int 1)=some (.ak [dH N .a,dH N .c]):=λh=>by
   show some (PV.ak ((par F.w).map (dH N)))=_;rw[hw];rfl
  have i3:∀h,aJ h (fdP N F) (.int 3)=some (.ak [dH N .b]):=λh=>by
   show some (PV.ak ((QN F.w).map (dH N)))=_;rw[hw];rfl
  rw[mB];simp only[↓bf,e1,e2,e3,e5,i1,i3,hE,l3,Xl,iL,aj,noRef,cb,bW,kT];rfl
def Sy(w:Bool)(n:Nat)(V:Vs):List (Nat×List Nat):=(Es w).map λx=>(Nr w n x,(El w n V x).map (·.1))
theorem Rm(w:Bool)(n:Nat)(V:Vs):(L5 (Sy w n V)).length=4/\∀m∈L5 (Sy w n V),m∈jV n:=by
 cases w<;>simp[L5,Sy,Es,El,EG,jV]
theorem CQ(c:Nat)(K:aS N){b:Nat}{t:Option N3}(T:Tp h N P fs cnt aU n f F (.bh t))(W:Wd h (b+6)):∃h',run aI (c+7) "given_back" [.ref 2,.ref (n+8),aT N (.bh t)] h=some (.ok (bkP f.v t),h')/\Ch h h' (jV n)/\Wd h' b:=by
 have go:∀(g:List ah),Ch h g [1]->Wd g (b+4)->∃g',run aI (c+6) "Boxes.let_go" [.ref 0,.ref (n+8),.lst ((Es F.w).map λx=>.ref (Nr F.w n x))] g=some (.ok .aP,g')/\Ch g g' (jV n)/\Wd g' b:=λg cg wg=>by
  have Bg:=T.B.Nt W.l1 cg;have⟨bl,bm⟩:=Rm F.w n f.v;obtain⟨g',y3,y4,e1,c1,w1⟩:=IL (run aI (c+5)) (x2:=some (.lst ((Es F.w).map λx=>.ref (Nr F.w n x)))) (Sy F.w n f.v) g b none none (by rw[bl];exact wg) Bg.f (λe he=>by
   obtain⟨x,_,rfl⟩:=dR.mp he;obtain⟨t,a1,a2⟩:=Bg.p _ (wt (Sw K F.w n (raw f.v) x));refine⟨⟨t,?_⟩,λi hi=>?_⟩
   ·have a1:g[Nr F.w n x]?=some (Ju (nO (EG F.w n (raw f.v) x)) t):=a1;rw[show((El F.w n f.v x).map (·.1)).map PV.ref=nO (EG F.w n (raw f.v) x) by simp[nO,El]]
    exact a1
   ·obtain⟨y,hy,rfl⟩:=dR.mp hi;obtain⟨m,hm⟩:=a2 y hy;exact⟨m,_,_,hm⟩)
  revert e1
  rw[show(Sy F.w n f.v).map (λe=>PV.ref e.1)=(Es F.w).map λx=>.ref (Nr F.w n x) by simp[Sy]]
  delta dN fN
  intro e1;refine⟨g',?_,c1.mono (λm hm=>?_),w1⟩
  ·rw[nK];simp only[↓bf,e1]
  ·rcases aD.mp hm with rfl | hm
   ·simp[jV]
   ·exact bm m hm
 have e1:=j7 (c+5) T;have e4:=λL=>W.mt L "touch" (by kernel_rfl)
 have Wg:=λL=>W.mt L "let_go" (by kernel_rfl)
 have hd:=ai T.R.r rfl;have hE:=fZ T.R.r;have nr:∀l,aj (.ref 2::l)=false:=km 2
 cases t with
 | none =>
  obtain⟨g',e3,c3,w3⟩:=go h (Ch.refl _ _) (W.mono (by lia))
  have e2:=rM (c+4) K T;refine⟨g',?_,c3,w3⟩;rw[jL];simp only[↓bf,e1,e2,e3,Wg,hd,hE,nr,aA,az];rfl
 | some x =>
  obtain⟨h1,e5,c1,w1⟩:=pd c (k:=f.r) (n:=b+4) T.B (gU K F.w n f.v x "read" "") (.inl rfl) (IF x) (λ_=>jS K F.w n f.v _) W
  rw[gT K,wH]at e5;have e5:run aI (c+6) "Boxes.touch" [.ref 0,.ref (n+8),c8 f.r (nR N x)] h=some (.ok (.lst (mF f.v x)),h1):=e5;obtain⟨g',e3,c3,w3⟩:=go h1 c1 w1;have R1:=T.R.ch c1 (by simp)
  have T1:Tp h1 N P fs cnt aU n f F (.bh (some x)):=⟨R1,T.B.Nt W.l1 c1,T.P,T.r⟩;have e2:=rM (c+4) K T1;have Jx:=ai R1.r rfl;have nP:=fZ R1.r;have m1:=λL=>w1.mt L "let_go" (by kernel_rfl)
  refine⟨g',?_,(c1.mono (by simp[jV])).tr c3 (λ_ h _=>h),w3⟩
  rw[jL];simp only[↓bf,e1,e2,e3,e4,e5,m1,hd,Jx,hE,nP,nr,aA,az];rfl
end bG
set_option maxHeartbeats 4000000
namespace bG
open PySem L2 L2.U
variable {h:List ah} {N:Nm} {P:List Fd} {fs:List PV} {cnt:Int} {aU:List Int} {n:Nat} {f:Fr} {F:Fd} {r:Rw}
def Ny(U V:Vs)(y:N3):N3->Vs
 | .a=>{U with a:=f9 V y}
 | .b=>{U with b:=f9 V y}
 | .c=>{U with s:=V.s,n:=V.n}
def mJ(x y:N3):Prop:=x=.c↔y=.c
theorem IM(N:Nm)(w:Bool)(m:Nat)(U V:Vs){x y:N3}(hk:mJ x y):Q5 (Hn N w m (raw U)) (El w m U x) (mF V y)=Hn N w m (raw (Ny U V y x)):=by
 unfold mJ at hk;cases w<;>cases x<;>cases y<;>simp at hk<;>simp[Q5,Hn,newV,El,EG,raw,Ny,mF,f9]<;>lia
theorem yH{w:Bool}{m:Nat}{U V:Vs}{x y:N3}(hk:mJ x y):(mF V y).length=(El w m U x).length:=by
 unfold mJ at hk;cases w<;>cases x<;>cases y<;>simp at hk<;>rfl
theorem Rq{w:Bool}{m:Nat}{U:Vs}{x:N3}:∀z∈(El w m U x).map (·.1),z∈jV m:=by
 cases w<;>cases x<;>simp[El,EG,jV]
def IP(f:Fr)(V:Vs)(y:Option N3)(x:Option N3):Fr:=⟨f.j,f.r+1,match x,y with | some x,some y=>Ny f.v V y x | _,_=>f.v⟩
def ie:Option N3->Option N3->Prop
 | none,none=>True
 | some x,some y=>mJ x y
 | _,_=>False
theorem CS{h:List ah}{i d:Nat}{j x:Int}(e:h[i]?=some (uf j d x)):qO "row" (.ref i) h=some (("Frame":Str),PV.int x):=by
 unfold qO;rw[ai e rfl];rfl
theorem Rt(c:Nat)(K:aS N){b j:Nat}{t y:Option N3}{as:List N3}{V:Vs}(T:Tp h N P fs cnt aU n f F (.call j t as))(hk:ie t y)(hn:6<=n)(W:Wd h (b+2)) :
  ∃h',run aI (c+7) "take_back" [.ref 2,.ref (n+8),bkP V y] h=some (.ok .aP,h')/\Q6 h' N F.w n (IP f V y t)/\Ch h h' (jV n++[n+8])/\Wd h' b:=by
 have e1:=j7 (c+5) T;have hd:=ai T.R.r rfl;have hE:=fZ T.R.r;have nr:∀l,aj (.ref 2::l)=false:=km 2
 have ad:∀h,sE h (.int (f.r:Int)) (.int 1)=some (.int ((f.r+1:Nat):Int)):=λh=>rfl
 cases t with
 | none =>
  cases y with
  | some y=>exact absurd hk id
  | none =>
   have la:∀h,aJ h (.lst ((bZ N (.call j none as)).map (c8 f.r))) (.int (-1))=some (c8 f.r yu):=λh=>atI_last (by simp[bZ])
   have q5:=λρ=>pA (ρ:=ρ) (x:=((f.r+1:Nat):Int)) T.B.f
   have q7:=eW T.B.f;have q8:=CS T.B.f;refine⟨_,?_,jQ.row T.B (f.r+1),(Ch.set _).mono (by simp),(W.mono (by lia)).ch (Ch.set _) (by simp <;> lia)⟩
   rw[kD];simp only[↓bf,e1,la,hd,hE,nr,ad,q5,q7,q8,aA,az]
 | some x =>
  cases y with
  | none=>exact absurd hk id
  | some y =>
   have hk:mJ x y:=hk;have la:∀h,aJ h (.lst ((bZ N (.call j (some x) as)).map (c8 f.r))) (.int (-1))=some (c8 f.r (QP N "fill" x)):=λh=>atI_last (by simp[bZ])
   have w1:∀h,aJ h (c8 f.r (QP N "fill" x)) (.int 1)=some (.str "fill"):=λh=>rfl
   have e4:=λL=>W.mt L "touch" (by kernel_rfl)
   have ft:=gU K F.w n f.v x "fill" "";obtain⟨g,e2,c2,w2⟩:=pd c (k:=f.r) (n:=b) T.B ft (.inr (.inl rfl)) (IF x) (λz=>absurd rfl z) W
   have Rg:=T.R.ch c2 (by simp)
   have Bg:=T.B.Nt W.l1 c2;have Wg:=λL=>w2.mt L "store" (by kernel_rfl)
   obtain⟨g1,e3,c3,B1⟩:=wG (c+4) (k:=f.r) (W:=mF V y) Bg ft (by rw[gT K];exact yH hk)
   rw[gT K]at c3 B1;rw[IM N F.w n f.v V hk]at B1;have e3:run aI (c+6) "Boxes.store" [.ref 0,.ref (n+8),c8 f.r (QP N "fill" x),.lst (mF V y)] g=some (.ok .aP,g1):=e3;have e2:run aI (c+6) "Boxes.touch" [.ref 0,.ref (n+8),c8 f.r (QP N "fill" x)] h=some (.ok _,g):=e2;have B1:Q6 g1 N F.w n ⟨f.j,f.r,Ny f.v V y x⟩:=B1;have pa:=Rq (w:=F.w) (m:=n) (U:=f.v) (x:=x);have c3:Ch g g1 (jV n):=c3.mono pa;have pb:∀z∈(El F.w n f.v x).map (·.1),n<z:=by cases F.w<;>cases x<;>simp[El,EG]
   have w3:Wd g1 b:=by
    obtain⟨g2,Hs,c3',_⟩:=wG (c+4) (k:=f.r) (W:=mF V y) Bg ft (by rw[gT K];exact yH hk)
    have Hs:run aI (c+6) "Boxes.store" [.ref 0,.ref (n+8),c8 f.r (QP N "fill" x),.lst (mF V y)] g=some (.ok .aP,g2):=Hs;rw[e3]at Hs;cases Hs;rw[gT K]at c3';exact w2.ch c3' ⟨λz=>by have:=pb _ z;lia,λz=>by have:=pb _ z;lia⟩
   have hd2:=ai Rg.r rfl;have hEg:=fZ Rg.r;have q5:=λρ=>pA (ρ:=ρ) (x:=((f.r+1:Nat):Int)) B1.f
   have q7:=eW B1.f;have q8:=CS B1.f;refine⟨_,?_,jQ.row B1 (f.r+1),((c2.mono (by simp[jV])).tr (c3.mono (by simp;intro a ha;exact .inl ha)) (λ_ h _=>h)).tr (Ch.set _) (by simp),w3.ch (Ch.set _) (by simp <;> lia)⟩
   rw[kD];simp only[↓bf,bkP,e1,e2,e3,e4,Wg,la,w1,hd,hd2,hE,hEg,nr,ad,q5,q7,q8,aA,az]
theorem pop_at{h:List ah}{i:Nat}{fs:List PV}{p:PV}{ρ:List (Option PV)}(e:h[i]?=some ⟨.lst,fs++[p]⟩):fH qQ (.ref i) [] ⟨ρ,h⟩=some (.ok p,⟨ρ,h.set i ⟨.lst,fs⟩⟩):=by
 show((kf h (.ref i)).bind λc=>(qQ c.2 []).map λr=>_)=_
 rw[dO e rfl];show((((fs++[p])[(fs++[p]).length-1]?).map λq=>((⟨.lst,(fs++[p]).dropLast⟩:ah),q)).map λr=>_)=_
 rw[show(fs++[p])[(fs++[p]).length-1]?=some p by simp,List.dropLast_concat]
 rfl
theorem rN{h:List ah}{i:Nat}{fs:List PV}(e:h[i]?=some ⟨.lst,fs⟩):lq h (.ref i)=some (!fs.isEmpty):=by
 have d:=ai e rfl;simp only[lq,d]
theorem IQ{n:Nat}(hn:6<=n):2∉jV n/\3∉jV n/\4∉jV n/\5∉jV n:=by simp[jV];omega
theorem yI(c:Nat)(K:aS N){b:Nat}{t:Option N3}(T:Tp h N P [] cnt aU n f F (.bh t))(hn:6<=n)(W:Wd h (b+6)) :
  ∃h',run aI (c+11) "do_row" [.ref 2] h=some (.ok .aP,h')/\px h' N P [] (cnt+1) aU/\Wd h' b:=by
 have e0:=dP T.R.fl;have e2:=jU (c+9) T;have e4:∀h,aJ h (aT N (.bh t)) (.int 0)=some (.str "give"):=λh=>rfl
 obtain⟨g,e1,c1,w1⟩:=CQ (c+2) K T W;have Rg:=T.R.ch c1 (IQ hn);have hd:=ai T.R.r rfl;have hdg:=ai Rg.r rfl;have Wi:=ai Rg.fl rfl;have hE:=fZ T.R.r;have nr:∀l,aj (.ref 2::l)=false:=km 2
 have ad:∀h,sE h (.int cnt) (.int 1)=some (.int (cnt+1)):=λh=>rfl
 have p1:=λρ=>pop_at (ρ:=ρ) Rg.fl
 have R1:=cG.fl' Rg [];obtain⟨h1,Wl⟩:∃h1,h1=g.set 4 ⟨.lst,[]⟩:=⟨_,rfl⟩
 rw[<-Wl]at p1 R1;have Jx:=ai R1.r rfl;have hd2:=ai R1.fl rfl;have q6:=λρ=>mH (ρ:=ρ) (y:=cnt+1) R1.r
 have q7:=eW R1.r;have q8:=mI R1.r;have g1:run aI (c+10) "do_give" [.ref 2,.ref (n+8),aT N (.bh t)] h=some (.ok .aP,h1):=by
  rw[oj];have tr:lq h1 (.ref 4)=some false:=rN R1.fl;simp only[↓bf,e1,p1,hd,hdg,Jx,hd2,Wi,hE,nr,tr,aA,az]
 have c4:=Ch.set (h:=h1) (n:=2) (EF (.ak (P.map (fdP N))) 0 3 (.lst (P.map λF=>Az N F.rows)) 4 5 (cnt+1))
 refine⟨_,?_,cG.iz R1 (cnt+1),((show Wd h1 b by rw[Wl];exact w1.ch (Ch.set _) (by simp))).ch c4 (by simp)⟩
 rw[gQ];simp only[↓bf,e0,e2,e4,g1,hd,hE,nr,ad,q6,q7,q8,aA,az]
theorem yJ(c:Nat)(K:aS N){b:Nat}{t u:Option N3}{j m:Nat}{as:List N3}{g:Fr}{G:Fd}(T:Tp h N P (fs++[.ref (m+8)]) cnt aU n f F (.bh t))(B:Q6 h N G.w m g)(hG:P[g.j]?=some G)(hr:G.rows[g.r]?=some (.call j u as))(hk:ie u t)(hm:6<=m)(hmn:m+8<n)(W:Wd h (b+8)) :
  ∃h',run aI (c+11) "do_row" [.ref 2] h=some (.ok .aP,h')/\px h' N P (fs++[.ref (m+8)]) (cnt+1) aU/\Q6 h' N G.w m (IP g f.v t u)/\Ch h h' (wJ m++jV n)/\Wd h' b:=by
 have e0:=dP T.R.fl;have e2:=jU (c+9) T;have e4:∀h,aJ h (aT N (.bh t)) (.int 0)=some (.str "give"):=λh=>rfl
 obtain⟨h0,e1,c0,w0⟩:=CQ (c+2) K (b:=b+2) T W;have R0:=T.R.ch c0 (IQ (by lia))
 have B0:Q6 h0 N G.w m g:=by
  refine oT.ch B (h':=h0) (A:=jV n) c0 ?_ ?_ (λe he=>?_)
  ·simp[jV];lia
  ·simp[jV];lia
  ·have:=nT e he;refine⟨by simp[jV];lia,λx hx=>?_⟩
   have:=(nT e he).2 x hx;simp[jV];lia
 have hd:=ai T.R.r rfl;have hd0:=ai R0.r rfl;have Wi:=ai R0.fl rfl;have hE:=fZ T.R.r;have nr:∀l,aj (.ref 2::l)=false:=km 2
 have ad:∀h,sE h (.int cnt) (.int 1)=some (.int (cnt+1)):=λh=>rfl
 have p1:=λρ=>pop_at (ρ:=ρ) R0.fl
 have R1:=cG.fl' R0 (fs++[.ref (m+8)]);obtain⟨h1,Wl⟩:∃h1,h1=h0.set 4 ⟨.lst,fs++[.ref (m+8)]⟩:=⟨_,rfl⟩
 rw[<-Wl]at p1 R1;have c1:Ch h0 h1 [4]:=by rw[Wl];exact Ch.set _
 have B1:Q6 h1 N G.w m g:=jQ.ch B0 c1 (by simp <;> lia)
 have T1:Tp h1 N P fs cnt aU m g G (.call j u as):=⟨R1,B1,hG,hr⟩;have w1:=w0.ch c1 (by simp)
 have Jx:=ai R1.r rfl;have hd2:=ai R1.fl rfl;have nP:=fZ R1.r;have fl1:=dP R1.fl;obtain⟨h2,t1,t2,t3,w2⟩:=Rt (c+2) K (V:=f.v) T1 hk hm w1;have R2:px h2 N P (fs++[.ref (m+8)]) cnt aU:=R1.ch t3 (by simp[jV];omega)
 have q6:=λρ=>mH (ρ:=ρ) (y:=cnt+1) R2.r
 have q7:=eW R2.r;have q8:=mI R2.r;have ne:(fs++[PV.ref (m+8)]).isEmpty=false:=by cases fs<;>rfl
 have g1:run aI (c+10) "do_give" [.ref 2,.ref (n+8),aT N (.bh t)] h=some (.ok .aP,h2):=by
  rw[oj];have tr:lq h1 (.ref 4)=some true:=by rw[rN R1.fl,ne];rfl
  simp only[↓bf,e1,p1,hd,hd0,Jx,hd2,Wi,hE,nP,nr,tr,fl1,t1,ne,aA,az]
 have c4:=Ch.set (h:=h2) (n:=2) (EF (.ak (P.map (fdP N))) 0 3 (.lst (P.map λF=>Az N F.rows)) 4 5 (cnt+1))
 refine⟨_,?_,cG.iz R2 (cnt+1),jQ.ch t2 c4 (by simp <;> lia),?_,w2.ch c4 (by simp)⟩
 ·rw[gQ];simp only[↓bf,e0,e2,e4,g1,hd,hE,nr,ad,q6,q7,q8,aA,az]
 ·have k0:Ch h h0 (wJ m++jV n):=c0.mono λx hx=>b8.mpr (.inr hx)
  have k1:=k0.tr c1 (λx hx _=>b8.mpr (.inl (by rw[aW.mp hx];simp[wJ])))
  have k2:=k1.tr t3 (λx hx _=>b8.mpr (.inl (by simp only[jV,b8,aD,bu,bz]at hx;simp only[wJ,aD,bu,bz];lia)))
  exact k2.tr c4 (λx hx _=>b8.mpr (.inl (by rw[aW.mp hx];simp[wJ])))
end bG
set_option maxHeartbeats 4000000
namespace bG
open PySem L2 L2.U
noncomputable def ee(P:List Fd)(f:Fr):Option Rw:=(P[f.j]?).bind λF=>F.rows[f.r]?
noncomputable def IS(P:List Fd)(j:Nat):Bool:=((P[j]?).map λF=>F.w).getD false
noncomputable def Wm:Option Rw->Option N3
 | some (.call _ t _)=>t
 | _=>none
def gq(N:Nm)(P:List Fd):Nat->Nat->List Fr->List Int->Str×List Int×Nat
 | 0,cnt,_,sd=>("more",sd,cnt)
 | _+1,cnt,[],sd=>("done",sd,cnt)
 | k+1,cnt,f::fs,sd=>match ee P f with
  | none=>("",sd,cnt)
  | some r=>match r with
   | .call j t as=>if fs.length=11 then("deep",sd,cnt)else gq N P k (cnt+1) (⟨j,0,jd N f.v (IS P j) as⟩::f::fs) sd
   | .bh t=>match fs with
    | []=>("done",sd,cnt+1)
    | g::gs=>gq N P k (cnt+1) (IP g f.v t (Wm (ee P g))::gs) sd
   | r=>gq N P k (cnt+1) (⟨f.j,mG f.v f.r r,vR N f.v r⟩::fs) (sd++r6 f.v r)
structure CU (N:Nm) (V:Vs):Prop where
 z:V.s.length=N.z
 a:Bd V.a
 b:Bd V.b
 n:Bd V.n
 s:∀x∈V.s,Bd x
def yV(N:Nm):Op->Prop
 | .num i=>Bd i
 | .sp (.i (.at i))=>i<N.z
 | .sp .s=>False
 | _=>True
def Ru(N:Nm):Sp->Prop
 | .i (.at i)=>i<N.z
 | .s=>False
 | _=>True
def Xm(N:Nm)(P:List Fd):Rw->Prop
 | .put s o=>Ru N s/\yV N o
 | .fill o=>yV N o
 | .set s _ o p=>Ru N s/\yV N o/\yV N p
 | .jh o=>yV N o
 | .call j t as=>∃G,P[j]?=some G/\iX G.w as/\∀u,Rw.bh u∈G.rows->ie t u
 | .ifs o p _=>yV N o/\yV N p
 | _=>True
def NxS(m k:Nat):Rw->Prop
 | .go j=>j<m
 | .ifs _ _ j=>j<m/\k+1<m
 | .bh _=>True
 | _=>k+1<m
structure jI (N:Nm) (P:List Fd):Prop where
 p:IK N P
 r:∀F∈P,∀r∈F.rows,Xm N P r
 x:∀F∈P,∀(k:Nat) r,F.rows[k]?=some r->NxS F.rows.length k r
 l:∀F∈P,1<=F.rows.length/\F.rows.length<=100
 i:∀F∈P,(∃b,F.rows[0]?=some (.put .b (.num b))/\Bd b)/\(F.w=false->(∃s,F.rows[1]?=some (.fill (.num s))/\Bd s)/\∃n,F.rows[2]?=some (.put .n (.num n))/\Bd n)
theorem mK{N:Nm}{V:Vs}(K:aS N)(v:CU N V){o:Op}(h:yV N o):A9 V o/\Bd (opV V o):=by
 have bdi:∀i,i<V.s.length->Bd (V.s.getD i 0):=λi hi=>by
  rw[kH,eu hi];exact v.s _ (zB _)
 have z1:1<=V.s.length:=by rw[v.z];exact K.z1
 cases o with
 | num i=>exact⟨trivial,h⟩
 | sp s =>
  cases s with
  | a=>exact⟨trivial,v.a⟩
  | b=>exact⟨trivial,v.b⟩
  | n=>exact⟨trivial,v.n⟩
  | s=>exact absurd h id
  | i x =>
   cases x with
   | «at» i =>
    have hi:i<V.s.length:=by rw[v.z];exact h
    exact⟨hi,bdi i hi⟩
   | a=>exact⟨trivial,bdi _ (mod_lt z1)⟩
   | b=>exact⟨trivial,bdi _ (mod_lt z1)⟩
theorem iY(x:Int):Bd (x%wC):=⟨fV _ (by decide +kernel),jm _ (by decide +kernel)⟩
theorem Rv{N:Nm}{V:Vs}{P:List Fd}(K:aS N)(v:CU N V){r:Rw}(h:Xm N P r):Bd (oV V r):=by
 cases r with
 | put s o=>exact(mK K v h.2).2
 | fill o=>exact(mK K v h).2
 | set s g o p=>cases g<;>exact iY _
 | _=>exact(show Bd 0 from⟨by decide,by decide +kernel⟩)
theorem L6{N:Nm}{V:Vs}(v:CU N V){x:Int}(hx:Bd x)(s:Sp):CU N (jR N V x s):=by
 cases s with
 | a=>exact⟨v.z,hx,v.b,v.n,v.s⟩
 | b=>exact⟨v.z,v.a,hx,v.n,v.s⟩
 | n=>exact⟨v.z,v.a,v.b,hx,v.s⟩
 | s=>exact⟨by simp[jR],v.a,v.b,v.n,λy hy=>by rw[pE hy];exact hx⟩
 | i i=>exact⟨by simp[jR,v.z],v.a,v.b,v.n,λy hy=>by
   rcases List.mem_or_eq_of_mem_set hy with hy | rfl
   ·exact v.s y hy
   ·exact hx⟩
theorem Rx{N:Nm}{V:Vs}{P:List Fd}(K:aS N)(v:CU N V){r:Rw}(h:Xm N P r):CU N (vR N V r):=by
 unfold vR;split
 ·exact L6 v (Rv K v h) _
 ·exact v
theorem Nz{N:Nm}{V:Vs}{P:List Fd}(K:aS N)(v:CU N V){r:Rw}(h:Xm N P r)(hg:∀t,r≠.bh t)(hc:∀j t as,r≠.call j t as):uq N V r:=by
 have sp:∀s,Ru N s->Bb V s:=λs hs=>by
  cases s
  case i x =>
   cases x
   case «at» i=>show i<V.s.length;rw[v.z];exact hs
   all_goals trivial
  case s=>exact hs
  all_goals trivial
 refine⟨?_,?_,hg,hc⟩
 ·intro o ho;cases r with
  | put s q=>rw[aW.mp ho];exact mK K v h.2
  | fill q=>rw[aW.mp ho];exact mK K v h
  | set s g p q =>
   rcases aD.mp ho with rfl | ho
   ·exact mK K v h.2.1
   ·rw[aW.mp ho];exact mK K v h.2.2
  | jh q=>rw[aW.mp ho];exact mK K v h
  | ifs p q k =>
   rcases aD.mp ho with rfl | ho
   ·exact mK K v h.1
   ·rw[aW.mp ho];exact mK K v h.2
  | _=>cases ho
 ·intro s hs;cases r with
  | put q o=>cases hs;exact .inl ⟨⟨o,rfl⟩,sp _ h.1⟩
  | fill o=>cases hs;exact .inr (.inl ⟨⟨o,rfl⟩,rfl⟩)
  | set q g o p=>cases hs;exact .inr (.inr ⟨⟨g,o,p,rfl⟩,sp _ h.1⟩)
  | _=>cases hs
end bG
set_option maxHeartbeats 4000000
namespace bG
open PySem L2 L2.U
structure EH (w:Bool) (r:Nat) (A:Ra) (V:Vs):Prop where
 a:A.a=.int V.a
 b:A.b=.int V.b\/r=0
 s:A.s=stP V.s\/(w=false/\r<=1)
 n:A.n=.int V.n\/(w=false/\r<=2)
theorem EH.raw(w:Bool)(r:Nat)(V:Vs):EH w r (raw V) V:=⟨rfl,.inl rfl,.inl rfl,.inl rfl⟩
theorem EH.full{w:Bool}{r:Nat}{A:Ra}{V:Vs}(S:EH w r A V)(h0:r≠0)(h1:w=false->2<r):A=bG.raw V:=by
 obtain⟨a,b,s,n⟩:=A;have ea:a=.int V.a:=S.a;have eb:b=.int V.b:=by rcases S.b with h | h;exact h;exact absurd h h0
 have es:s=stP V.s:=by rcases S.s with h | ⟨h,h'⟩;exact h;have:=h1 h;lia
 have en:n=.int V.n:=by rcases S.n with h | ⟨h,h'⟩;exact h;have:=h1 h;lia
 rw[ea,eb,es,en];rfl
def Jz(h:List ah)(N:Nm)(P:List Fd):Nat->List Nat->List Fr->Prop
 | _,[],[]=>True
 | b,n::ns,f::fs=>(6<=n/\n+8<b)/\(∃F A,P[f.j]?=some F/\jQ h N F.w n f.j f.r A/\EH F.w f.r A f.v)/\Jz h N P n ns fs
 | _,_,_=>False
theorem Jz.ch{h h':List ah}{N:Nm}{P:List Fd}{A:List Nat}(c:Ch h h' A):∀{ns:List Nat} {fs:List Fr} {b:Nat},(∀a∈A,a<6\/b<=a)->Jz h N P b ns fs->Jz h' N P b ns fs
 | [],[],_,_,_=>trivial
 | n::ns,f::fs,b,hA,⟨h1,⟨F,A0,h2,h3,h5⟩,h4⟩=>⟨h1,⟨F,A0,h2,jQ.ch h3 c λa ha=>by have:=hA a ha;lia,h5⟩,h4.ch c λa ha=>by have:=hA a ha;lia⟩
 | [],_::_,_,_,h=>h.elim
 | _::_,[],_,_,h=>h.elim
theorem Jz.len{h:List ah}{N:Nm}{P:List Fd}:∀{ns:List Nat} {fs:List Fr} {b:Nat},Jz h N P b ns fs->ns.length=fs.length
 | [],[],_,_=>rfl
 | n::ns,f::fs,b,⟨_,_,h4⟩=>by simp[h4.len]
 | [],_::_,_,h=>h.elim
 | _::_,[],_,h=>h.elim
theorem Jz.mono{h:List ah}{N:Nm}{P:List Fd}:∀{ns:List Nat} {fs:List Fr} {b b':Nat},b<=b'->Jz h N P b ns fs->Jz h N P b' ns fs
 | [],[],_,_,_,_=>trivial
 | n::ns,f::fs,b,b',hb,⟨h1,h2,h4⟩=>⟨⟨h1.1,by lia⟩,h2,h4⟩
 | [],_::_,_,_,_,h=>h.elim
 | _::_,[],_,_,_,h=>h.elim
def ig(N:Nm)(P:List Fd):Option Nat->List Fr->Prop
 | _,[]=>True
 | a,f::fs=>CU N f.v/\(∃r,ee P f=some r/\(∀j,a=some j->∃t as,r=.call j t as))/\ig N P (some f.j) fs
noncomputable def ij(ns:List Nat):List PV:=ns.reverse.map λn=>.ref (n+8)
theorem dm(n:Nat)(ns:List Nat):ij (n::ns)=ij ns++[.ref (n+8)]:=by simp[ij]
structure sL (h:List ah) (N:Nm) (P:List Fd) (ns:List Nat) (fs:List Fr) (cnt:Nat) (sd:List Int) (room:Nat):Prop where
 r:px h N P (ij ns) (cnt:Int) sd
 s:Jz h N P h.length ns fs
 w:Wd h room
def cP(N:Nm)(P:List Fd)(f:Fr)(fs:List Fr)(sd:List Int)(r:Rw):List Fr×List Int:=match r with
 | .call j t as=>(⟨j,0,jd N f.v (IS P j) as⟩::f::fs,sd)
 | .bh t=>match fs with
  | []=>([],sd)
  | g::gs=>(IP g f.v t (Wm (ee P g))::gs,sd)
 | r=>(⟨f.j,mG f.v f.r r,vR N f.v r⟩::fs,sd++r6 f.v r)
theorem CV{N:Nm}{P:List Fd}(W:jI N P){F:Fd}(hF:F∈P){k:Nat}{r:Rw}(hr:F.rows[k]?=some r)(hk:k=0\/(F.w=false/\k<=2)):LY r/\(∀A V,EH F.w k A V->EH F.w (mG V k r) (IH N A r) (vR N V r)):=by
 obtain⟨⟨b,hb,bb⟩,h2⟩:=W.i F hF;have h0:k=0->LY r/\(∀A V,EH F.w k A V->EH F.w (mG V k r) (IH N A r) (vR N V r)):=λz=>by
  subst z;rw[hb]at hr;cases hr;refine⟨.inl ⟨b,rfl,bb⟩,λA V S=>⟨S.a,.inl rfl,?_,?_⟩⟩
  ·rcases S.s with h | ⟨h,_⟩
   ·exact .inl h
   ·exact .inr ⟨h,(show 0+1<=1 by decide)⟩
  ·rcases S.n with h | ⟨h,_⟩
   ·exact .inl h
   ·exact .inr ⟨h,(show 0+1<=2 by decide)⟩
 rcases hk with hk | ⟨hw,hk⟩
 ·exact h0 hk
 ·obtain⟨⟨s,hs,bs⟩,n,hn,bn⟩:=h2 hw;rcases(by lia : k=0\/k=1\/k=2)with z | z | z
  ·exact h0 z
  ·subst z;rw[hs]at hr;cases hr;refine⟨.inr (.inl ⟨s,rfl,bs⟩),λA V S=>⟨S.a,?_,.inl rfl,?_⟩⟩
   ·rcases S.b with h | h
    ·exact .inl h
    ·cases h
   ·rcases S.n with h | ⟨h,_⟩
    ·exact .inl h
    ·exact .inr ⟨h,(show 1+1<=2 by decide)⟩
  ·subst z;rw[hn]at hr;cases hr;refine⟨.inr (.inr ⟨n,rfl,bn⟩),λA V S=>⟨S.a,?_,?_,.inl rfl⟩⟩
   ·rcases S.b with h | h
    ·exact .inl h
    ·cases h
   ·rcases S.s with h | ⟨h,h'⟩
    ·exact .inl h
    ·lia
theorem IT{r:Rw}(h:LY r):(∀t,r≠.bh t)/\(∀j t as,r≠.call j t as)/\(∀V,∀o∈bT r,A9 V o):=by
 rcases h with⟨i,rfl,_⟩ | ⟨i,rfl,_⟩ | ⟨i,rfl,_⟩<;>refine⟨by simp,by simp,λV o ho=>?_⟩<;>(rw[aW.mp ho];trivial)
theorem Ry(c:Nat){N:Nm}(K:aS N){P:List Fd}(W:jI N P){h:List ah}{n b:Nat}{ns:List Nat}{f:Fr}{fs:List Fr}{cnt:Nat}{sd:List Int}{r:Rw}
  (H:sL h N P (n::ns) (f::fs) cnt sd (b+12)) (O:ig N P none (f::fs)) (hr:ee P f=some r) (hl:fs.length<=11) (II:sd.length<=10000) :
  ∃h' yQ,run aI (c+11) "do_row" [.ref 2] h=some (.ok .aP,h')/\sL h' N P yQ (cP N P f fs sd r).1 (cnt+1) (cP N P f fs sd r).2 b:=by
 obtain⟨⟨n5,nb⟩,⟨F,A,hF,B,SA⟩,S⟩:=H.s;have IU:F.rows[f.r]?=some r:=by unfold ee at hr;rw[hF]at hr;exact hr
 have Rz:=cX hF;have L7:=W.r F Rz r (cX IU);have v:=O.1;have T0:Jw h N P (ij ns) (cnt:Int) sd n f.j f.r A F r:=⟨by have:=H.r;rw[dm]at this;exact this,B,hF,IU⟩
 have rl:(ij ns).length<=11:=by simp[ij];rw[S.len];exact hl
 have mL:∀A',(∃h',run aI (c+11) "do_row" [.ref 2] h=some (.ok .aP,h')/\px h' N P (ij ns++[.ref (n+8)]) ((cnt:Int)+1) (sd++r6 f.v r)/\jQ h' N F.w n f.j (mG f.v f.r r) A'/\Ch h h' (wJ n)/\Wd h' b)->EH F.w (mG f.v f.r r) A' (vR N f.v r)->cP N P f fs sd r=(⟨f.j,mG f.v f.r r,vR N f.v r⟩::fs,sd++r6 f.v r)->∃h' yQ,run aI (c+11) "do_row" [.ref 2] h=some (.ok .aP,h')/\sL h' N P yQ (cP N P f fs sd r).1 (cnt+1) (cP N P f fs sd r).2 b:=by
  rintro A' ⟨h',e1,e2,e3,e4,e5⟩ S' e
  refine⟨h',n::ns,e1,?_⟩;rw[e];refine⟨by rw[dm];exact e2,⟨⟨n5,bV nb e4.le⟩,⟨F,A',hF,e3,S'⟩,S.ch e4 ?_⟩,e5⟩
  intro a ha;simp only[wJ,aD,bu,bz]at ha
  omega
 have st:(∀t,r≠.bh t)->(∀j t as,r≠.call j t as)->cP N P f fs sd r=(⟨f.j,mG f.v f.r r,vR N f.v r⟩::fs,sd++r6 f.v r):=λg1 g2=>by
  cases r
  case bh t=>exact absurd rfl (g1 t)
  case call j t as=>exact absurd rfl (g2 j t as)
  all_goals rfl
 by_cases RB:f.r=0\/(F.w=false/\f.r<=2)
 ·obtain⟨i1,i2⟩:=CV W Rz IU RB;obtain⟨g1,g2,g3⟩:=IT i1;exact mL _ (uu c K T0 n5 v.z (H.w.mono (by lia)) (g3 f.v) g1 g2 (Bi c K T0 H.w v.z i1) II) (i2 A f.v SA) (st g1 g2)
 have hA:A=raw f.v:=SA.full (λz=>RB (.inl z)) (λhw=>by
  have:¬f.r<=2:=λz=>RB (.inr ⟨hw,z⟩)
  lia)
 subst hA;have T:Tp h N P (ij ns) (cnt:Int) sd n f F r:=T0;have uv:(∀t,r≠.bh t)->(∀j t as,r≠.call j t as)->∃h' yQ,run aI (c+11) "do_row" [.ref 2] h=some (.ok .aP,h')/\sL h' N P yQ (cP N P f fs sd r).1 (cnt+1) (cP N P f fs sd r).2 b:=λg1 g2=>mL _ (IJ c K T n5 H.w v.z (Nz K v L7 g1 g2) II) (EH.raw _ _ _) (st g1 g2)
 cases r with
 | put s o=>exact uv (by simp) (by simp)
 | fill o=>exact uv (by simp) (by simp)
 | set s g o p=>exact uv (by simp) (by simp)
 | jh o=>exact uv (by simp) (by simp)
 | ifs o p k=>exact uv (by simp) (by simp)
 | go k=>exact uv (by simp) (by simp)
 | call j t as =>
  obtain⟨G,g1,g2,g3⟩:=L7;obtain⟨h',m,e1,e2,e3,e4,e5,e6,e7⟩:=Bk c K (b:=b) T W.p g1 g2 (by lia) (H.w.mono (by lia))
  have hw:IS P j=G.w:=by unfold IS;rw[g1];rfl
  refine⟨h',m::n::ns,e1,?_⟩;show sL h' N P _ (⟨j,0,jd N f.v (IS P j) as⟩::f::fs) (cnt+1) sd b;rw[hw];refine⟨by rw[dm,dm];exact e2,⟨⟨by lia,e7⟩,⟨G,_,g1,e3,?_⟩,?_⟩,e5⟩
  ·rcases g2 with⟨w0,x,_,rfl⟩ | ⟨w0,x,_,rfl⟩<;>rw[w0]
   ·exact⟨rfl,.inr rfl,.inr ⟨rfl,(show 0<=1 by decide)⟩,.inr ⟨rfl,(show 0<=2 by decide)⟩⟩
   ·exact⟨rfl,.inr rfl,.inl rfl,.inl rfl⟩
  ·have:=H.s.ch e4 (by simp)
   exact this.mono e6
 | bh t =>
  cases fs with
  | nil =>
   cases ns with
   | nil =>
    obtain⟨h',e1,e2,e3⟩:=yI c K T n5 (H.w.mono (k':=b+6) (by lia))
    exact⟨h',[],e1,⟨e2,trivial,e3⟩⟩
   | cons _ _=>exact absurd S id
  | cons g gs =>
   cases ns with
   | nil=>exact absurd S id
   | cons m ms =>
    obtain⟨⟨m5,mb⟩,⟨G,A2,hG,B2,SA2⟩,S2⟩:=S;obtain⟨vg,⟨q,hq,hc⟩,_⟩:=O.2.2;obtain⟨u,as,rfl⟩:=hc f.j rfl;have Ad:G.rows[g.r]?=some (.call f.j u as):=by unfold ee at hq;rw[hG]at hq;exact hq
    have hGm:=cX hG;obtain⟨G',y1,_,y3⟩:=W.r G hGm _ (cX Ad);rw[hF]at y1;cases y1;have hk:=y3 t (cX IU);have hni:¬(g.r=0\/(G.w=false/\g.r<=2)):=λz=>(IT (CV W hGm Ad z).1).2.1 _ _ _ rfl
    have hA2:A2=raw g.v:=SA2.full (λz=>hni (.inl z)) (λhw=>by
     have:¬g.r<=2:=λz=>hni (.inr ⟨hw,z⟩)
     lia)
    subst hA2;have T2:Tp h N P (ij ms++[.ref (m+8)]) (cnt:Int) sd n f F (.bh t):=⟨by have:=T.R;rw[dm]at this;exact this,B,hF,IU⟩
    obtain⟨h',e1,e2,e3,e4,e5⟩:=yJ c K (b:=b) T2 B2 hG Ad hk m5 mb (H.w.mono (by lia))
    refine⟨h',m::ms,e1,?_⟩;show sL h' N P _ (IP g f.v t (Wm (ee P g))::gs) (cnt+1) sd b;rw[hq];refine⟨by rw[dm];exact e2,⟨⟨m5,by have:=e4.le;lia⟩,⟨G,_,hG,e3,EH.raw _ _ _⟩,S2.ch e4 ?_⟩,e5⟩
    intro a ha;simp only[wJ,jV,b8,aD,bu,bz]at ha
    omega
end bG
set_option maxHeartbeats 4000000
namespace bG
open PySem L2 L2.U
theorem IV:Bd 0:=⟨by decide,by decide +kernel⟩
theorem pB{N:Nm}{V:Vs}(v:CU N V)(x:N3):Bd (f9 V x):=by
 cases x
 ·exact v.a
 ·exact v.b
 ·exact IV
theorem L8{N:Nm}{V:Vs}(v:CU N V){w:Bool}{as:List N3}(h:iX w as):CU N (jd N V w as):=by
 rcases h with⟨rfl,x,_,rfl⟩ | ⟨rfl,x,_,rfl⟩
 ·exact⟨by simp[jd,uk],pB v x,IV,IV,λy hy=>by
   have hy:y∈List.replicate N.z 0:=hy;rw[pE hy];exact IV⟩
 ·exact⟨v.z,pB v x,IV,v.n,v.s⟩
theorem RC{N:Nm}{U V:Vs}(u:CU N U)(v:CU N V)(x y:N3):CU N (Ny U V y x):=by
 cases x
 ·exact⟨u.z,pB v y,u.b,u.n,u.s⟩
 ·exact⟨u.z,u.a,pB v y,u.n,u.s⟩
 ·exact⟨v.z,u.a,u.b,v.n,v.s⟩
theorem rO{P:List Fd}{j k:Nat}{V:Vs}{F:Fd}(hF:P[j]?=some F)(hk:k<F.rows.length):∃r,ee P ⟨j,k,V⟩=some r:=⟨F.rows[k],by unfold ee;rw[hF];exact eu hk⟩
theorem IW{N:Nm}(K:aS N){P:List Fd}(W:jI N P){f:Fr}{fs:List Fr}{sd:List Int}{r:Rw}(O:ig N P none (f::fs))(hr:ee P f=some r):ig N P none (cP N P f fs sd r).1:=by
 obtain⟨v,_,O2⟩:=O;have⟨F,hF,IU⟩:∃F,P[f.j]?=some F/\F.rows[f.r]?=some r:=by
  unfold ee at hr;cases e:P[f.j]? with
  | none=>rw[e]at hr;cases hr
  | some F=>rw[e]at hr;exact⟨F,rfl,hr⟩
 have Rz:=cX hF;have L7:=W.r F Rz r (cX IU);have hx:=W.x F Rz f.r r IU;have sm:mG f.v f.r r<F.rows.length->ig N P none (⟨f.j,mG f.v f.r r,vR N f.v r⟩::fs):=λhk=>by
  obtain⟨q,hq⟩:=rO (V:=vR N f.v r) hF hk;exact⟨Rx K v L7,⟨q,hq,λj z=>by cases z⟩,O2⟩
 cases r with
 | put s o=>exact sm hx
 | fill o=>exact sm hx
 | set s g o p=>exact sm hx
 | jh o=>exact sm hx
 | go k=>exact sm hx
 | ifs o p k =>
  refine sm ?_;show(if _ then k else f.r+1)<_
  split
  ·exact hx.1
  ·exact hx.2
 | call j t as =>
  obtain⟨G,g1,g2,g3⟩:=L7;have hw:IS P j=G.w:=by unfold IS;rw[g1];rfl
  obtain⟨q,hq⟩:=rO (V:=jd N f.v (IS P j) as) (k:=0) g1 (W.l G (cX g1)).1;refine⟨by rw[hw];exact L8 v g2,⟨q,hq,λj z=>by cases z⟩,v,⟨_,hr,λi z=>?_⟩,O2⟩
  cases z;exact⟨t,as,rfl⟩
 | bh t =>
  cases fs with
  | nil=>trivial
  | cons g gs =>
   obtain⟨vg,⟨q,hq,hc⟩,O3⟩:=O2;obtain⟨u,as,rfl⟩:=hc f.j rfl;have⟨G,hG,Ad⟩:∃G,P[g.j]?=some G/\G.rows[g.r]?=some (.call f.j u as):=by
    unfold ee at hq;cases e:P[g.j]? with
    | none=>rw[e]at hq;cases hq
    | some G=>rw[e]at hq;exact⟨G,rfl,hq⟩
   have W7:g.r+1<G.rows.length:=W.x G (cX hG) g.r _ Ad;show ig N P none (IP g f.v t (Wm (ee P g))::gs);rw[hq];obtain⟨q2,hq2⟩:=rO (V:=(IP g f.v t u).v) hG W7;refine⟨?_,⟨q2,hq2,λj z=>by cases z⟩,O3⟩
   clear hq2 q2 W7 Ad hc hq sm hx L7 IU hr;cases u<;>cases t
   ·exact vg
   ·exact vg
   ·exact vg
   ·exact RC vg v _ _
theorem IX{N:Nm}{P:List Fd}{f:Fr}{fs:List Fr}{sd:List Int}{r:Rw}:(cP N P f fs sd r).2.length<=sd.length+1:=by
 cases r
 case bh t=>cases fs<;>simp[cP]
 case jh o=>simp[cP,r6]
 all_goals simp[cP,r6]
theorem IY{N:Nm}{P:List Fd}{f:Fr}{fs:List Fr}{sd:List Int}{r:Rw}:(cP N P f fs sd r).1.length<=fs.length+2/\((∀j t as,r≠.call j t as)->(cP N P f fs sd r).1.length<=fs.length+1):=by
 cases r
 case bh t=>cases fs<;>simp[cP]<;>lia
 all_goals simp[cP]
end bG
set_option maxHeartbeats 4000000
namespace bG
open PySem L2 L2.U
theorem IZ{N:Nm}{P:List Fd}{k cnt:Nat}{f:Fr}{fs:List Fr}{sd:List Int}{r:Rw}(hr:ee P f=some r)(hd:¬(fs.length=11/\∃j t as,r=.call j t as))(hn:(cP N P f fs sd r).1≠[]):gq N P (k+1) cnt (f::fs) sd=gq N P k (cnt+1) (cP N P f fs sd r).1 (cP N P f fs sd r).2:=by
 unfold gq;rw[hr];cases r
 case call j t as =>
  have:¬fs.length=11:=λz=>hd ⟨z,_,_,_,rfl⟩
  show(if fs.length=11 then _ else _)=_
  rw[if_neg this];unfold cP;cases k<;>rfl
 case bh t =>
  cases fs with
  | nil=>exact absurd rfl hn
  | cons g gs=>cases k<;>rfl
 all_goals (cases k<;>rfl)
theorem rP{h:List ah}{i:Nat}{fs:List PV}(e:h[i]?=some ⟨.lst,fs⟩):fE h [.ref i]=some (.int (fs.length:Int)):=by
 have d:=ai e rfl;have l:Uv h (.ref i)=some fs.length:=by simp only[Uv,d]
 show(Uv h (.ref i)).map (λn=>PV.int n)=_
 rw[l];rfl
theorem L9(c:Nat){N:Nm}(K:aS N){P:List Fd}(W:jI N P){most:Nat}(hm:most<=9000):∀(k cnt mM:Nat) (h:List ah) (ns:List Nat) (fD:List Fr) (sd:List Int),sL h N P ns fD cnt sd (12*k)->ig N P none fD->fD≠[]->fD.length<=12->cnt+k=most->sd.length<=cnt->k<mM ->
  ∃h' fl w yK iz q,gq N P k cnt fD sd=(w,yK,iz)/\px h' N P fl (iz:Int) yK/\yK.length<=most/\(q=dw.rt (.str w)\/(q=dw.nx/\w="done")) /\
   lr (sk Q1) (dE (run aI (c+11))) mM ⟨[some (.ref 2),some (.int (most:Int))],h⟩=some (.ok q,⟨[some (.ref 2),some (.int (most:Int))],h'⟩):=by
 intro k;induction k with
 | zero =>
  intro cnt mM h ns fD sd H O yG hl hc hs hf;obtain⟨mM,rfl⟩:∃m,mM=m+1:=⟨mM-1,by lia⟩
  cases fD with
  | nil=>exact absurd rfl yG
  | cons f fs =>
   cases ns with
   | nil=>exact absurd H.s id
   | cons n ns =>
    have hd:=ai H.r.r rfl;have tr:lq h (.ref 4)=some true:=by rw[rN H.r.fl,dm];cases ij ns<;>rfl
    have g1:∀h,WT h (.int (cnt:Int)) (.int (most:Int))=some (.bl true):=λh=>by
     show some (PV.bl (decide ((cnt:Int)>=(most:Int))))=_;rw[ez (by lia)]
    refine⟨h,_,"more",sd,cnt,_,rfl,H.r,by lia,.inl rfl,?_⟩
    have Wn:sk Q1 ⟨[some (.ref 2),some (.int (most:Int))],h⟩=some (.ok true,⟨[some (.ref 2),some (.int (most:Int))],h⟩):=by
     refine bH ?_;simp only[↓gY,hd,tr]
    refine eB Wn ?_
    ·rw[if_pos rfl];refine eB (show dE (run aI (c+11)) _=some (.ok (.rt (.str "more")),⟨[some (.ref 2),some (.int (most:Int))],h⟩)from ?_) rfl
     refine bH ?_
     delta dE fN
     simp only[↓gY,hd,g1]
 | succ k ih =>
  intro cnt mM h ns fD sd H O yG hl hc hs hf;obtain⟨mM,rfl⟩:∃m,mM=m+1:=⟨mM-1,by lia⟩
  cases fD with
  | nil=>exact absurd rfl yG
  | cons f fs =>
   cases ns with
   | nil=>exact absurd H.s id
   | cons n ns =>
    have hd:=ai H.r.r rfl;have tr:lq h (.ref 4)=some true:=by rw[rN H.r.fl,dm];cases ij ns<;>rfl
    have g1:∀h,WT h (.int (cnt:Int)) (.int (most:Int))=some (.bl false):=λh=>by
     show some (PV.bl (decide ((cnt:Int)>=(most:Int))))=_;rw[cF (by lia)]
    obtain⟨v,⟨r,hr,_⟩,O2⟩:=O;have O:ig N P none (f::fs):=⟨v,⟨r,hr,λj z=>by cases z⟩,O2⟩
    obtain⟨⟨n5,nb⟩,⟨F,A,hF,B,SA⟩,S⟩:=H.s;have IU:F.rows[f.r]?=some r:=by unfold ee at hr;rw[hF]at hr;exact hr
    have T:Jw h N P (ij ns) (cnt:Int) sd n f.j f.r A F r:=⟨by have:=H.r;rw[dm]at this;exact this,B,hF,IU⟩
    have e1:=jU (c+10) T;have e2:=dP T.R.fl;have e3:fE h [.ref 4]=some (.int ((fs.length+1:Nat):Int)):=by
     rw[rP T.R.fl];simp[ij,S.len]
    have e4:=λh=>rE (h:=h) N r
    have hE:=fZ H.r.r;have nr:∀l,aj (.ref 2::l)=false:=km 2
    have e5:∀h,qG h (.int ((fs.length+1:Nat):Int)) (.int 12)=some (.bl (((fs.length+1:Nat):Int)==12)):=λh=>rfl
    have e6:∀h,qG h (.str (uh r)) (.str "call")=some (.bl (uh r=="call")):=λh=>rfl
    have Wo:fs.length<=11:=by simpa using hl
    have Wn:sk Q1 ⟨[some (.ref 2),some (.int (most:Int))],h⟩=some (.ok true,⟨[some (.ref 2),some (.int (most:Int))],h⟩):=by
     refine bH ?_;simp only[↓gY,hd,tr]
    by_cases hdp:fs.length=11/\∃j t as,r=.call j t as
    ·obtain⟨CW,j,t,as,rfl⟩:=hdp;have b5:(((fs.length+1:Nat):Int)==12)=true:=by rw[CW];rfl
     have b6:(uh (.call j t as)=="call")=true:=rfl;have Bm:gq N P (k+1) cnt (f::fs) sd=(("deep":Str),sd,cnt):=by
      unfold gq;rw[hr];show(if fs.length=11 then _ else _)=_
      rw[if_pos CW]
     refine⟨h,_,"deep",sd,cnt,_,Bm,H.r,by lia,.inl rfl,?_⟩
     refine eB Wn ?_;rw[if_pos rfl];refine eB (show dE (run aI (c+11)) _=some (.ok (.rt (.str "deep")),⟨[some (.ref 2),some (.int (most:Int))],h⟩)from ?_) rfl
     refine bH ?_
     delta dE fN
     simp only[↓gY,hd,g1,e1,e2,e3,e4,e5,e6,b5,b6,hE,nr,aA,az]
    ·obtain⟨h',yQ,x1,x2⟩:=Ry c K W (b:=12*k) H O hr Wo (by lia)
     have O':=IW K W (sd:=sd) O hr;have bod:dE (run aI (c+11)) ⟨[some (.ref 2),some (.int (most:Int))],h⟩=some (.ok .nx,⟨[some (.ref 2),some (.int (most:Int))],h'⟩):=by
      refine bH ?_
      delta dE fN
      by_cases CW:fs.length=11
      ·have b5:(((fs.length+1:Nat):Int)==12)=true:=by rw[CW];rfl
       have b6:(uh r=="call")=false:=by
        cases r
        case call j t as=>exact absurd ⟨CW,_,_,_,rfl⟩ hdp
        all_goals rfl
       simp only[↓gY,hd,g1,e1,e2,e3,e4,e5,e6,b5,b6,x1,hE,nr,aA,az]
      ·have b5:(((fs.length+1:Nat):Int)==12)=false:=bO.mpr (by lia)
       simp only[↓gY,hd,g1,e1,e2,e3,e4,e5,e6,b5,x1,hE,nr,aA,az]
     have Js:=IY (N:=N) (P:=P) (f:=f) (fs:=fs) (sd:=sd) (r:=r);have hsl:=IX (N:=N) (P:=P) (f:=f) (fs:=fs) (sd:=sd) (r:=r);by_cases sM:(cP N P f fs sd r).1=[]
     ·have hgv:∃t,r=.bh t/\fs=[]:=by
       cases r
       case bh t =>
        cases fs with
        | nil=>exact⟨_,rfl,rfl⟩
        | cons g gs=>cases sM
       all_goals cases sM
      obtain⟨t,rfl,rfl⟩:=hgv;have x2:sL h' N P yQ [] (cnt+1) sd (12*k):=x2;have EA:yQ=[]:=mO x2.s.len;subst EA;have Bm:gq N P (k+1) cnt [f] sd=(("done":Str),sd,cnt+1):=by
       unfold gq;rw[hr]
      have SX:=ai x2.r.r rfl;have tr':lq h' (.ref 4)=some false:=rN x2.r.fl;have aat:sk Q1 ⟨[some (.ref 2),some (.int (most:Int))],h'⟩=some (.ok false,⟨[some (.ref 2),some (.int (most:Int))],h'⟩):=by
       refine bH ?_;simp only[↓gY,SX,tr']
      obtain⟨mM,rfl⟩:∃m,mM=m+1:=⟨mM-1,by lia⟩
      refine⟨h',_,"done",sd,cnt+1,.nx,Bm,x2.r,by lia,.inr ⟨rfl,rfl⟩,?_⟩
      refine eB Wn ?_;rw[if_pos rfl];refine eB bod ?_;exact eB aat rfl
     ·obtain⟨h2,fl,w,yK,iz,q,y1,y2,y3,y4,y5⟩:=ih (cnt+1) mM h' yQ _ _ x2 O' sM (by
       by_cases CW:fs.length=11
       ·have:=Js.2 λj t as z=>hdp ⟨CW,j,t,as,z⟩
        lia
       ·lia) (by lia) (by lia) (by lia)
      refine⟨h2,fl,w,yK,iz,q,by rw[IZ hr hdp sM];exact y1,y2,y3,y4,?_⟩
      refine eB Wn ?_;rw[if_pos rfl];exact eB bod y5
theorem I0(c:Nat){N:Nm}(K:aS N){P:List Fd}(W:jI N P){most:Nat}(hm:most<=9000){h:List ah}{ns:List Nat}{fD:List Fr}(H:sL h N P ns fD 0 [] (12*most))(O:ig N P none fD)(hn:fD≠[])(hl:fD.length<=12) :
  ∃h' fl w yK iz,gq N P most 0 fD []=(w,yK,iz)/\px h' N P fl (iz:Int) yK/\yK.length<=most/\run aI (c+12) "run_on" [.ref 2,.int (most:Int)] h=some (.ok (.str w),h'):=by
 obtain⟨h',fl,w,yK,iz,q,y1,y2,y3,y4,y5⟩:=L9 c K W hm most 0 8000000 h ns fD [] H O hn hl (by lia) (by simp) (by lia)
 refine⟨h',fl,w,yK,iz,y1,y2,y3,?_⟩;rw[AY]
 delta dE fN at y5
 rcases y4 with rfl | ⟨rfl,rfl⟩
 ·refine wq (st':=⟨[some (.ref 2),some (.int (most:Int))],h'⟩) ?_;exact eB y5 rfl
 ·refine wq (st':=⟨[some (.ref 2),some (.int (most:Int))],h'⟩) ?_;exact eB y5 rfl
end bG
set_option maxHeartbeats 4000000
namespace bG
open PySem L2 L2.U
theorem dO3{a b d:Str}{v u w:PV}(h1:a≠b)(h2:a≠d)(h3:b≠d):AD [.ak [.str a,v],.ak [.str b,u],.ak [.str d,w]]=some (cQ [(a,v),(b,u),(d,w)]):=by
 have e1:fj false (bD b) u [bD a] [v]=cQ [(a,v),(b,u)]:=by
  unfold fj;rw[if_neg (by have:=pj (x:=b) (ys:=[a]) (by simp;exact h1);rw[show jA (bD b) [bD a]=false from this];exact cR)]
  rfl
 have e2:fj false (bD d) w [bD a,bD b] [v,u]=cQ [(a,v),(b,u),(d,w)]:=by
  unfold fj;rw[if_neg (by have:=pj (x:=d) (ys:=[a,b]) (by simp;exact⟨h2,h3⟩);rw[show jA (bD d) [bD a,bD b]=false from this];exact cR)]
  rfl
 show some (xT [(.inr d,w)] (fj false (bD b) u [bD a] [v]))=_;rw[e1];show some (fj false (bD d) w [bD a,bD b] [v,u])=_;rw[e2]
theorem rQ{f:Str}{ns:List Str}{ps:List PV}{v:PV}{ρ:List (Option PV)}{L:List ah}(hc:(eI.contains "Run"&&eJ.contains f&&decide (ns.length<900))=true):eG eI eJ f (.ref 2) v ⟨ρ,ji 0 0::⟨.lst,[]⟩::⟨.ins "Run" ns,ps⟩::L⟩=some ⟨ρ,ji 0 0::⟨.lst,[]⟩::⟨.ins "Run" (je f v ns ps).1,(je f v ns ps).2⟩::L⟩:=gm (h:=ji 0 0::⟨.lst,[]⟩::⟨.ins "Run" ns,ps⟩::L) rfl hc
theorem RD(c:Nat){N:Nm}(K:aS N){P:List Fd}(W:jI N P)(hA:∀F∈P,∀r∈F.rows,Jv r):EE (run aI (c+14)) "Run" [.ref 2,.ak (P.map (fdP N)),.ref 0] [ji 0 0,⟨.lst,[]⟩,⟨.ins "Run" [],[]⟩]=some (.ok .aP,[ji 0 0,⟨.lst,[]⟩,EF (.ak (P.map (fdP N))) 0 3 (.lst (P.map λF=>Az N F.rows)) 4 5 0,⟨.gB false (P.map λF=>bD F.f),(List.range P.length).map fun(i:Nat)=>.int (i:Int)⟩,⟨.lst,[]⟩,⟨.lst,[]⟩]):=by
 obtain⟨F0,F1,F2,rfl⟩:=W.p.p;obtain⟨p0,h0,a0,b0⟩:=rH c K (P:=[F0,F1,F2]) (i:=0) rfl (hA F0 (by simp)) (W.l F0 (by simp)).2
 obtain⟨p1,h1,a1,b1⟩:=rH c K (P:=[F0,F1,F2]) (i:=1) rfl (hA F1 (by simp)) (W.l F1 (by simp)).2
 obtain⟨p2,h2,a2,b2⟩:=rH c K (P:=[F0,F1,F2]) (i:=2) rfl (hA F2 (by simp)) (W.l F2 (by simp)).2
 have n0:=W.p.n 0 F0 rfl;have n1:=W.p.n 1 F1 rfl;have n2:=W.p.n 2 F2 rfl;have d01:F0.f≠F1.f:=λz=>by rw[n0,n1]at z;exact absurd (K.ff 0 1 (by decide) (by decide) z) (by decide)
 have d02:F0.f≠F2.f:=λz=>by rw[n0,n2]at z;exact absurd (K.ff 0 2 (by decide) (by decide) z) (by decide)
 have d12:F1.f≠F2.f:=λz=>by rw[n1,n2]at z;exact absurd (K.ff 1 2 (by decide) (by decide) z) (by decide)
 have dd:=λv u w=>dO3 (v:=v) (u:=u) (w:=w) d01 d02 d12
 have en:ja 0 ([F0,F1,F2].map (fdP N))=[.ak [.int 0,fdP N F0],.ak [.int 1,fdP N F1],.ak [.int 2,fdP N F2]]:=rfl;have l3:∀a b d:PV,[a,b,d].length<=4000000:=λ_ _ _=>by simp
 have i0:∀h F,aJ h (fdP N F) (.int 0)=some (.str F.f):=λh F=>rfl
 have nr:∀(i:Int),aj [PV.ak ([F0,F1,F2].map (fdP N)),PV.int i]=true:=λi=>by simp[aj,noRef,om]
 have b0:run aI (c+14) "acts_by_row" [.ak ([F0,F1,F2].map (fdP N)),.int 0] []=_:=b0;have b1:run aI (c+14) "acts_by_row" [.ak ([F0,F1,F2].map (fdP N)),.int 1] []=_:=b1;have b2:run aI (c+14) "acts_by_row" [.ak ([F0,F1,F2].map (fdP N)),.int 2] []=_:=b2;have t1:∀ρ v L,eG eI eJ "program" (.ref 2) v ⟨ρ,ji 0 0::⟨.lst,[]⟩::⟨.ins "Run" [],[]⟩::L⟩=some ⟨ρ,ji 0 0::⟨.lst,[]⟩::⟨.ins "Run" ["program"],[v]⟩::L⟩:=λρ v L=>rQ (by kernel_rfl)
 have t2:∀ρ v L a,eG eI eJ "world" (.ref 2) v ⟨ρ,ji 0 0::⟨.lst,[]⟩::⟨.ins "Run" ["program"],[a]⟩::L⟩=some ⟨ρ,ji 0 0::⟨.lst,[]⟩::⟨.ins "Run" ["program","world"],[a,v]⟩::L⟩:=λρ v L a=>rQ (by kernel_rfl)
 have t3:∀ρ v L a b,eG eI eJ "numbers" (.ref 2) v ⟨ρ,ji 0 0::⟨.lst,[]⟩::⟨.ins "Run" ["program","world"],[a,b]⟩::L⟩=some ⟨ρ,ji 0 0::⟨.lst,[]⟩::⟨.ins "Run" ["program","world","numbers"],[a,b,v]⟩::L⟩:=λρ v L a b=>rQ (by kernel_rfl)
 have t4:∀ρ v L a b d,eG eI eJ "listed" (.ref 2) v ⟨ρ,ji 0 0::⟨.lst,[]⟩::⟨.ins "Run" ["program","world","numbers"],[a,b,d]⟩::L⟩=some ⟨ρ,ji 0 0::⟨.lst,[]⟩::⟨.ins "Run" ["program","world","numbers","listed"],[a,b,d,v]⟩::L⟩:=λρ v L a b d=>rQ (by kernel_rfl)
 have t5:∀ρ v L a b d e,eG eI eJ "frames" (.ref 2) v ⟨ρ,ji 0 0::⟨.lst,[]⟩::⟨.ins "Run" ["program","world","numbers","listed"],[a,b,d,e]⟩::L⟩=some ⟨ρ,ji 0 0::⟨.lst,[]⟩::⟨.ins "Run" ["program","world","numbers","listed","frames"],[a,b,d,e,v]⟩::L⟩:=λρ v L a b d e=>rQ (by kernel_rfl)
 have t6:∀ρ v L a b d e g,eG eI eJ "said" (.ref 2) v ⟨ρ,ji 0 0::⟨.lst,[]⟩::⟨.ins "Run" ["program","world","numbers","listed","frames"],[a,b,d,e,g]⟩::L⟩=some ⟨ρ,ji 0 0::⟨.lst,[]⟩::⟨.ins "Run" ["program","world","numbers","listed","frames","said"],[a,b,d,e,g,v]⟩::L⟩:=λρ v L a b d e g=>rQ (by kernel_rfl)
 have t7:∀ρ v L a b d e g i,eG eI eJ "count" (.ref 2) v ⟨ρ,ji 0 0::⟨.lst,[]⟩::⟨.ins "Run" ["program","world","numbers","listed","frames","said"],[a,b,d,e,g,i]⟩::L⟩=some ⟨ρ,ji 0 0::⟨.lst,[]⟩::⟨.ins "Run" ["program","world","numbers","listed","frames","said","count"],[a,b,d,e,g,i,v]⟩::L⟩:=λρ v L a b d e g i=>rQ (by kernel_rfl)
 have ln:∀h,fE h [.ak ([F0,F1,F2].map (fdP N))]=some (.int 3):=λh=>rfl
 have rg:oI [.int 3]=some [.int 0,.int 1,.int 2]:=by rfl
 rw[QI];simp only[↓bf,t1,t2,t3,t4,t5,t6,t7,ln,rg,en,dd,l3,i0,nr,a0,a1,a2,b0,b1,b2,cb,bW];rfl
end bG
set_option maxHeartbeats 4000000
namespace bG
open PySem L2 L2.U
theorem NA{f g:Gx dw}{st s1:cq}{r:Option (Rs dw×cq)}(h1:f st=some (.ok .nx,s1))(h2:g s1=r):xw f g st=r:=eB h1 h2
theorem Ma(c:Nat){N:Nm}(K:aS N){P:List Fd}(W:jI N P)(hA:∀F∈P,∀r∈F.rows,Jv r){F0:Fd}(h0:P[0]?=some F0)(hw:F0.w=false){x:Int}{most:Nat}(hm:most<=9000) :
  ∃h',run aI (c+15) "run_from_first" [.ak (P.map (fdP N)),.ref 0,.lst [.int x]] [ji 0 0,⟨.lst,[]⟩]=some (.ok (.ref 2),h')/\sL h' N P [7] [⟨0,0,⟨x,0,uk N,0⟩⟩] 0 [] (12*most):=by
 obtain⟨g,hg⟩:∃g:List ah,g=[ji 0 0,⟨.lst,[]⟩,EF (.ak (P.map (fdP N))) 0 3 (.lst (P.map λF=>Az N F.rows)) 4 5 0,⟨.gB false (P.map λF=>bD F.f),(List.range P.length).map fun(i:Nat)=>.int (i:Int)⟩,⟨.lst,[]⟩,⟨.lst,[]⟩]:=⟨_,rfl⟩
 have gl:g.length=6:=by rw[hg];rfl
 have R0:px g N P [] 0 []:=by rw[hg];exact⟨rfl,rfl,rfl,rfl⟩
 have W0:Wd g (12*most+6):=by rw[hg];exact⟨0,0,[],rfl,rfl,by show 0+(12*most+6)<=3000000;lia⟩
 have e1:EE (run aI (c+14)) "Run" [.ref [ji 0 0,⟨.lst,[]⟩].length,.ak (P.map (fdP N)),.ref 0] ([ji 0 0,⟨.lst,[]⟩]++[⟨.ins "Run" [],[]⟩])=some (.ok .aP,g):=by rw[hg];exact RD c K W hA
 have e2:∀h,aJ h (.ak (P.map (fdP N))) (.int 0)=some (fdP N F0):=λh=>atI_nat (j:=0) (by rw[bK,h0];rfl)
 have e3:∀h,aJ h (fdP N F0) (.int 1)=some (.ak [dH N .a]):=λh=>by
  show some (PV.ak ((par F0.w).map (dH N)))=_;rw[hw];rfl
 have z1:Hl (.ak [dH N .a]) (.lst [.int x])=some [.ak [dH N .a,.int x]]:=rfl;have l1:∀a:PV,[a].length<=4000000:=λ_=>by simp
 have R1:px (g++[cQ [(N.n .a,.lst [.int x])]]) N P [] 0 []:=R0.app _;obtain⟨h',b1,b2,b3,b4,b5,b6⟩:=yB (c+6) K (n:=12*most) R1 (W0.ch (Ch.app g _ []) (by simp)) h0 hw (g:=6) (va:=x) (es:=[(N.n .a,.lst [.int x])]) (by rw[jj (by lia),gl];rfl) (by show(if bD N.a=bD N.a then _ else _)=_;rw[if_pos rfl]) (by simp)
 have hl7:(g++[cQ [(N.n .a,.lst [.int x])]]).length=7:=by rw[bR,gl];rfl
 rw[hl7]at b2 b3 b6;have hE:(g++[cQ [(N.n .a,.lst [.int x])]]).isEmpty=false:=fZ R1.r;have nr:∀l,aj (.ref 2::l)=false:=km 2
 have bg:run aI (c+14) "begin" [.ref 2,.int 0,.ref 6] (g++[cQ [(N.n .a,.lst [.int x])]])=some (.ok .aP,h'):=b1;refine⟨h',?_,⟨b2,⟨⟨by decide,by rw[b6];decide⟩,⟨F0,⟨.int x,.aP,.aP,.aP⟩,h0,by rw[hw];exact b3,?_⟩,trivial⟩,b4⟩⟩
 ·have dd:=λv=>dO1 (a:=N.n .a) (v:=v)
  rw[lB];simp only[↓bf,e1,e2,e3,z1,l1,dd,gl,bg,hE,nr,aA,az]
 ·exact⟨rfl,.inr rfl,.inr ⟨hw,(show 0<=1 by decide)⟩,.inr ⟨hw,(show 0<=2 by decide)⟩⟩
def Mb(N:Nm)(P:List Fd)(most:Nat)(x:Int):PV:=.ak [.str (gq N P most 0 [⟨0,0,⟨x,0,uk N,0⟩⟩] []).1,.lst ((gq N P most 0 [⟨0,0,⟨x,0,uk N,0⟩⟩] []).2.1.map .int),.int ((gq N P most 0 [⟨0,0,⟨x,0,uk N,0⟩⟩] []).2.2:Int)]
def Mc(N:Nm)(P:List Fd)(most:Nat)(x:Int):PV:=.ak [.str (gq N P most 0 [⟨0,0,⟨x,0,uk N,0⟩⟩] []).1,.lst ((gq N P most 0 [⟨0,0,⟨x,0,uk N,0⟩⟩] []).2.1.map .int),.int ((gq N P most 0 [⟨0,0,⟨x,0,uk N,0⟩⟩] []).2.2:Int),.ak []]
theorem Wq(c:Nat){N:Nm}(K:aS N){P:List Fd}(W:jI N P)(hA:∀F∈P,∀r∈F.rows,Jv r){F0:Fd}(h0:P[0]?=some F0)(hw:F0.w=false){x:Int}(hx:Bd x){most:Nat}(hm:most<=9000) :
  ∃p h',run aI (c+16) "run" [.ak (P.map (fdP N)),.lst [.int x],.int (most:Int)] []=some (.ok p,h')/\eF h' p=some (Mc N P most x):=by
 obtain⟨h1,e1,H⟩:=Ma c K W hA h0 hw (x:=x) hm;have O:ig N P none [⟨0,0,⟨x,0,uk N,0⟩⟩]:=by
  obtain⟨q,hq⟩:=rO (V:=⟨x,0,uk N,0⟩) (k:=0) h0 (W.l F0 (cX h0)).1;exact⟨⟨by simp[uk],hx,IV,IV,λy hy=>by
   have hy:y∈List.replicate N.z 0:=hy;rw[pE hy];exact IV⟩,⟨q,hq,λj z=>by cases z⟩,trivial⟩
 obtain⟨h2,fl,w,sd,cnt,y1,y2,y3,y4⟩:=I0 (c+3) K W hm H O (by simp) (by simp)
 unfold Mc;rw[y1];have hd:=ai y2.r rfl;have nP:=fZ H.r.r;have nr:∀l,aj (.ref 2::l)=false:=km 2
 refine⟨.ak [.str w,.ref 5,.int (cnt:Int),.ak []],h2,?_,?_⟩
 ·have e1:run aI (c+15) "run_from_first" [.ak (P.map (fdP N)),.ref ([]:List ah).length,.lst [.int x]] [(⟨.ins "Boxes" ["entries","boxes_made","tags_made"],[.ref (([]:List ah)++[(⟨.ins "Boxes" [],[]⟩:ah)]).length,.int 0,.int 0]⟩:ah),(⟨.lst,[]⟩:ah)]=some (.ok (.ref 2),h1):=e1;rw[LD];refine wq (st':=⟨[some (.ak (P.map (fdP N))),some (.lst [.int x]),some (.int (most:Int)),some (.ref 2),some (.str w),none,none],h2⟩) ?_;refine NA (s1:=⟨[some (.ak (P.map (fdP N))),some (.lst [.int x]),some (.int (most:Int)),some (.ref 2),none,none,none],h1⟩) ?_ ?_
  ·refine bH ?_;simp only[↓gY,e1]
  ·refine NA (s1:=⟨[some (.ak (P.map (fdP N))),some (.lst [.int x]),some (.int (most:Int)),some (.ref 2),some (.str w),none,none],h2⟩) (Nn ?_) ?_
   ·refine bH ?_;simp only[↓gY,y4,nP,nr,aA,az]
   ·refine bH ?_;simp only[↓gY,hd]
 ·have Eo:=fZ y2.r;unfold eF;rw[if_neg (by rw[Eo];exact cR)]
  have d4:lx h2 3 (.ref 5)=some (.lst (sd.map .int)):=by
   show((h2[5]?).bind λc=>if live c=true then(dC (lx h2 2) c.ps).map (PV.nd c.k)else none)=_
   rw[y2.sd];show(dC (lx h2 2) (sd.map .int)).map (PV.nd Kd.lst)=_;rw[mC (dG (λ_=>rfl) sd)]
   rfl
  show((some (PV.str w)).bind λa=>((lx h2 3 (.ref 5)).bind λb=>((some (PV.int (cnt:Int))).bind λd=>(((some (PV.ak [])).bind λe=>(some []).map λr=>e::r).map λr=>d::r)).map λr=>b::r).map λr=>a::r).map (PV.nd Kd.ak)=_
  rw[d4];rfl
end bG
set_option maxHeartbeats 4000000
namespace bG
open PySem L2 L2.U
def CY(V:Vs):PV:=.ak [stP V.s,.int V.n]
def iB(N:Nm)(w:Bool)(V:Vs):List (Str×PV):=if w=true then [(N.a,.int V.a),(N.c,CY V),(N.b,.int V.b)]else [(N.a,.int V.a),(N.b,.int V.b),(N.c,CY V)]
def oW(V:Vs):N3->PV
 | .a=>.int V.a
 | .b=>.int V.b
 | .c=>CY V
theorem kF{N:Nm}(K:aS N){h:List ah}{d:Nat}{w:Bool}{V:Vs}(e:h[d]?=some (cQ (iB N w V)))(x:N3):aJ h (.ref d) (.str (N.n x))=some (oW V x):=by
 refine mD e ?_;have ky:∀x y:N3,bD (N.n x)=bD (N.n y)↔x=y:=λx y=>⟨λz=>K.n (by unfold bD at z;injection z with z1 _;injection z1),λz=>by rw[z]⟩
 cases w
 ·show d8 (bD (N.n x)) [bD (N.n .a),bD (N.n .b),bD (N.n .c)] [.int V.a,.int V.b,CY V]=_;cases x<;>simp[d8,oW,ky]
 ·show d8 (bD (N.n x)) [bD (N.n .a),bD (N.n .c),bD (N.n .b)] [.int V.a,CY V,.int V.b]=_;cases x<;>simp[d8,oW,ky]
theorem Ja(c:Nat){N:Nm}(K:aS N){h:List ah}{d:Nat}{w:Bool}{V:Vs}(e:h[d]?=some (cQ (iB N w V)))(hs:1<=V.s.length){o:Op}(ho:A9 V o):run aI (c+1) "_law_number" [.ref d,jN N o] h=some (.ok (.int (opV V o)),h):=by
 have ka:aJ h (.ref d) (.str N.a)=some (.int V.a):=kF K e .a;have kb:aJ h (.ref d) (.str N.b)=some (.int V.b):=kF K e .b;have kc:aJ h (.ref d) (.str N.c)=some (CY V):=kF K e .c;have e9:=λh=>mE (V:=V) (h:=h)
 have t0:∀h,aJ h (CY V) (.int 0)=some (stP V.s):=λh=>rfl
 rw[yn];cases o with
 | num i=>simp only[↓bf,jN];rfl
 | sp s =>
  cases s with
  | s=>exact absurd ho id
  | a=>simp only[↓bf,jN,g7,ka];rfl
  | b=>simp only[↓bf,jN,g7,kb];rfl
  | n=>simp only[↓bf,jN,g7,kc];rfl
  | i x =>
   cases x with
   | «at» i =>
    have e2:∀h,aJ h (stP V.s) (.int (i:Int))=_:=λh=>nS (V:=V) ho
    simp only[↓bf,jN,g7,yS,kc,t0,e2];rfl
   | a =>
    have m1:∀h,cD h (.int V.a) (.int (V.s.length:Int))=_:=λh=>iW hs
    have e2:∀h,aJ h (stP V.s) (.int ((V.a%(V.s.length:Int)).toNat:Int))=_:=λh=>nS (V:=V) (mod_lt hs)
    simp only[↓bf,jN,g7,yS,ka,kc,t0,e9,m1,e2];rfl
   | b =>
    have m1:∀h,cD h (.int V.b) (.int (V.s.length:Int))=_:=λh=>iW hs
    have e2:∀h,aJ h (stP V.s) (.int ((V.b%(V.s.length:Int)).toNat:Int))=_:=λh=>nS (V:=V) (mod_lt hs)
    simp only[↓bf,jN,g7,yS,kb,kc,t0,e9,m1,e2];rfl
end bG
set_option maxHeartbeats 4000000
namespace bG
open PySem L2 L2.U
theorem nU{N:Nm}(K:aS N){h:List ah}{d:Nat}{w:Bool}{V V':Vs}(e:h[d]?=some (cQ (iB N w V)))(x:N3)(hv:∀y,y≠x->oW V' y=oW V y){ρ:List (Option PV)}:gk (.ref d) (.str (N.n x)) (oW V' x) ⟨ρ,h⟩=some ⟨ρ,h.set d (cQ (iB N w V'))⟩:=by
 have ky:∀x y:N3,bD (N.n x)=bD (N.n y)↔x=y:=λx y=>⟨λz=>K.n (by unfold bD at z;injection z with z1 _;injection z1),λz=>by rw[z]⟩
 have key:∀(w:Bool),fj false (bD (N.n x)) (oW V' x) ((iB N w V).map λe=>bD e.1) ((iB N w V).map (·.2))=cQ (iB N w V'):=λw=>by
  unfold fj;cases w
  ·show(if jA (bD (N.n x)) [bD (N.n .a),bD (N.n .b),bD (N.n .c)]=true then(⟨.gB false [bD (N.n .a),bD (N.n .b),bD (N.n .c)],nH (bD (N.n x)) (oW V' x) [bD (N.n .a),bD (N.n .b),bD (N.n .c)] [oW V .a,oW V .b,oW V .c]⟩:ah)else _)=⟨.gB false [bD (N.n .a),bD (N.n .b),bD (N.n .c)],[oW V' .a,oW V' .b,oW V' .c]⟩
   cases x<;>simp[jA,nH,ky]<;>simp_all
  ·show(if jA (bD (N.n x)) [bD (N.n .a),bD (N.n .c),bD (N.n .b)]=true then(⟨.gB false [bD (N.n .a),bD (N.n .c),bD (N.n .b)],nH (bD (N.n x)) (oW V' x) [bD (N.n .a),bD (N.n .c),bD (N.n .b)] [oW V .a,oW V .c,oW V .b]⟩:ah)else _)=⟨.gB false [bD (N.n .a),bD (N.n .c),bD (N.n .b)],[oW V' .a,oW V' .c,oW V' .b]⟩
   cases x<;>simp[jA,nH,ky]<;>simp_all
 show((kf h (.ref d)).bind λc=>match c.2.k with
  | .lst=>(l7 (.str (N.n x))).bind λi=>(BF c.2.ps.length i).map λj=>(⟨ρ,h.set c.1 ⟨.lst,c.2.ps.set j (oW V' x)⟩⟩:cq)
  | .gB t lJ=>(i8 t (.str (N.n x))).bind λk=>if lJ.length<gX then some ⟨ρ,h.set c.1 (fj t k (oW V' x) lJ c.2.ps)⟩else none
  | _=>none)=_
 rw[dO e rfl];show(if((iB N w V).map λe=>bD e.1).length<gX then some (⟨ρ,h.set d (fj false (bD (N.n x)) (oW V' x) ((iB N w V).map λe=>bD e.1) ((iB N w V).map (·.2)))⟩:cq)else none)=_
 rw[if_pos (bV (show _<10 by rw[aN];cases w<;>simp[iB]) (by decide)),key]
theorem Et(c:Nat){g:Sg}{x y:Int}(hx:Bd x)(hy:Bd y):run aI (c+1) "_law_reckon" [.str (QM g),.int x,.int y] []=some (.ok (.int (rkN g x y)),[]):=by
 have e4:=λh=>Iw (h:=h)
 have e5:=λh x=>yC (h:=h) (x:=x)
 have e6:=λh=>Nq (h:=h) hx hy
 rw[yo];cases g<;>(simp only[↓bf,e4,e5,e6,QM];rfl)
end bG
set_option maxHeartbeats 4000000
namespace bG
open PySem L2 L2.U
theorem Md0{f g:Gx dw}{n:Nat}{ps qs:List PV}{h:List ah}(e:f ⟨ix n ps,h⟩=some (.ok .nx,⟨ix n qs,h⟩)):iI (xw f g) n ps h=iI g n qs h:=by
 show (xw f g _).bind UW=_;rw[show xw f g _=_ from eB e rfl];rfl
theorem Md(c:Nat){N:Nm}(K:aS N){h:List ah}{d:Nat}{w:Bool}{V:Vs}(e:h[d]?=some (cQ (iB N w V)))(hz:V.s.length=N.z){r:Rw}(ok:uq N V r){s:Sp}(ht:Iz r=some s) :
  run aI (c+2) "_law_done" [.ref d,aT N r] h=some (.ok .aP,h.set d (cQ (iB N w (vR N V r)))):=by
 have hs:1<=V.s.length:=by rw[hz];exact K.z1
 have h8:V.s.length<=8:=by rw[hz];exact K.z8
 have kc:aJ h (.ref d) (.str N.c)=some (.ak [stP V.s,.int V.n]):=kF K e .c;have e9:=λh=>mE (V:=V) (h:=h)
 have hE:h.isEmpty=false:=fZ e;have nr:∀l,aj (.ref d::l)=false:=λl=>by simp[aj,noRef]
 have nm:=λo ho=>Ja c K e hs (o:=o) ho
 have Sz:=ok.o;have ok2:=ok.t;clear ok;have hv:vR N V r=jR N V (oV V r) s:=by unfold vR;rw[ht]
 rw[hv];obtain⟨x,hx⟩:∃x,oV V r=x:=⟨_,rfl⟩
 rw[hx];have sx:=λ(V':Vs) (y:N3) (hy:∀z,z≠y->oW V' z=oW V z) ρ=>nU K e (V':=V') (ρ:=ρ) y hy
 have sc:=λ(V':Vs) (ha:V'.a=V.a) (hb:V'.b=V.b)=>sx V' .c (by
  rintro (_ | _ | _) z
  ·exact congrArg _ ha
  ·exact congrArg _ hb
  ·exact absurd rfl z)
 have w0:∀h,aJ h (aT N r) (.int 0)=some (.str (uh r)):=λh=>by cases r<;>rfl
 have w1:∀h,aJ h (aT N r) (.int 1)=some (g7 N s):=λh=>by cases r<;>first | (cases ht;rfl) | cases ht
 rw[Ed];refine(Md0 (qs:=[.ref d,aT N r,.int x]) ?_).trans ?_
 ·show _=some (Rs.ok dw.nx,(⟨[some (.ref d),some (aT N r),some (.int x),none,none,none,none],h⟩:cq));refine bH ?_
  by_cases hr:∃t g o p,r=.set t g o p
  ·obtain⟨t,g,o,p,rfl⟩:=hr;have n0:=nm o (Sz o (by simp[bT])).1
   have n1:=nm p (Sz p (by simp[bT])).1
   have nk:=Et c (g:=g) (Sz o (by simp[bT])).2 (Sz p (by simp[bT])).2
   have hx:rkN g (opV V o) (opV V p)=x:=hx;rw[hx]at nk
   have EI:aj [.str (QM g),.int (opV V o),.int (opV V p)]=true:=rfl
   simp only[↓gY,aT,n0,n1,nk,EI,hE,nr,aA,az,cb,bW]
  ·obtain⟨o,ho,w2⟩:∃o,(opV V o=x/\A9 V o)/\∀h,aJ h (aT N r) (.int 2)=some (jN N o):=by
    cases r
    case put t o=>exact⟨o,⟨hx,(Sz o (by simp[bT])).1⟩,λ_=>rfl⟩
    case fill o=>exact⟨o,⟨hx,(Sz o (by simp[bT])).1⟩,λ_=>rfl⟩
    case set t g o p=>exact absurd ⟨t,g,o,p,rfl⟩ hr
    all_goals cases ht
   have n0:=nm o ho.2
   rw[ho.1]at n0;have t1:∀h,qG h (.str (uh r)) (.str "set")=some (.bl false):=λh=>by
    cases r
    case set t g o p=>exact absurd ⟨t,g,o,p,rfl⟩ hr
    all_goals first | rfl | cases ht
   simp only[↓gY,w0,w2,t1,n0,hE,nr,aA,az]
 ·by_cases hr:∃o,r=.fill o
  ·obtain⟨o,rfl⟩:=hr;cases ht;have rep:=λh=>wD (h:=h) (x:=x) K.z8
   have e9z:∀h,fE h [stP V.s]=some (.int (N.z:Int)):=λh=>lenZ hz
   have ss:∀ρ,gk (.ref d) (.str N.c) (.ak [stP (List.replicate N.z x),.int V.n]) ⟨ρ,h⟩=_:=sc (jR N V x .s) rfl rfl
   simp only[↓bf,aT,g7,kc,ss,rep,e9z]
  ·have t1:∀h,qG h (.str (uh r)) (.str "fill")=some (.bl false):=λh=>by
    cases r
    case fill o=>exact absurd ⟨o,rfl⟩ hr
    all_goals first | rfl | cases ht
   have sp:Bb V s:=by
    rcases ok2 s ht with⟨_,h⟩ | ⟨⟨o,h⟩,_⟩ | ⟨_,h⟩
    ·exact h
    ·exact absurd ⟨o,h⟩ hr
    ·exact h
   cases s with
   | s=>exact absurd sp id
   | n =>
    have sn:∀ρ,gk (.ref d) (.str N.c) (.ak [stP V.s,.int x]) ⟨ρ,h⟩=_:=sc (jR N V x .n) rfl rfl
    simp only[↓bf,g7,w0,w1,t1,kc,sn]
   | i i =>
    have hI:ko V i<V.s.length:=by
     cases i with
     | «at» i=>exact sp
     | a=>exact mod_lt hs
     | b=>exact mod_lt hs
    obtain⟨q,hq⟩:∃q,ko V i=q:=⟨_,rfl⟩
    have si:∀ρ,gk (.ref d) (.str N.c) (.ak [stP (V.s.set (ko V i) x),.int V.n]) ⟨ρ,h⟩=_:=sc (jR N V x (.i i)) rfl rfl
    rw[hq]at hI si
    have c1:∀h,yP h none (some (q:Int)) (stP V.s)=some (.ak ((V.s.take q).map .int)):=λh=>by
     show some (PV.ak (iF (V.s.map .int) none (some (q:Int))))=_;rw[IA _ _ (by lia)]
    have c2:∀h,yP h (some ((q:Int)+1)) none (stP V.s)=some (.ak ((V.s.drop (q+1)).map .int)):=λh=>by
     show some (PV.ak (iF (V.s.map .int) (some ((q+1:Nat):Int)) none))=_;rw[IB _ _ (by lia)]
    have c3:=λh=>(wF (h:=h) (x:=x) hI h8).1
    have c4:=λh=>(wF (h:=h) (x:=x) hI h8).2
    have gi:(yS N i=.int (q:Int))\/∃X v,yS N i=.str X/\(∀h',h'=h->aJ h' (.ref d) (.str X)=some (.int v))/\∀h,cD h (.int v) (.int (V.s.length:Int))=some (.int (q:Int)):=by
     cases i with
     | «at» i=>exact .inl (congrArg (λz:Nat=>PV.int (z:Int)) hq)
     | a=>exact .inr ⟨_,V.a,rfl,λ_ z=>by rw[z];exact kF K e .a,λh=>by rw[<-hq];exact iW hs⟩
     | b=>exact .inr ⟨_,V.b,rfl,λ_ z=>by rw[z];exact kF K e .b,λh=>by rw[<-hq];exact iW hs⟩
    rcases gi with gi | ⟨X,v,gi,kx,mx⟩
    ·simp only[↓bf,g7,gi,w0,w1,t1,kc,si,c1,c2,c3,c4]
    ·have kx:=kx h rfl
     simp only[↓bf,g7,gi,w0,w1,t1,kc,si,c1,c2,c3,c4,kx,mx,e9]
   | _ =>
    first
    | have sa:∀ρ,gk (.ref d) (.str N.a) (.int x) ⟨ρ,h⟩=_:=sx (jR N V x .a) .a (λy hy=>by cases y<;>first | rfl | exact absurd rfl hy)
      simp only[↓bf,g7,w0,w1,sa]
    | have sa:∀ρ,gk (.ref d) (.str N.b) (.int x) ⟨ρ,h⟩=_:=sx (jR N V x .b) .b (λy hy=>by cases y<;>first | rfl | exact absurd rfl hy)
      simp only[↓bf,g7,w0,w1,sa]
end bG
set_option maxHeartbeats 4000000
namespace bG
open PySem L2 L2.U
theorem RE{N:Nm}(K:aS N){h:List ah}{va vb u v:PV}{ρ:List (Option PV)}:gk (.ref h.length) (.str (N.n .c)) v ⟨ρ,h++[cQ [(N.n .a,va),(N.n .b,vb),(N.n .c,u)]]⟩=some ⟨ρ,h++[cQ [(N.n .a,va),(N.n .b,vb),(N.n .c,v)]]⟩:=by
 have e:(h++[cQ [(N.n .a,va),(N.n .b,vb),(N.n .c,u)]])[h.length]?=some (cQ [(N.n .a,va),(N.n .b,vb),(N.n .c,u)]):=by simp
 have ky:∀x y:N3,bD (N.n x)=bD (N.n y)↔x=y:=λx y=>⟨λz=>K.n (by unfold bD at z;injection z with z1 _;injection z1),λz=>by rw[z]⟩
 have key:fj false (bD (N.n .c)) v [bD (N.n .a),bD (N.n .b),bD (N.n .c)] [va,vb,u]=cQ [(N.n .a,va),(N.n .b,vb),(N.n .c,v)]:=by
  unfold fj;simp[jA,nH,ky]
 generalize hg:h++[cQ [(N.n .a,va),(N.n .b,vb),(N.n .c,u)]]=g at e ⊢
 show((kf g (.ref h.length)).bind λc=>match c.2.k with
  | .lst=>(l7 (.str (N.n .c))).bind λi=>(BF c.2.ps.length i).map λj=>(⟨ρ,g.set c.1 ⟨.lst,c.2.ps.set j v⟩⟩:cq)
  | .gB t lJ=>(i8 t (.str (N.n .c))).bind λk=>if lJ.length<gX then some ⟨ρ,g.set c.1 (fj t k v lJ c.2.ps)⟩else none
  | _=>none)=_
 rw[dO e rfl];show(if [bD (N.n .a),bD (N.n .b),bD (N.n .c)].length<gX then some (⟨ρ,g.set h.length (fj false (bD (N.n .c)) v [bD (N.n .a),bD (N.n .b),bD (N.n .c)] [va,vb,u])⟩:cq)else none)=_
 refine(if_pos (show 3<gX by decide)).trans ?_
 rw[key,<-hg];simp
theorem yL(c:Nat){N:Nm}(K:aS N){F:Fd}{h:List ah}{V:Vs}(hv:V.b=0)(hf:F.w=false->V.s=uk N/\V.n=0) :
  run aI (c+1) "_law_begin" [fdP N F,.lst (if F.w=true then [.int V.a,CY V]else [.int V.a])] h=some (.ok (.ref h.length),h++[cQ (iB N F.w V)]):=by
 have e0:∀h,aJ h (fdP N F) (.int 1)=some (.ak ((par F.w).map (dH N))):=λh=>rfl
 have e1:∀h,aJ h (fdP N F) (.int 3)=some (.ak ((QN F.w).map (dH N))):=λh=>rfl
 have rep:=λh=>wD (h:=h) (x:=0) K.z8
 have n0:∀(x:N3) h,aJ h (dH N x) (.int 0)=some (.str (N.n x)):=λx h=>rfl
 have z1:∀h,aJ h (yr N.z) (.int 0)=some (.str "rec"):=λh=>rfl
 have z2:∀h,aJ h yt (.int 0)=some (.str "num"):=λh=>rfl
 have z3:∀h,aJ h (yr N.z) (.int 1)=some (.ak [.ak [.str "strip",.int (N.z:Int)],.ak [.str "num"]]):=λh=>rfl
 have sa:∀ρ v,gk (.ref h.length) (.str (N.n .a)) v ⟨ρ,h++[⟨.gB false [],[]⟩]⟩=some ⟨ρ,h++[cQ [(N.n .a,v)]]⟩:=λρ v=>ic (es:=[]) (by simp) (by simp)
 have sb:∀ρ v u,gk (.ref h.length) (.str (N.n .b)) v ⟨ρ,h++[cQ [(N.n .a,u)]]⟩=some ⟨ρ,h++[cQ [(N.n .a,u),(N.n .b,v)]]⟩:=λρ v u=>ic (by simp) (by simp;exact K.ab)
 have sc:∀ρ v u,gk (.ref h.length) (.str (N.n .c)) v ⟨ρ,h++[cQ [(N.n .a,u)]]⟩=some ⟨ρ,h++[cQ [(N.n .a,u),(N.n .c,v)]]⟩:=λρ v u=>ic (by simp) (by simp;exact K.ac)
 have sbc:∀ρ v u w,gk (.ref h.length) (.str (N.n .b)) v ⟨ρ,h++[cQ [(N.n .a,u),(N.n .c,w)]]⟩=some ⟨ρ,h++[cQ [(N.n .a,u),(N.n .c,w),(N.n .b,v)]]⟩:=λρ v u w=>ic (by simp) (by simp;exact⟨K.ab,λz=>K.bc z.symm⟩)
 have scb:∀ρ v u w,gk (.ref h.length) (.str (N.n .c)) v ⟨ρ,h++[cQ [(N.n .a,u),(N.n .b,w)]]⟩=some ⟨ρ,h++[cQ [(N.n .a,u),(N.n .b,w),(N.n .c,v)]]⟩:=λρ v u w=>ic (by simp) (by simp;exact⟨K.ac,K.bc⟩)
 have sc0:=λρ u v w x=>RE K (h:=h) (ρ:=ρ) (va:=u) (vb:=v) (u:=w) (v:=x)
 have rg1:oI [.int 1]=some [.int 0]:=by rfl
 have rg2:oI [.int 2]=some [.int 0,.int 1]:=by rfl
 have ln1:∀h x,fE h [.ak [dH N x]]=some (.int 1):=λh x=>rfl
 have ln2:∀h x y,fE h [.ak [dH N x,dH N y]]=some (.int 2):=λh x y=>rfl
 obtain⟨va,vb,vs,vn⟩:=V;have hv:vb=0:=hv;subst hv;obtain⟨f,w,r,rows⟩:=F;rw[A5];cases w with
 | false =>
  obtain⟨q1,q2⟩:=hf rfl;have q1:vs=uk N:=q1;have q2:vn=0:=q2;subst q1 q2;have e0:∀h,aJ h (fdP N ⟨f,false,r,rows⟩) (.int 1)=some (.ak [dH N .a]):=λh=>rfl
  have e1:∀h,aJ h (fdP N ⟨f,false,r,rows⟩) (.int 3)=some (.ak [dH N .b,dH N .c]):=λh=>rfl
  simp only[↓bf,e0,e1,rep,n0,z1,z2,z3,oJ,dH,sa,sb,sc,sbc,scb,sc0,rg1,rg2,ln1,ln2];rfl
 | true =>
  have e0:∀h,aJ h (fdP N ⟨f,true,r,rows⟩) (.int 1)=some (.ak [dH N .a,dH N .c]):=λh=>rfl
  have e1:∀h,aJ h (fdP N ⟨f,true,r,rows⟩) (.int 3)=some (.ak [dH N .b]):=λh=>rfl
  simp only[↓bf,e0,e1,rep,n0,z1,z2,z3,oJ,dH,sa,sb,sc,sbc,scb,sc0,rg1,rg2,ln1,ln2];rfl
end bG
set_option maxHeartbeats 4000000
namespace bG
open PySem L2 L2.U
theorem g8{h:List ah}{p:Nat}{xs:List PV}(e:h[p]?=some ⟨.lst,xs⟩)(i:Nat){v:PV}(hi:xs[i]?=some v):aJ h (.ref p) (.int (i:Int))=some v:=by
 have d:=ai e rfl;simp only[aJ,d];exact atI_nat hi
theorem lG{h:List ah}{p:Nat}{a b d v:PV}{ρ:List (Option PV)}(e:h[p]?=some ⟨.lst,[a,b,d]⟩):gk (.ref p) (.int 1) v ⟨ρ,h⟩=some ⟨ρ,h.set p ⟨.lst,[a,v,d]⟩⟩:=by
 show((kf h (.ref p)).bind λc=>match c.2.k with
  | .lst=>(l7 (.int 1)).bind λi=>(BF c.2.ps.length i).map λj=>(⟨ρ,h.set c.1 ⟨.lst,c.2.ps.set j v⟩⟩:cq)
  | .gB t lJ=>(i8 t (.int 1)).bind λk=>if lJ.length<gX then some ⟨ρ,h.set c.1 (fj t k v lJ c.2.ps)⟩else none
  | _=>none)=_
 rw[dO e rfl];rfl
theorem Eu(c:Nat){N:Nm}(K:aS N){h:List ah}{n q:Nat}{w:Bool}{f:Fr}{sd:List Int}{r:Rw}
  (e:h[n]?=some (cQ (iB N w f.v))) (ef:h[n+1]?=some ⟨.lst,[.int (f.j:Int),.int (f.r:Int),.ref n]⟩) (es:h[q]?=some ⟨.lst,sd.map .int⟩) (hq:q≠n/\q≠n+1)
  (hz:f.v.s.length=N.z) (ok:uq N f.v r) (II:sd.length<=4000) :
  ∃h',run aI (c+3) "_law_onward" [.ref (n+1),aT N r,.ref q] h=some (.ok .aP,h')/\h'[n]?=some (cQ (iB N w (vR N f.v r)))/\h'[n+1]?=some ⟨.lst,[.int (f.j:Int),.int (mG f.v f.r r:Int),.ref n]⟩/\h'[q]?=some ⟨.lst,(sd++r6 f.v r).map .int⟩/\Ch h h' [n,n+1,q]:=by
 have hs:1<=f.v.s.length:=by rw[hz];exact K.z1
 have hE:h.isEmpty=false:=fZ e;have nr:∀l,aj (.ref n::l)=false:=λl=>by simp[aj,noRef]
 have e2:aJ h (.ref (n+1)) (.int 2)=some (.ref n):=g8 ef 2 rfl;have e1:aJ h (.ref (n+1)) (.int 1)=some (.int (f.r:Int)):=g8 ef 1 rfl;have s1:=λρ v=>lG (ρ:=ρ) (v:=v) ef
 have nm:=λo ho=>Ja (c+1) K e hs (o:=o) (ok.o o ho).1
 have plain:∀k',Iz r=none->r6 f.v r=[]->mG f.v f.r r=k'->run aI (c+3) "_law_onward" [.ref (n+1),aT N r,.ref q] h=some (.ok .aP,h.set (n+1) ⟨.lst,[.int (f.j:Int),.int (k':Int),.ref n]⟩)->∃h',run aI (c+3) "_law_onward" [.ref (n+1),aT N r,.ref q] h=some (.ok .aP,h')/\h'[n]?=some (cQ (iB N w (vR N f.v r)))/\h'[n+1]?=some ⟨.lst,[.int (f.j:Int),.int (mG f.v f.r r:Int),.ref n]⟩/\h'[q]?=some ⟨.lst,(sd++r6 f.v r).map .int⟩/\Ch h h' [n,n+1,q]:=λk' h1 h2 h3 h4=>by
  refine⟨_,h4,?_,?_,?_,Ch.mono (Ch.set _) (by simp)⟩
  ·rw[aL (by lia),e];unfold vR;rw[h1]
  ·rw[bI ef,h3]
  ·rw[aL (by lia),es,h2,dz]
 have wr:∀s,Iz r=some s->r6 f.v r=[]->mG f.v f.r r=f.r+1->(∀h1:List ah,h1=h.set n (cQ (iB N w (vR N f.v r)))->run aI (c+3) "_law_onward" [.ref (n+1),aT N r,.ref q] h=some (.ok .aP,h1.set (n+1) ⟨.lst,[.int (f.j:Int),.int ((f.r+1:Nat):Int),.ref n]⟩))->∃h',run aI (c+3) "_law_onward" [.ref (n+1),aT N r,.ref q] h=some (.ok .aP,h')/\h'[n]?=some (cQ (iB N w (vR N f.v r)))/\h'[n+1]?=some ⟨.lst,[.int (f.j:Int),.int (mG f.v f.r r:Int),.ref n]⟩/\h'[q]?=some ⟨.lst,(sd++r6 f.v r).map .int⟩/\Ch h h' [n,n+1,q]:=λs h1 h2 h3 h4=>by
  refine⟨_,h4 _ rfl,?_,?_,?_,?_⟩
  ·rw[aL (by lia),bI e]
  ·rw[bI (c:=⟨.lst,[.int (f.j:Int),.int (f.r:Int),.ref n]⟩) (by rw[aL (by lia),ef]),h3]
  ·rw[aL (by lia),aL (by lia),es,h2,dz]
  ·exact Ch.mono (Ch.tr (A:=[n,n+1]) (Ch.mono (Ch.set _) (by simp)) (Ch.set _) (by simp)) (by simp)
 have dn:=λs ht=>Md (c) K e hz ok (s:=s) ht
 have a1:∀h,cZ h (.int (f.r:Int)) (.int 1)=some (.int ((f.r+1:Nat):Int)):=λh=>rfl
 cases r with
 | put s o =>
  refine wr s rfl rfl rfl λh1 hh=>?_
  have dn:=dn s rfl;rw[<-hh]at dn;have EJ:h1[n+1]?=some ⟨.lst,[.int (f.j:Int),.int (f.r:Int),.ref n]⟩:=by rw[hh,aL (by lia),ef]
  have s1:=λρ v=>lG (ρ:=ρ) (v:=v) EJ
  have e1:aJ h1 (.ref (n+1)) (.int 1)=some (.int (f.r:Int)):=g8 EJ 1 rfl;have i0:∀h,aJ h (aT N (.put s o)) (.int 0)=some (.str "put"):=λh=>rfl
  rw[dF];simp only[↓bf,i0,e1,e2,s1,dn,a1,hE,nr,aA,az]
 | fill o =>
  refine wr .s rfl rfl rfl λh1 hh=>?_
  have dn:=dn .s rfl;rw[<-hh]at dn;have EJ:h1[n+1]?=some ⟨.lst,[.int (f.j:Int),.int (f.r:Int),.ref n]⟩:=by rw[hh,aL (by lia),ef]
  have s1:=λρ v=>lG (ρ:=ρ) (v:=v) EJ
  have e1:aJ h1 (.ref (n+1)) (.int 1)=some (.int (f.r:Int)):=g8 EJ 1 rfl;have i0:∀h,aJ h (aT N (.fill o)) (.int 0)=some (.str "fill"):=λh=>rfl
  rw[dF];simp only[↓bf,i0,e1,e2,s1,dn,a1,hE,nr,aA,az]
 | set s g o p =>
  refine wr s rfl rfl rfl λh1 hh=>?_
  have dn:=dn s rfl;rw[<-hh]at dn;have EJ:h1[n+1]?=some ⟨.lst,[.int (f.j:Int),.int (f.r:Int),.ref n]⟩:=by rw[hh,aL (by lia),ef]
  have s1:=λρ v=>lG (ρ:=ρ) (v:=v) EJ
  have e1:aJ h1 (.ref (n+1)) (.int 1)=some (.int (f.r:Int)):=g8 EJ 1 rfl;have i0:∀h,aJ h (aT N (.set s g o p)) (.int 0)=some (.str "set"):=λh=>rfl
  rw[dF];simp only[↓bf,i0,e1,e2,s1,dn,a1,hE,nr,aA,az]
 | jh o =>
  have n0:=nm o (by simp[bT])
  have ap:=λρ=>wB (ρ:=ρ) (v:=.int (opV f.v o)) es (by rw[aN];exact II)
  obtain⟨h1,hh⟩:∃h1,h1=h.set q ⟨.lst,sd.map .int++[.int (opV f.v o)]⟩:=⟨_,rfl⟩
  rw[<-hh]at ap;have EJ:h1[n+1]?=some ⟨.lst,[.int (f.j:Int),.int (f.r:Int),.ref n]⟩:=by rw[hh,aL (by lia),ef]
  have s1:=λρ v=>lG (ρ:=ρ) (v:=v) EJ
  have e1:aJ h1 (.ref (n+1)) (.int 1)=some (.int (f.r:Int)):=g8 EJ 1 rfl;have d0:=ai es rfl;have i0:∀h,aJ h (aT N (.jh o)) (.int 0)=some (.str "say"):=λh=>rfl
  have i1:∀h,aJ h (aT N (.jh o)) (.int 1)=some (jN N o):=λh=>rfl
  refine⟨h1.set (n+1) ⟨.lst,[.int (f.j:Int),.int ((f.r+1:Nat):Int),.ref n]⟩,?_,?_,?_,?_,?_⟩
  ·rw[dF];simp only[↓bf,i0,i1,e1,e2,s1,n0,ap,d0,a1,hE,nr,aA,az]
  ·rw[aL (by lia),hh,aL (by lia),e];rfl
  ·rw[bI EJ];rfl
  ·rw[aL (by lia),hh,bI es]
   show _=some (⟨.lst,(sd++[opV f.v o]).map .int⟩:ah);rw[fW];rfl
  ·rw[hh];exact Ch.mono (Ch.tr (A:=[q,n+1]) (Ch.mono (Ch.set _) (by simp)) (Ch.set _) (by simp)) (by simp)
 | ifs o p k =>
  have n0:=nm o (by simp[bT])
  have n1:=nm p (by simp[bT])
  have lt:∀h,MP h (.int (opV f.v o)) (.int (opV f.v p))=some (.bl (decide (opV f.v o<opV f.v p))):=λh=>rfl
  have i0:∀h,aJ h (aT N (.ifs o p k)) (.int 0)=some (.str "if"):=λh=>rfl
  have i1:∀h,aJ h (aT N (.ifs o p k)) (.int 1)=some (jN N o):=λh=>rfl
  have i2:∀h,aJ h (aT N (.ifs o p k)) (.int 2)=some (jN N p):=λh=>rfl
  have i3:∀h,aJ h (aT N (.ifs o p k)) (.int 3)=some (.int (k:Int)):=λh=>rfl
  by_cases hc:opV f.v o<opV f.v p
  ·refine plain k rfl rfl (if_pos hc) ?_;have hd:=ez hc;rw[dF];simp only[↓bf,i0,i1,i2,i3,e1,e2,s1,n0,n1,lt,hd,a1,hE,nr,aA,az]
  ·refine plain (f.r+1) rfl rfl (if_neg hc) ?_;have hd:=cF hc;rw[dF];simp only[↓bf,i0,i1,i2,i3,e1,e2,s1,n0,n1,lt,hd,a1,hE,nr,aA,az]
 | go k =>
  refine plain k rfl rfl rfl ?_;rw[dF];simp only[↓bf,aT,e2,s1]
 | call j t as=>exact absurd rfl (ok.c _ _ _)
 | bh t=>exact absurd rfl (ok.g _)
end bG
set_option maxHeartbeats 4000000
namespace bG
open PySem L2 L2.U
theorem fR{h:List ah}{i j:Int}(hj:0<j):cD h (.int i) (.int j)=some (.int (i%j)):=if_pos (ez hj)
theorem nV{h:List ah}{i j:Int}(hj:0<j/\j<1073741824):gf h (.int i) (.int j)=some (.int (i/j)):=if_pos (ez hj)
theorem RF{h:List ah}{i j:Int}(hj:(-oC<i/\i<oC)\/(-oC<j/\j<oC)):lA h (.int i) (.int j)=some (.int (i*j)):=if_pos (.inl hj)
theorem Me{n:Nat}(hn:n<=4000000):oI [.int n]=some ((List.range n).map λm:Nat=>.int (m:Int)):=by
 show(if PD 0 n=true then some (GH 0 ((n:Int)).toNat)else none)=_
 rw[if_pos (by unfold PD;exact ez (by lia))]
 unfold GH;simp
noncomputable def cp(n:Int):Nat:=97+(n%26).toNat
def lt(n:Int):Str:=⟨#[cp n]⟩
def strOf(l:List Nat):Str:=⟨l.toArray⟩
theorem uw{a b:List Nat}(h:strOf a=strOf b):a=b:=by
 have:a.toArray=b.toArray:=gA Str.cps h;simpa using this
theorem Bn(a b:List Nat):strOf a++strOf b=strOf (a++b):=by
 show Str.append _ _=_;unfold Str.append strOf;simp
theorem CZ:(Str.ofString "")=strOf []:=by decide +kernel
theorem C0(l:List Nat):(strOf l).length=l.length:=by
 unfold strOf Str.length;simp
theorem Bo:∀m:Fin 26,L2.rX (Str.ofString "abcdefghijklmnopqrstuvwxyz").cps.toList ((m:Nat):Int)=some (97+(m:Nat)):=by decide +kernel
theorem ux{h:List ah}{n:Int}:aJ h (.str "abcdefghijklmnopqrstuvwxyz") (.int (n%26))=some (.str (lt n)):=by
 have h0:=fV n (show(26:Int)≠0 by decide)
 obtain⟨m,hm⟩:=Int.eq_ofNat_of_zero_le h0;have:=Bo ⟨m,by lia⟩
 show(if(Str.ofString "abcdefghijklmnopqrstuvwxyz").length<=gX then(L2.rX (Str.ofString "abcdefghijklmnopqrstuvwxyz").cps.toList (n%26)).map λc=>PV.str ⟨#[c]⟩else none)=_
 rw[if_pos (by decide +kernel),hm,this]
 show some (PV.str ⟨#[97+m]⟩)=some (PV.str ⟨#[cp n]⟩);unfold cp;rw[hm,kO]
theorem RG{a b:Int}(h:cp a=cp b):a%26=b%26:=by
 unfold cp at h
 lia
theorem Jb{l:List Nat}{n:Int}{h:List ah}(hl:l.length<=100):cZ h (.str (strOf l)) (.str (lt n))=some (.str (strOf (l++[cp n]))):=by
 have e:cZ h (.str (strOf l)) (.str (lt n))=U.sizeOk ((strOf l).length+(lt n).length) (.str (strOf l++lt n)):=rfl;rw[e,show lt n=strOf [cp n]from rfl,Bn,C0,C0]
 exact if_pos (show l.length+1<=gX by have:gX=4000000:=rfl;lia)
noncomputable abbrev RH:PV:=.str "abcdefghijklmnopqrstuvwxyz"
def RI(B:List Int)(a q i:Nat):Nat:=cp (B.getD i 0+(q:Int)*(if i=a then 1 else 0))
theorem oo(c:CT){x0 x1 x6:Option PV}{h0:List ah}(B:List Int)(a q:Nat)(hB:B.length<=50):∀(Xn pre:List Nat) (x8:Option PV),List.range B.length=pre++Xn->∃uy,fg (cS 8) (q9 c) (Xn.map λn:Nat=>.int (n:Int)) ⟨[x0,x1,some RH,some (.int q),some (.lst (B.map .int)),some (.int a),x6,some (.str (strOf (pre.map (RI B a q)))),x8],h0⟩=some (.ok .nx,⟨[x0,x1,some RH,some (.int q),some (.lst (B.map .int)),some (.int a),x6,some (.str (strOf ((List.range B.length).map (RI B a q)))),uy],h0⟩)
 | [],pre,x8,e=>⟨x8,by rw[e,dz];rfl⟩
 | i::Xn,pre,x8,e=>by
  have hi:i<B.length:=uV.mp (by rw[e];simp)
  have hp:pre.length<=B.length:=by
   have:=gA List.length e;rw[mT,bR]at this
   lia
  obtain⟨uy,h⟩:=oo c (x0:=x0) (x1:=x1) (x6:=x6) (h0:=h0) B a q hB Xn (pre++[i]) (some (.int i)) (by rw[e];simp)
  simp only[fW,aO,dQ,RI]at h;refine⟨uy,?_⟩;have hb:∀h,aJ h (.lst (B.map PV.int)) (.int (i:Int))=some (.int (B.getD i 0)):=λ_=>atI_nat (by rw[bK,kH,eu hi];rfl)
  have he:∀h,Gi h [.bl ((i:Int)==(a:Int))]=some (.int (if i=a then 1 else 0)):=λh=>by
   by_cases hh:i=a
   ·rw[if_pos hh,hh,iN];rfl
   ·rw[if_neg hh,show((i:Int)==(a:Int))=false by rw[bO];lia];rfl
  have hm:∀h,lA h (.int (q:Int)) (.int (if i=a then 1 else 0))=some (.int ((q:Int)*(if i=a then 1 else 0))):=λh=>RF (.inr (by split<;>decide))
  have hl:(pre.map (RI B a q)).length<=100:=by rw[aN];lia
  rw[aO];refine bH ?_;simp only[↓gY,hb,he,hm,HY,ux,Jb hl,h]
def wU(C:Int)(B:List Int)(a q:Nat):List Nat:=(List.range B.length).map (RI B a q)++(if C/49%2==1&&(q:Int)%2==1 then [cp (C/98)]else [])
theorem Ew(c:CT){x1:Option PV}{C:Int}(B:List Int)(a q:Nat)(hB:B.length<=50){F:List PV}(hF:F.length<=100)(x7 x8:Option PV):∃uy,lC c ⟨[some (.int C),x1,some RH,some (.int q),some (.lst (B.map .int)),some (.int a),some (.ref 0),x7,x8],[⟨.lst,F⟩]⟩=some (.ok .nx,⟨[some (.int C),x1,some RH,some (.int q),some (.lst (B.map .int)),some (.int a),some (.ref 0),some (.str (strOf (wU C B a q))),uy],[⟨.lst,F++[.str (strOf (wU C B a q))]⟩]⟩):=by
 obtain⟨uy,h⟩:=oo c (x0:=some (.int C)) (x1:=x1) (x6:=some (.ref 0)) (h0:=[⟨.lst,F⟩]) B a q hB (List.range B.length) [] x8 rfl;obtain⟨l,hl⟩:∃l,l=(List.range B.length).map (RI B a q):=⟨_,rfl⟩
 have ll:l.length<=100:=by rw[hl];simp;lia
 rw[<-hl]at h
 delta q9 fN at h
 refine⟨uy,?_⟩;have e1:fE [⟨.lst,F⟩] [.lst (B.map .int)]=some (.int (B.length:Nat)):=by show some (PV.int (((B.map PV.int).length:Nat):Int))=_;rw[aN]
 have e2:=Me (n:=B.length) (by lia)
 have hF:=λρ v=>@rA ρ F v (aX hF (by decide))
 simp only[dQ,<-CZ]at h;refine bH ?_;unfold wU;rw[<-hl];cases h1:C/49%2==1
 ·simp only[↓gY,h,e1,e2,HY,h1,hF,Bool.false_and,fT,dS,dz]
 ·cases h2:(q:Int)%2==1
  ·simp only[↓gY,h,e1,e2,HY,h1,h2,hF,nc,fT,dS,dz]
  ·simp only[↓gY,h,e1,e2,HY,h1,h2,hF,nc,eO,ux,Jb ll]
theorem rR(c:CT){x1:Option PV}{C:Int}(B:List Int)(a:Nat)(hB:B.length<=50):∀(qs:List Nat) (F:List PV) (x3 x7 x8:Option PV),F.length+qs.length<=100->∃x3' Xo uy,fg (cS 3) (lC c) (qs.map λn:Nat=>.int (n:Int)) ⟨[some (.int C),x1,some RH,x3,some (.lst (B.map .int)),some (.int a),some (.ref 0),x7,x8],[⟨.lst,F⟩]⟩=some (.ok .nx,⟨[some (.int C),x1,some RH,x3',some (.lst (B.map .int)),some (.int a),some (.ref 0),Xo,uy],[⟨.lst,F++qs.map λq=>.str (strOf (wU C B a q))⟩]⟩)
 | [],F,x3,x7,x8,_=>⟨x3,x7,x8,by simp;rfl⟩
 | q::qs,F,x3,x7,x8,hz=>by
  rw[cz]at hz;obtain⟨y8,h⟩:=Ew c (x1:=x1) (C:=C) B a q hB (F:=F) (by lia) x7 x8
  obtain⟨z3,z7,z8,h2⟩:=rR c (x1:=x1) (C:=C) B a hB qs (F++[.str (strOf (wU C B a q))]) (some (.int q)) (some (.str (strOf (wU C B a q)))) y8 (by simp;lia)
  refine⟨z3,z7,z8,?_⟩;rw[aO,aO,show F++PV.str (strOf (wU C B a q))::qs.map (λq=>PV.str (strOf (wU C B a q)))=F++[PV.str (strOf (wU C B a q))]++qs.map (λq=>PV.str (strOf (wU C B a q))) by simp]
  exact fC (s1:=⟨[some (.int C),x1,some RH,some (.int q),some (.lst (B.map .int)),some (.int a),some (.ref 0),x7,x8],[⟨.lst,F⟩]⟩) rfl h h2
theorem Mf{C:Int}{B:List Int}{a q q':Nat}(hp:a<B.length)(h1:q<26)(h2:q'<26)(h:strOf (wU C B a q)=strOf (wU C B a q')):q=q':=by
 have h:=uw h;have at_:∀q:Nat,(wU C B a q)[a]?=some (cp (B.getD a 0+(q:Int))):=λq=>by
  unfold wU;rw[fw (by simp;lia),bK,zj hp]
  simp[RI]
 have e:=gA (λl=>l[a]?) h
 simp only[at_]at e;have:=RG (bE e)
 lia
theorem RJ{C:Int}{B:List Int}{a q:Nat}(h1:1<=B.length):strOf (wU C B a q)≠"":=λh=>by
 have h:strOf (wU C B a q)=strOf []:=h.trans CZ;have:=gA List.length (uw h);unfold wU at this;rw[bR,aN,mT]at this;have:B.length+_=0:=this
 lia
noncomputable def nmX(N:Nat->Str):List Str:=(List.range 6).map N
theorem Mg(k:Nat)(C:Int):∃N:Nat->Str,(∀i j,i<6->j<6->N i=N j->i=j)/\(∀i,N i≠"")/\run aI (k+1) "_law_names" [.int C,.int 6] []=some (.ok (.ref 0),[⟨.lst,(nmX N).map .str⟩]):=by
 obtain⟨ln,Js⟩:∃ln:Nat,1+C%7=(ln:Int):=⟨(1+C%7).toNat,by lia⟩
 obtain⟨B,hB⟩:∃B:List Int,B=(List.range ln).map λi:Nat=>(C/7/((i:Int)*i+1)+5*(i:Int))%26:=⟨_,rfl⟩
 have Bl:B.length=ln:=by rw[hB];simp
 obtain⟨a,ha⟩:∃a:Nat,C/7%(ln:Int)=(a:Int):=⟨(C/7%(ln:Int)).toNat,(uJ (fV _ (by lia))).symm⟩
 have hal:a<B.length:=by
  have:=jm (C/7) (show(0:Int)<(ln:Int) by lia)
  lia
 obtain⟨x3,x7,x8,h⟩:=rR (run aI k) (x1:=some (.int 6)) (C:=C) B a (by lia) (List.range 6) [] none none none (by simp)
 refine⟨λq=>strOf (wU C B a q),λi j hi hj e=>Mf hal (by lia) (by lia) e,λi=>RJ (by lia),?_⟩
 have e1:=Me (n:=ln) (by lia)
 have e2:∀i∈List.range ln,∀h,lA h (.int (i:Int)) (.int (i:Int))=some (.int ((i:Int)*i)):=λi hi h=>RF (.inl (by have:=uV.mp hi;have:(oC:Int)=18446744073709551616:=rfl;lia))
 have e3:∀i∈List.range ln,∀h (a:Int),gf h (.int a) (.int ((i:Int)*i+1))=some (.int (a/((i:Int)*i+1))):=λi hi h a=>by
  have hi:=uV.mp hi;have i0:(0:Int)<=(i:Int)*i:=Int.mul_nonneg (by lia) (by lia)
  have i49:(i:Int)*i<=49:=by
   rcases i with _ | _ | _ | _ | _ | _ | _ | _<;>first | lia | decide
  exact nV (by lia)
 have e4:∀i∈List.range ln,∀h,lA h (.int 5) (.int (i:Int))=some (.int (5*(i:Int))):=λi hi h=>RF (.inl (by decide))
 have e5:(List.range ln).length<=4000000:=by rw[mT];lia
 have e6:(List.range ln).map (λi:Nat=>PV.int ((C/7/((i:Int)*i+1)+5*(i:Int))%26))=B.map .int:=by rw[hB,kX];rfl
 have e7:∀h,cD h (.int (C/7)) (.int (ln:Int))=some (.int (a:Int)):=λh'=>by rw[fR (by lia),ha]
 have e8:∀(f:Nat->PV) h,fE h [.lst ((List.range ln).map f)]=some (.int (ln:Int)):=λf h'=>by show some (PV.int ((((List.range ln).map f).length:Nat):Int))=_;rw[aN,mT]
 have e9:oI [.int 6]=some ((List.range 6).map λm:Nat=>.int (m:Int)):=Me (n:=6) (by decide)
 delta lC fN at h
 rw[gy,<-e6]at h;rw[A3];simp only[↓bf,Js,e1,e2,e3,e4,e5,e7,e8,e9,h,aN];rfl
end bG
set_option maxHeartbeats 4000000
namespace bG
open PySem L2 L2.U
noncomputable def aV(N:Nat->Str)(z:Nat):Nm:=⟨N 0,N 1,N 2,λj=>N (3+j),z⟩
def gV(N:Nat->Str):PV:=.lst [.str (N 0),.str (N 1),.str (N 2),.str (N 3),.str (N 4),.str (N 5)]
theorem C4(c:Nat){N:Nat->Str}{z:Nat}(z1:1<=z)(k:Int):∃s,Ru (aV N z) s/\run aI (c+1) "_law_spot" [gV N,.int (z:Int),.int k] []=some (.ok (g7 (aV N z) s),[]):=by
 obtain⟨p,hp,hz⟩:∃p:Nat,k/4%(z:Int)=(p:Int)/\p<z:=⟨(k/4%(z:Int)).toNat,(uJ (fV _ (by lia))).symm,by have:=jm (k/4) (show(0:Int)<z by lia);have:=fV (k/4) (show(z:Int)≠0 by lia);lia⟩
 have e1:∀h,cD h (.int (k/4)) (.int (z:Int))=some (.int (p:Int)):=λh=>by rw[fR (by lia),hp]
 have e4:∀h,gf h (.int k) (.int 4)=some (.int (k/4)):=λh=>nV (by decide)
 have e5:∀h,gf h (.int k) (.int 32)=some (.int (k/32)):=λh=>nV (by decide)
 obtain⟨a,ha,hi⟩:∃a,Ru (aV N z) (.i a)/\((k/32%3=0/\a=.at p)\/(k/32%3=1/\a=.a)\/(k/32%3=2/\a=.b)):=by
  rcases(by lia : k/32%3=0\/k/32%3=1\/k/32%3=2)with h | h | h
  ·exact⟨.at p,hz,.inl ⟨h,rfl⟩⟩
  ·exact⟨.a,trivial,.inr (.inl ⟨h,rfl⟩)⟩
  ·exact⟨.b,trivial,.inr (.inr ⟨h,rfl⟩)⟩
 have e2:∃i,k/32%3=i/\∀h,aJ h (.lst [.int (p:Int),.str (N 0),.str (N 1)]) (.int i)=some (yS (aV N z) a):=by
  rcases hi with⟨h,rfl⟩ | ⟨h,rfl⟩ | ⟨h,rfl⟩
  ·exact⟨_,h,λ_=>rfl⟩
  ·exact⟨_,h,λ_=>rfl⟩
  ·exact⟨_,h,λ_=>rfl⟩
 obtain⟨i,h2,e2⟩:=e2;have e6:∀h,cD h (.int (k/32)) (.int 3)=some (.int i):=λh=>by rw[fR (by decide),h2]
 have l3:∀a b d:PV,[a,b,d].length<=4000000:=λ_ _ _=>by simp
 have l4:∀a b d e:PV,[a,b,d,e].length<=4000000:=λ_ _ _ _=>by simp
 rw[Ea];rcases(by lia : k%4=0\/k%4=1\/k%4=2\/k%4=3)with h | h | h | h
 all_goals have e3:∀g,cD g (.int k) (.int 4)=_:=λg=>by rw[fR (by decide),h]
 ·exact⟨.a,trivial,by simp only[↓bf,gV,e1,e2,e3,e4,e5,e6,l3,l4];rfl⟩
 ·exact⟨.b,trivial,by simp only[↓bf,gV,e1,e2,e3,e4,e5,e6,l3,l4];rfl⟩
 ·exact⟨.i a,ha,by simp only[↓bf,gV,e1,e2,e3,e4,e5,e6,l3,l4];rfl⟩
 ·exact⟨.n,trivial,by simp only[↓bf,gV,e1,e2,e3,e4,e5,e6,l3,l4];rfl⟩
theorem rS(c:Nat){N:Nat->Str}{z:Nat}(z1:1<=z)(k q:Int):∃o,yV (aV N z) o/\run aI (c+2) "_law_operand" [gV N,.int (z:Int),.int k,.int q] []=some (.ok (jN (aV N z) o),[]):=by
 have e4:=λh=>Iw (h:=h)
 have e5:=λh x=>yC (h:=h) (x:=x)
 have e1:∀h,lA h (.int q) (.int 982451653)=some (.int (q*982451653)):=λh=>RF (.inr (by decide))
 have e3:∀h,gf h (.int k) (.int 3)=some (.int (k/3)):=λh=>nV (by decide)
 have e6:∀h,gf h (.int k) (.int 6)=some (.int (k/6)):=λh=>nV (by decide)
 have m3:∀h x,cD h (.int x) (.int 3)=some (.int (x%3)):=λh x=>fR (by decide)
 have m2:∀h x,cD h (.int x) (.int 2)=some (.int (x%2)):=λh x=>fR (by decide)
 have m8:∀h x,cD h (.int x) (.int 8)=some (.int (x%8)):=λh x=>fR (by decide)
 have q0:∀h x,qG h (.int x) (.int 0)=some (.bl (x==0)):=λh x=>rfl
 obtain⟨s,hs,e7⟩:=C4 c (N:=N) z1 (k/3);have nr:∀x y:Int,aj [gV N,.int x,.int y]=true:=λ_ _=>rfl
 rw[wj];cases h1:k%3==0
 ·refine⟨.sp s,?_,by simp only[↓bf,e1,e3,e4,e5,e6,m3,m2,m8,q0,h1,e7,nr,Bool.false_and,cb,bW];rfl⟩
  cases s
  case i i=>cases i<;>exact hs
  all_goals first | trivial | exact hs
 ·cases h2:k/3%2==0
  ·exact⟨.num _,iY _,by simp only[↓bf,e1,e3,e4,e5,e6,m3,m2,m8,q0,h1,h2,nc,fT,dS];rfl⟩
  ·refine⟨.num (k/6%8),?_,by simp only[↓bf,e1,e3,e4,e5,e6,m3,m2,m8,q0,h1,h2,nc];rfl⟩
   exact⟨fV _ (by decide),Int.lt_trans (jm _ (by decide)) (by decide +kernel)⟩
end bG
set_option maxHeartbeats 4000000
namespace bG
open PySem L2 L2.U
def Bp(h:List ah)(N:Nm)(P:List Fd):Nat->List Nat->List Fr->Prop
 | _,[],[]=>True
 | b,n::ns,f::fs=>((n=1\/5<=n)/\n+1<b/\(n+1<3\/5<=n))/\(∃F,P[f.j]?=some F/\h[n]?=some (cQ (iB N F.w f.v))/\h[n+1]?=some ⟨.lst,[.int (f.j:Int),.int (f.r:Int),.ref n]⟩)/\Bp h N P n ns fs
 | _,_,_=>False
theorem Bp.ch{h h':List ah}{N:Nm}{P:List Fd}{A:List Nat}(c:Ch h h' A):∀{ns:List Nat} {fs:List Fr} {b:Nat},(∀a∈A,a=0\/a=3\/a=4\/b<=a)->Bp h N P b ns fs->Bp h' N P b ns fs
 | [],[],_,_,_=>trivial
 | n::ns,f::fs,b,hA,⟨h1,⟨F,h2,h3,h5⟩,h4⟩=>⟨h1,⟨F,h2,c.get h3 λa=>by have:=hA _ a;lia,c.get h5 λa=>by have:=hA _ a;lia⟩,h4.ch c λa ha=>by have:=hA a ha;lia⟩
 | [],_::_,_,_,h=>h.elim
 | _::_,[],_,_,h=>h.elim
theorem Bp.len{h:List ah}{N:Nm}{P:List Fd}:∀{ns:List Nat} {fs:List Fr} {b:Nat},Bp h N P b ns fs->ns.length=fs.length
 | [],[],_,_=>rfl
 | n::ns,f::fs,b,⟨_,_,h4⟩=>by simp[h4.len]
 | [],_::_,_,h=>h.elim
 | _::_,[],_,h=>h.elim
noncomputable def eX(ns:List Nat):List PV:=ns.reverse.map λn=>.ref (n+1)
theorem eK(n:Nat)(ns:List Nat):eX (n::ns)=eX ns++[.ref (n+1)]:=by simp[eX]
structure nW (h:List ah) (N:Nm) (P:List Fd) (ns:List Nat) (fs:List Fr) (sd:List Int):Prop where
 nu:h[0]?=some ⟨.gB false (P.map λF=>bD F.f),(List.range P.length).map fun(i:Nat)=>.int (i:Int)⟩
 fl:h[3]?=some ⟨.lst,eX ns⟩
 sd:h[4]?=some ⟨.lst,sd.map .int⟩
 st:Bp h N P h.length ns fs
end bG
set_option maxHeartbeats 4000000
namespace bG
open PySem L2 L2.U
structure wL (h:List ah) (N:Nm) (P:List Fd) (n:Nat) (ns:List Nat) (f:Fr) (fs:List Fr) (sd:List Int) (F:Fd) (r:Rw):Prop where
 H:nW h N P (n::ns) (f::fs) sd
 e:P[f.j]?=some F
 r:F.rows[f.r]?=some r
 d:h[n]?=some (cQ (iB N F.w f.v))
 l:h[n+1]?=some ⟨.lst,[.int (f.j:Int),.int (f.r:Int),.ref n]⟩
theorem wL.of{h:List ah}{N:Nm}{P:List Fd}{n:Nat}{ns:List Nat}{f:Fr}{fs:List Fr}{sd:List Int}{r:Rw}(H:nW h N P (n::ns) (f::fs) sd)(hr:ee P f=some r):∃F,wL h N P n ns f fs sd F r:=by
 obtain⟨_,⟨F,h1,h2,h3⟩,_⟩:=H.st;refine⟨F,H,h1,?_,h2,h3⟩;unfold ee at hr;rw[h1]at hr;exact hr
theorem sN{N:Nm}{P:List Fd}{j:Nat}{F:Fd}(hF:P[j]?=some F):∀h,aJ h (.ak (P.map (fdP N))) (.int (j:Int))=some (fdP N F):=λh=>atI_nat (by rw[bK,hF];rfl)
theorem Ex{N:Nm}{F:Fd}{k:Nat}{r:Rw}(hr:F.rows[k]?=some r):∀h,aJ h (.ak (F.rows.map (aT N))) (.int (k:Int))=some (aT N r):=λh=>atI_nat (by rw[bK,hr];rfl)
theorem Mh(c:Nat){N:Nm}(K:aS N){P:List Fd}{h:List ah}{n:Nat}{ns:List Nat}{f:Fr}{fs:List Fr}{sd:List Int}{F:Fd}{r:Rw}(T:wL h N P n ns f fs sd F r)
  (hz:f.v.s.length=N.z) (ok:uq N f.v r) (II:sd.length<=4000) {x1 x2 x4 x7 x8 x9 x10:Option PV} :
  ∃h',bY (run aI (c+3)) ⟨[some (.ak (P.map (fdP N))),x1,x2,some (.ref 0),x4,some (.ref 3),some (.ref 4),x7,x8,x9,x10],h⟩=some (.ok .nx,⟨[some (.ak (P.map (fdP N))),x1,x2,some (.ref 0),x4,some (.ref 3),some (.ref 4),x7,some (.ref (n+1)),some (aT N r),x10],h'⟩)/\nW h' N P (n::ns) (⟨f.j,mG f.v f.r r,vR N f.v r⟩::fs) (sd++r6 f.v r):=by
 have⟨⟨Mi,hnb,hn5⟩,_,S⟩:=T.H.st;obtain⟨h',o1,o2,o3,o4,o5⟩:=Eu c K T.d T.l T.H.sd (by lia) hz ok II
 have fl:h[3]?=some ⟨.lst,eX ns++[.ref (n+1)]⟩:=by have:=T.H.fl;rw[eK]at this;exact this
 have e1:=dP fl;have e2:aJ h (.ref (n+1)) (.int 0)=some (.int (f.j:Int)):=g8 T.l 0 rfl;have e3:aJ h (.ref (n+1)) (.int 1)=some (.int (f.r:Int)):=g8 T.l 1 rfl;have e4:=sN (N:=N) T.e;have e5:∀h,aJ h (fdP N F) (.int 4)=some (.ak (F.rows.map (aT N))):=λh=>rfl
 have e6:=Ex (N:=N) T.r;have e7:=λh=>rE (h:=h) N r
 have w1:(uh r=="call")=false:=by
  cases r
  case call j t as=>exact absurd rfl (ok.c _ _ _)
  all_goals rfl
 have w2:(uh r=="give")=false:=by
  cases r
  case bh t=>exact absurd rfl (ok.g _)
  all_goals rfl
 have q:∀(h:List ah) (x y:Str),qG h (.str x) (.str y)=some (.bl (x==y)):=λh x y=>rfl
 have hE:h.isEmpty=false:=fZ T.d;have nr:∀l,aj (.ref (n+1)::l)=false:=km _
 refine⟨h',?_,⟨?_,?_,o4,?_⟩⟩
 ·refine bH ?_
  delta bY fN
  simp only[↓gY,e1,e2,e3,e4,e5,e6,e7,w1,w2,q,o1,hE,nr,aA,az]
 ·exact o5.get T.H.nu (by simp;lia)
 ·exact o5.get T.H.fl (by simp;lia)
 ·refine⟨⟨Mi,bV hnb o5.le,hn5⟩,⟨F,T.e,o2,o3⟩,S.ch o5 ?_⟩;intro a ha;simp at ha
  lia
end bG
set_option maxHeartbeats 4000000
namespace bG
open PySem L2 L2.U
theorem RK{h L:List ah}{n:Nat}{fs:List PV}{v:PV}{ρ:List (Option PV)}(e:h[n]?=some ⟨.lst,fs⟩)(hl:fs.length<=4000):fH (dY eS) (.ref n) [v] ⟨ρ,h++L⟩=some (.ok .aP,⟨ρ,h.set n ⟨.lst,fs++[v]⟩++L⟩):=by
 rw[wB (cO e) hl,List.set_append_left _ _ (eV e)]
theorem RL(c:Nat){N:Nm}(K:aS N){P:List Fd}(W:IK N P){h:List ah}{n:Nat}{ns:List Nat}{f:Fr}{fs:List Fr}{sd:List Int}{F:Fd}{j:Nat}{t:Option N3}{as:List N3}(T:wL h N P n ns f fs sd F (.call j t as))
  {G:Fd} (hG:P[j]?=some G) (hc:iX G.w as) (hl:fs.length<11) {x1 x2 x4 x7 x8 x9 x10:Option PV} :
  ∃h',bY (run aI (c+3)) ⟨[some (.ak (P.map (fdP N))),x1,x2,some (.ref 0),x4,some (.ref 3),some (.ref 4),x7,x8,x9,x10],h⟩=some (.ok .nx,⟨[some (.ak (P.map (fdP N))),x1,x2,some (.ref 0),some (.int (j:Int)),some (.ref 3),some (.ref 4),x7,some (.ref (n+1)),some (aT N (.call j t as)),x10],h'⟩)/\nW h' N P (h.length::n::ns) (⟨j,0,jd N f.v G.w as⟩::f::fs) sd:=by
 have⟨⟨Mi,hnb,hn5⟩,_,S⟩:=T.H.st;have fl:h[3]?=some ⟨.lst,eX ns++[.ref (n+1)]⟩:=by have:=T.H.fl;rw[eK]at this;exact this
 have sl:=S.len;have e1:=dP fl;have e2:aJ h (.ref (n+1)) (.int 0)=some (.int (f.j:Int)):=g8 T.l 0 rfl;have e3:aJ h (.ref (n+1)) (.int 1)=some (.int (f.r:Int)):=g8 T.l 1 rfl;have Hs:aJ h (.ref (n+1)) (.int 2)=some (.ref n):=g8 T.l 2 rfl;have e4:=sN (N:=N) T.e;have IC:=sN (N:=N) hG;have e5:∀h,aJ h (fdP N F) (.int 4)=some (.ak (F.rows.map (aT N))):=λh=>rfl
 have e6:=Ex (N:=N) T.r;have e7:∀h,aJ h (aT N (.call j t as)) (.int 0)=some (.str "call"):=λh=>rfl
 have e8:∀h,aJ h (aT N (.call j t as)) (.int 2)=some (.str (N.f j)):=λh=>rfl
 have e9:fE h [.ref 3]=some (.int ((fs.length+1:Nat):Int)):=by
  rw[rP fl];simp[eX,sl]
 have b9:(((fs.length+1:Nat):Int)==12)=false:=bO.mpr (by lia)
 have q:∀(h:List ah) (x y:Int),qG h (.int x) (.int y)=some (.bl (x==y)):=λh x y=>rfl
 have nu:aJ h (.ref 0) (.str (N.f j))=some (.int (j:Int)):=by
  have d:=ai T.H.nu rfl;simp only[aJ,d];exact CP K W hG
 have hE:h.isEmpty=false:=fZ T.d;have l1:∀a:PV,[a].length<=4000000:=λ_=>by simp
 have l2:∀a b:PV,[a,b].length<=4000000:=λ_ _=>by simp
 obtain⟨V,hV⟩:∃V,jd N f.v G.w as=V:=⟨_,rfl⟩
 rw[hV];have Sm:∀d:ah,(h++[d]).length=h.length+1:=λd=>by simp
 have d3:=λL=>ai (cO (g:=L) fl) rfl
 have Mj:=ai fl rfl;have ap:∀ρ v,fH (dY eS) (.ref 3) [v] ⟨ρ,h++[cQ (iB N G.w V)]++[⟨.lst,[.int (j:Int),.int 0,.ref h.length]⟩]⟩=some (.ok .aP,⟨ρ,h.set 3 ⟨.lst,(eX ns++[.ref (n+1)])++[v]⟩++[cQ (iB N G.w V),⟨.lst,[.int (j:Int),.int 0,.ref h.length]⟩]⟩):=λρ v=>by
  rw[jn];exact RK (L:=[cQ (iB N G.w V),⟨.lst,[.int (j:Int),.int 0,.ref h.length]⟩]) fl (by simp[eX];lia)
 have ka:aJ h (.ref n) (.str (N.n .a))=some (.int f.v.a):=kF K T.d .a;have kb:aJ h (.ref n) (.str (N.n .b))=some (.int f.v.b):=kF K T.d .b;have kc:aJ h (.ref n) (.str (N.n .c))=some (CY f.v):=kF K T.d .c;refine⟨h.set 3 ⟨.lst,(eX ns++[.ref (n+1)])++[.ref (h.length+1)]⟩++[cQ (iB N G.w V),⟨.lst,[.int (j:Int),.int 0,.ref h.length]⟩],?_,?_⟩
 ·have bg0:=λhv hf=>yL (c+2) K (F:=G) (h:=h) (V:=V) hv hf
  rcases hc with⟨hw,x,hx,rfl⟩ | ⟨hw,x,hx,rfl⟩
  ·have bg:run aI (c+3) "_law_begin" [fdP N G,.lst [.int V.a]] h=some (.ok (.ref h.length),h++[cQ (iB N G.w V)]):=by
    have:=bg0 (by rw[<-hV];unfold jd;rw[hw];rfl) (λ_=>by rw[<-hV];unfold jd;rw[hw];exact⟨rfl,rfl⟩)
    rw[hw]at this;rw[hw];exact this
   have va:V.a=f9 f.v x:=by rw[<-hV,hw];rfl
   rw[va]at bg;cases x with
   | c=>exact absurd rfl hx
   | a =>
    have bg:run aI (c+3) "_law_begin" [fdP N G,.lst ((some (.int f.v.a)).toList++[])] h=some (.ok (.ref h.length),h++[cQ (iB N G.w V)]):=bg;have i3:∀h,aJ h (aT N (.call j t [.a])) (.int 3)=some (.ak [.str (N.n .a)]):=λh=>rfl
    refine bH ?_
    delta bY fN
    simp only[↓gY,e1,e2,e3,Hs,e4,IC,e5,e6,e7,e8,e9,b9,q,nu,hE,l1,ka,kb,kc,i3,bg,Sm,d3,Mj,ap,aA,az]
   | b =>
    have bg:run aI (c+3) "_law_begin" [fdP N G,.lst ((some (.int f.v.b)).toList++[])] h=some (.ok (.ref h.length),h++[cQ (iB N G.w V)]):=bg;have i3:∀h,aJ h (aT N (.call j t [.b])) (.int 3)=some (.ak [.str (N.n .b)]):=λh=>rfl
    refine bH ?_
    delta bY fN
    simp only[↓gY,e1,e2,e3,Hs,e4,IC,e5,e6,e7,e8,e9,b9,q,nu,hE,l1,ka,kb,kc,i3,bg,Sm,d3,Mj,ap,aA,az]
  ·have bg:run aI (c+3) "_law_begin" [fdP N G,.lst [.int V.a,CY V]] h=some (.ok (.ref h.length),h++[cQ (iB N G.w V)]):=by
    have:=bg0 (by rw[<-hV];unfold jd;rw[hw];rfl) (λz=>by rw[hw]at z;cases z)
    rw[hw]at this;rw[hw];exact this
   have va:V.a=f9 f.v x:=by rw[<-hV,hw];rfl
   have vt:CY V=CY f.v:=by rw[<-hV,hw];rfl
   rw[va,vt]at bg;cases x with
   | c=>exact absurd rfl hx
   | a =>
    have bg:run aI (c+3) "_law_begin" [fdP N G,.lst ((some (.int f.v.a)).toList++((some (CY f.v)).toList++[]))] h=some (.ok (.ref h.length),h++[cQ (iB N G.w V)]):=bg;have i3:∀h,aJ h (aT N (.call j t [.a,.c])) (.int 3)=some (.ak [.str (N.n .a),.str (N.n .c)]):=λh=>rfl
    refine bH ?_
    delta bY fN
    simp only[↓gY,e1,e2,e3,Hs,e4,IC,e5,e6,e7,e8,e9,b9,q,nu,hE,l2,ka,kb,kc,i3,bg,Sm,d3,Mj,ap,aA,az]
   | b =>
    have bg:run aI (c+3) "_law_begin" [fdP N G,.lst ((some (.int f.v.b)).toList++((some (CY f.v)).toList++[]))] h=some (.ok (.ref h.length),h++[cQ (iB N G.w V)]):=bg;have i3:∀h,aJ h (aT N (.call j t [.b,.c])) (.int 3)=some (.ak [.str (N.n .b),.str (N.n .c)]):=λh=>rfl
    refine bH ?_
    delta bY fN
    simp only[↓gY,e1,e2,e3,Hs,e4,IC,e5,e6,e7,e8,e9,b9,q,nu,hE,l2,ka,kb,kc,i3,bg,Sm,d3,Mj,ap,aA,az]
 ·have h0:5<=h.length:=eV T.H.sd;have C:Ch h (h.set 3 ⟨.lst,(eX ns++[.ref (n+1)])++[.ref (h.length+1)]⟩++[cQ (iB N G.w V),⟨.lst,[.int (j:Int),.int 0,.ref h.length]⟩]) [3]:=Ch.tr (Ch.set _) (Ch.app _ _ []) (by simp)
  refine⟨C.get T.H.nu (by simp),?_,C.get T.H.sd (by simp),⟨⟨.inr h0,by simp,.inr h0⟩,⟨G,hG,by simp,?_⟩,?_⟩⟩
  ·rw[fw (by simp;lia),bI fl,eK,eK]
  ·rw[jj (by simp)]
   simp
  ·exact(T.H.st.ch C (by simp))
end bG
set_option maxHeartbeats 4000000
namespace bG
open PySem L2 L2.U
theorem RM(c:Nat){N:Nm}{P:List Fd}{h:List ah}{n:Nat}{f:Fr}{sd:List Int}{F:Fd}{t:Option N3}(T:wL h N P n [] f [] sd F (.bh t)){x1 x2 x4 x8 x9 x10:Option PV}{cnt:Nat} :
  ∃h' ρ,bY (run aI (c+3)) ⟨[some (.ak (P.map (fdP N))),x1,x2,some (.ref 0),x4,some (.ref 3),some (.ref 4),some (.int (cnt:Int)),x8,x9,x10],h⟩=some (.ok (.rt (.ak [.str "done",.ref 4,.int ((cnt+1:Nat):Int)])),⟨ρ,h'⟩)/\h'[4]?=some ⟨.lst,sd.map .int⟩:=by
 have fl:h[3]?=some ⟨.lst,[]++[.ref (n+1)]⟩:=T.H.fl;have e1:=dP fl;have e2:aJ h (.ref (n+1)) (.int 0)=some (.int (f.j:Int)):=g8 T.l 0 rfl;have e3:aJ h (.ref (n+1)) (.int 1)=some (.int (f.r:Int)):=g8 T.l 1 rfl;have e4:=sN (N:=N) T.e;have e5:∀h,aJ h (fdP N F) (.int 4)=some (.ak (F.rows.map (aT N))):=λh=>rfl
 have e6:=Ex (N:=N) T.r;have e7:∀h,aJ h (aT N (.bh t)) (.int 0)=some (.str "give"):=λh=>rfl
 have Mj:=ai fl rfl;have pp:=λρ=>pop_at (ρ:=ρ) fl
 obtain⟨h1,hh⟩:∃h1,h1=h.set 3 ⟨.lst,[]⟩:=⟨_,rfl⟩
 have g3:h1[3]?=some ⟨.lst,[]⟩:=by rw[hh,bI fl]
 rw[<-hh]at pp;have ln:fE h1 [.ref 3]=some (.int 0):=rP g3;have ad:∀h,cZ h (.int (cnt:Int)) (.int 1)=some (.int ((cnt+1:Nat):Int)):=λh=>rfl
 refine⟨h1,?_⟩;refine⟨[some (.ak (P.map (fdP N))),x1,x2,some (.ref 0),x4,some (.ref 3),some (.ref 4),some (.int (cnt:Int)),some (.ref (n+1)),some (aT N (.bh t)),x10],?_,by rw[hh,aL (by decide)];exact T.H.sd⟩
 refine bH ?_
 delta bY fN
 simp only[↓gY,e1,e2,e3,e4,e5,e6,e7,Mj,pp,ln,ad]
theorem RN(c:Nat){N:Nm}(K:aS N){P:List Fd}{h:List ah}{n m:Nat}{ms:List Nat}{f g:Fr}{gs:List Fr}{sd:List Int}{F G:Fd}{t u:Option N3}{j:Nat}{as:List N3}(T:wL h N P n (m::ms) f (g::gs) sd F (.bh t))
  (hG:P[g.j]?=some G) (hr:G.rows[g.r]?=some (.call j u as)) (hk:ie u t) {x1 x2 x4 x7 x8 x9 x10:Option PV} :
  ∃h',bY (run aI (c+3)) ⟨[some (.ak (P.map (fdP N))),x1,x2,some (.ref 0),x4,some (.ref 3),some (.ref 4),x7,x8,x9,x10],h⟩=some (.ok .nx,⟨[some (.ak (P.map (fdP N))),x1,x2,some (.ref 0),x4,some (.ref 3),some (.ref 4),x7,some (.ref (n+1)),some (aT N (.bh t)),some (.str (Cw N u))],h'⟩)/\nW h' N P (m::ms) (IP g f.v t u::gs) sd:=by
 obtain⟨⟨Mi,hnb,hn5⟩,_,⟨⟨hm1,hmb,hm5⟩,⟨G',hG',D,E⟩,S⟩⟩:=T.H.st;rw[hG]at hG';cases hG';have fl:h[3]?=some ⟨.lst,eX (m::ms)++[.ref (n+1)]⟩:=by have:=T.H.fl;rw[eK]at this;exact this
 have e1:=dP fl;have e2:aJ h (.ref (n+1)) (.int 0)=some (.int (f.j:Int)):=g8 T.l 0 rfl;have e3:aJ h (.ref (n+1)) (.int 1)=some (.int (f.r:Int)):=g8 T.l 1 rfl;have e4:=sN (N:=N) T.e;have f4:=sN (N:=N) hG;have e5:∀F h,aJ h (fdP N F) (.int 4)=some (.ak (F.rows.map (aT N))):=λF h=>rfl
 have e6:=Ex (N:=N) T.r;have f6:=Ex (N:=N) hr;have e7:∀h,aJ h (aT N (.bh t)) (.int 0)=some (.str "give"):=λh=>rfl
 have e8:∀h,aJ h (aT N (.bh t)) (.int 1)=some (.str (Cw N t)):=λh=>rfl
 have f7:∀h,aJ h (aT N (.call j u as)) (.int 1)=some (.str (Cw N u)):=λh=>rfl
 have Mj:=ai fl rfl;have pp:=λρ=>pop_at (ρ:=ρ) fl
 obtain⟨h1,hh⟩:∃h1,h1=h.set 3 ⟨.lst,eX (m::ms)⟩:=⟨_,rfl⟩
 rw[<-hh]at pp;have g3:h1[3]?=some ⟨.lst,eX (m::ms)⟩:=by rw[hh,bI fl]
 have ln:fE h1 [.ref 3]=some (.int ((ms.length+1:Nat):Int)):=by
  rw[rP g3];simp[eX]
 have q:∀h,qG h (.int ((ms.length+1:Nat):Int)) (.int 0)=some (.bl false):=λh=>by
  show some (PV.bl (((ms.length+1:Nat):Int)==0))=_;rw[bO.mpr (by lia)]
 have gE:h1[m+1]?=some ⟨.lst,[.int (g.j:Int),.int (g.r:Int),.ref m]⟩:=by rw[hh,aL (by lia),E]
 have gD:h1[m]?=some (cQ (iB N G.w g.v)):=by rw[hh,aL (by lia),D]
 have gd:h1[n]?=some (cQ (iB N F.w f.v)):=by rw[hh,aL (by lia),T.d]
 have gl:h1[n+1]?=some ⟨.lst,[.int (f.j:Int),.int (f.r:Int),.ref n]⟩:=by rw[hh,aL (by lia),T.l]
 have Xd:h1[3]?=some ⟨.lst,eX ms++[.ref (m+1)]⟩:=by rw[g3,eK]
 have a1:=dP Xd;have a2:aJ h1 (.ref (m+1)) (.int 0)=some (.int (g.j:Int)):=g8 gE 0 rfl;have a3:aJ h1 (.ref (m+1)) (.int 1)=some (.int (g.r:Int)):=g8 gE 1 rfl;have a4:aJ h1 (.ref (m+1)) (.int 2)=some (.ref m):=g8 gE 2 rfl;have a5:aJ h1 (.ref (n+1)) (.int 2)=some (.ref n):=g8 gl 2 rfl;have s1:=λρ v=>lG (ρ:=ρ) (v:=v) gE
 have ad:∀h,cZ h (.int (g.r:Int)) (.int 1)=some (.int ((g.r+1:Nat):Int)):=λh=>rfl
 have C1:Ch h h1 [3]:=by rw[hh];exact Ch.set _
 have gW:∀h2,Ch h1 h2 [m,m+1]->h2[m]?=some (cQ (iB N G.w (IP g f.v t u).v))->h2[m+1]?=some ⟨.lst,[.int (g.j:Int),.int ((g.r+1:Nat):Int),.ref m]⟩->nW h2 N P (m::ms) (IP g f.v t u::gs) sd:=λh2 C y1 y2=>by
  have C2:Ch h h2 [3,m,m+1]:=Ch.tr (C1.mono (by simp)) C (by simp)
  exact⟨C2.get T.H.nu (by simp;lia),C.get g3 (by simp;lia),C2.get T.H.sd (by simp;lia),⟨⟨hm1,by have:=C2.le;lia,hm5⟩,⟨G,hG,y1,y2⟩,S.ch C2 (by simp)⟩⟩
 have b0:∀x:N3,(N.n x != "")=true:=λx=>by
  rw[bne_iff_ne];cases x
  ·exact K.a0
  ·exact K.b0
  ·exact K.c0
 cases u with
 | none =>
  cases t with
  | some y=>exact absurd hk id
  | none =>
   refine⟨h1.set (m+1) ⟨.lst,[.int (g.j:Int),.int ((g.r+1:Nat):Int),.ref m]⟩,?_,gW _ ((Ch.set _).mono (by simp)) (by rw[aL (by lia),gD];rfl) (bI gE)⟩
   have f7:∀h,aJ h (aT N (.call j none as)) (.int 1)=some (.str ""):=f7
   refine bH ?_
   delta bY fN
   simp only[↓gY,e1,e2,e3,e4,e5,e6,e7,e8,f4,f6,f7,Mj,pp,ln,ad,q,a1,a2,a3,a4,a5,s1];rfl
 | some x =>
  cases t with
  | none=>exact absurd hk id
  | some y =>
   have hk:mJ x y:=hk;have e8:∀h,aJ h (aT N (.bh (some y))) (.int 1)=some (.str (N.n y)):=e8
   have f7:∀h,aJ h (aT N (.call j (some x) as)) (.int 1)=some (.str (N.n x)):=f7
   have ne:∀h,MR h (.str (N.n x)) (.str "")=some (.bl true):=λh=>by
    show some (PV.bl (N.n x != ""))=_;rw[b0]
   have k1:aJ h1 (.ref n) (.str (N.n y))=some (oW (Ny g.v f.v y x) x):=by
    rw[kF K gd y];unfold mJ at hk;cases x<;>cases y<;>simp at hk<;>rfl
   have st:=λρ=>nU K (w:=G.w) gD (V':=Ny g.v f.v y x) x (ρ:=ρ) (λz hz=>by
    cases x<;>cases z<;>first | rfl | exact absurd rfl hz)
   obtain⟨h2,LZ⟩:∃h2,h2=h1.set m (cQ (iB N G.w (Ny g.v f.v y x))):=⟨_,rfl⟩
   rw[<-LZ]at st;have gE2:h2[m+1]?=some ⟨.lst,[.int (g.j:Int),.int (g.r:Int),.ref m]⟩:=by rw[LZ,aL (by lia),gE]
   have g32:h2[3]?=some ⟨.lst,eX ms++[.ref (m+1)]⟩:=by rw[LZ,aL (by lia),Xd]
   have c1:=dP g32;have c3:aJ h2 (.ref (m+1)) (.int 1)=some (.int (g.r:Int)):=g8 gE2 1 rfl;have s2:=λρ v=>lG (ρ:=ρ) (v:=v) gE2
   refine⟨h2.set (m+1) ⟨.lst,[.int (g.j:Int),.int ((g.r+1:Nat):Int),.ref m]⟩,?_,gW _ ?_ ?_ (bI gE2)⟩
   ·refine bH ?_
    delta bY fN
    simp only[↓gY,e1,e2,e3,e4,e5,e6,e7,e8,f4,f6,f7,Mj,pp,ln,ad,q,a1,a2,a3,a4,a5,ne,k1,st,c1,c3,s2];rfl
   ·rw[LZ];exact Ch.tr ((Ch.set _).mono (by simp)) (Ch.set _) (by simp)
   ·rw[aL (by lia),LZ,bI gD]
    rfl
end bG
set_option maxHeartbeats 4000000
namespace bG
open PySem L2 L2.U
theorem fRt{g:Tg}{b:Gx dw}{p v:PV}{ps:List PV}{s s1 s2:cq}(h0:g p s=some s1)(h1:b s1=some (.ok (.rt v),s2)):fg g b (p::ps) s=some (.ok (.rt v),s2):=by
 exact eB (show stp (g p) s=some (.ok .nx,s1)from VT h0) (eB h1 rfl)
theorem RO(c:Nat){N:Nm}{P:List Fd}{h:List ah}{n:Nat}{ns:List Nat}{f:Fr}{fs:List Fr}{sd:List Int}{F:Fd}{j:Nat}{t:Option N3}{as:List N3}(T:wL h N P n ns f fs sd F (.call j t as))
  (hl:fs.length=11) {x1 x2 x4 x8 x9 x10:Option PV} {cnt:Nat} :
  bY (run aI (c+3)) ⟨[some (.ak (P.map (fdP N))),x1,x2,some (.ref 0),x4,some (.ref 3),some (.ref 4),some (.int (cnt:Int)),x8,x9,x10],h⟩=some (.ok (.rt (.ak [.str "deep",.ref 4,.int (cnt:Int)])),⟨[some (.ak (P.map (fdP N))),x1,x2,some (.ref 0),x4,some (.ref 3),some (.ref 4),some (.int (cnt:Int)),some (.ref (n+1)),some (aT N (.call j t as)),x10],h⟩):=by
 have fl:h[3]?=some ⟨.lst,eX ns++[.ref (n+1)]⟩:=by have:=T.H.fl;rw[eK]at this;exact this
 have S:=T.H.st.2.2;have e1:=dP fl;have e2:aJ h (.ref (n+1)) (.int 0)=some (.int (f.j:Int)):=g8 T.l 0 rfl;have e3:aJ h (.ref (n+1)) (.int 1)=some (.int (f.r:Int)):=g8 T.l 1 rfl;have e4:=sN (N:=N) T.e;have e5:∀h,aJ h (fdP N F) (.int 4)=some (.ak (F.rows.map (aT N))):=λh=>rfl
 have e6:=Ex (N:=N) T.r;have e7:∀h,aJ h (aT N (.call j t as)) (.int 0)=some (.str "call"):=λh=>rfl
 have e9:fE h [.ref 3]=some (.int 12):=by
  rw[rP fl];simp[eX,S.len,hl]
 refine bH ?_
 delta bY fN
 simp only[↓gY,e1,e2,e3,e4,e5,e6,e7,e9]
theorem RP(c:Nat){N:Nm}(K:aS N){P:List Fd}(W:jI N P){h:List ah}{n:Nat}{ns:List Nat}{f:Fr}{fs:List Fr}{sd:List Int}{r:Rw}
  (H:nW h N P (n::ns) (f::fs) sd) (O:ig N P none (f::fs)) (hr:ee P f=some r) (hl:fs.length<=11) (II:sd.length<=4000) (hd:¬(fs.length=11/\∃j t as,r=.call j t as)) (hn:(cP N P f fs sd r).1≠[]) {x1 x2 x4 x7 x8 x9 x10:Option PV} :
  ∃h' yQ Np uy SD Ey,bY (run aI (c+3)) ⟨[some (.ak (P.map (fdP N))),x1,x2,some (.ref 0),x4,some (.ref 3),some (.ref 4),x7,x8,x9,x10],h⟩=some (.ok .nx,⟨[some (.ak (P.map (fdP N))),x1,x2,some (.ref 0),Np,some (.ref 3),some (.ref 4),x7,uy,SD,Ey],h'⟩)/\nW h' N P yQ (cP N P f fs sd r).1 (cP N P f fs sd r).2:=by
 obtain⟨F,T⟩:=wL.of H hr;have Rz:=cX T.e;have L7:=W.r F Rz r (cX T.r);have v:=O.1;have mL:(∀t,r≠.bh t)->(∀j t as,r≠.call j t as)->cP N P f fs sd r=(⟨f.j,mG f.v f.r r,vR N f.v r⟩::fs,sd++r6 f.v r)->∃h' yQ Np uy SD Ey,bY (run aI (c+3)) ⟨[some (.ak (P.map (fdP N))),x1,x2,some (.ref 0),x4,some (.ref 3),some (.ref 4),x7,x8,x9,x10],h⟩=some (.ok .nx,⟨[some (.ak (P.map (fdP N))),x1,x2,some (.ref 0),Np,some (.ref 3),some (.ref 4),x7,uy,SD,Ey],h'⟩)/\nW h' N P yQ (cP N P f fs sd r).1 (cP N P f fs sd r).2:=λg1 g2 e=>by
  obtain⟨h',e1,e2⟩:=Mh c K T v.z (Nz K v L7 g1 g2) II (x1:=x1) (x2:=x2) (x4:=x4) (x7:=x7) (x8:=x8) (x9:=x9) (x10:=x10);rw[e];exact⟨h',_,_,_,_,_,e1,e2⟩
 cases r with
 | put s o=>exact mL (by simp) (by simp) rfl
 | fill o=>exact mL (by simp) (by simp) rfl
 | set s g o p=>exact mL (by simp) (by simp) rfl
 | jh o=>exact mL (by simp) (by simp) rfl
 | ifs o p k=>exact mL (by simp) (by simp) rfl
 | go k=>exact mL (by simp) (by simp) rfl
 | call j t as =>
  obtain⟨G,g1,g2,g3⟩:=L7;have CW:fs.length<11:=by
   have:¬fs.length=11:=λz=>hd ⟨z,_,_,_,rfl⟩
   lia
  obtain⟨h',e1,e2⟩:=RL c K W.p T g1 g2 CW (x1:=x1) (x2:=x2) (x4:=x4) (x7:=x7) (x8:=x8) (x9:=x9) (x10:=x10);have hw:IS P j=G.w:=by unfold IS;rw[g1];rfl
  refine⟨h',h.length::n::ns,_,_,_,_,e1,?_⟩;show nW h' N P _ (⟨j,0,jd N f.v (IS P j) as⟩::f::fs) sd;rw[hw];exact e2
 | bh t =>
  cases fs with
  | nil=>exact absurd rfl hn
  | cons g gs =>
   cases ns with
   | nil=>exact absurd H.st.2.2 id
   | cons m ms =>
    obtain⟨_,⟨G,hG,_,_⟩,_⟩:=H.st.2.2;obtain⟨vg,⟨q,hq,hc⟩,_⟩:=O.2.2;obtain⟨u,as,rfl⟩:=hc f.j rfl;have Ad:G.rows[g.r]?=some (.call f.j u as):=by unfold ee at hq;rw[hG]at hq;exact hq
    obtain⟨G',y1,_,y3⟩:=W.r G (cX hG) _ (cX Ad);rw[T.e]at y1;cases y1;have hk:=y3 t (cX T.r);obtain⟨h',e1,e2⟩:=RN c K T hG Ad hk (x1:=x1) (x2:=x2) (x4:=x4) (x7:=x7) (x8:=x8) (x9:=x9) (x10:=x10);refine⟨h',m::ms,_,_,_,_,e1,?_⟩;show nW h' N P _ (IP g f.v t (Wm (ee P g))::gs) sd;rw[hq];exact e2
theorem RQ(c:Nat){N:Nm}(K:aS N){P:List Fd}(W:jI N P){most:Nat}(hm:most<=4000){x1 x2:Option PV}:∀(k cnt:Nat) (h:List ah) (ns:List Nat) (fD:List Fr) (sd:List Int) (x4 x7 x8 x9 x10:Option PV),nW h N P ns fD sd->ig N P none fD->fD≠[]->fD.length<=12->cnt+k=most->sd.length<=cnt ->
  ∃h' w yK iz q ρ,gq N P k cnt fD sd=(w,yK,iz)/\h'[4]?=some ⟨.lst,yK.map .int⟩/\yK.length<=most /\
   ((q=dw.rt (.ak [.str w,.ref 4,.int (iz:Int)]))\/(q=dw.nx/\w="more"/\iz=most/\∃Np Xo uy SD Ey,ρ=[some (.ak (P.map (fdP N))),x1,x2,some (.ref 0),Np,some (.ref 3),some (.ref 4),Xo,uy,SD,Ey])) /\
   fg (cS 7) (bY (run aI (c+3))) ((List.range' cnt k).map λm:Nat=>.int (m:Int)) ⟨[some (.ak (P.map (fdP N))),x1,x2,some (.ref 0),x4,some (.ref 3),some (.ref 4),x7,x8,x9,x10],h⟩=some (.ok q,⟨ρ,h'⟩):=by
 intro k;induction k with
 | zero =>
  intro cnt h ns fD sd x4 x7 x8 x9 x10 H O yG hl hc hs;exact⟨h,"more",sd,cnt,_,_,rfl,H.sd,by lia,.inr ⟨rfl,rfl,by lia,_,_,_,_,_,rfl⟩,rfl⟩
 | succ k ih =>
  intro cnt h ns fD sd x4 x7 x8 x9 x10 H O yG hl hc hs;rw[List.range'_succ,aO];cases fD with
  | nil=>exact absurd rfl yG
  | cons f fs =>
   cases ns with
   | nil=>exact absurd H.st id
   | cons n ns =>
    obtain⟨v,⟨r,hr,_⟩,O2⟩:=O;have O:ig N P none (f::fs):=⟨v,⟨r,hr,λj z=>by cases z⟩,O2⟩
    have Wo:fs.length<=11:=by simpa using hl
    obtain⟨F,T⟩:=wL.of H hr;by_cases hdp:fs.length=11/\∃j t as,r=.call j t as
    ·obtain⟨CW,j,t,as,rfl⟩:=hdp;have Bm:gq N P (k+1) cnt (f::fs) sd=(("deep":Str),sd,cnt):=by
      unfold gq;rw[hr];show(if fs.length=11 then _ else _)=_
      rw[if_pos CW]
     exact⟨h,"deep",sd,cnt,_,_,Bm,H.sd,by lia,.inl rfl,fRt (s1:=⟨[some (.ak (P.map (fdP N))),x1,x2,some (.ref 0),x4,some (.ref 3),some (.ref 4),some (.int (cnt:Int)),x8,x9,x10],h⟩) rfl (RO c T CW)⟩
    ·by_cases sM:(cP N P f fs sd r).1=[]
     ·have hgv:∃t,r=.bh t/\fs=[]:=by
       cases r
       case bh t =>
        cases fs with
        | nil=>exact⟨_,rfl,rfl⟩
        | cons g gs=>cases sM
       all_goals cases sM
      obtain⟨t,rfl,rfl⟩:=hgv;have EA:ns=[]:=mO H.st.2.2.len;subst EA;have Bm:gq N P (k+1) cnt [f] sd=(("done":Str),sd,cnt+1):=by
       unfold gq;rw[hr]
      obtain⟨h',ρ,e1,e2⟩:=RM c T (x1:=x1) (x2:=x2) (x4:=x4) (x8:=x8) (x9:=x9) (x10:=x10) (cnt:=cnt);exact⟨h',"done",sd,cnt+1,_,ρ,Bm,e2,by lia,.inl rfl,fRt (s1:=⟨[some (.ak (P.map (fdP N))),x1,x2,some (.ref 0),x4,some (.ref 3),some (.ref 4),some (.int (cnt:Int)),x8,x9,x10],h⟩) rfl e1⟩
     ·obtain⟨h',yQ,y4,y8,y9,y10,e1,e2⟩:=RP c K W H O hr Wo (by lia) hdp sM (x1:=x1) (x2:=x2) (x4:=x4) (x7:=some (.int (cnt:Int))) (x8:=x8) (x9:=x9) (x10:=x10)
      have O':=IW K W (sd:=sd) O hr;have Js:=IY (N:=N) (P:=P) (f:=f) (fs:=fs) (sd:=sd) (r:=r);have hsl:=IX (N:=N) (P:=P) (f:=f) (fs:=fs) (sd:=sd) (r:=r);obtain⟨h2,w,yK,iz,q,ρ,y1,y2,y3,y5,y6⟩:=ih (cnt+1) h' yQ _ _ y4 (some (.int (cnt:Int))) y8 y9 y10 e2 O' sM (by
       by_cases CW:fs.length=11
       ·have:=Js.2 λj t as z=>hdp ⟨CW,j,t,as,z⟩
        lia
       ·lia) (by lia) (by lia)
      refine⟨h2,w,yK,iz,q,ρ,by rw[IZ hr hdp sM];exact y1,y2,y3,y5,?_⟩
      exact fC (s1:=⟨[some (.ak (P.map (fdP N))),x1,x2,some (.ref 0),x4,some (.ref 3),some (.ref 4),some (.int (cnt:Int)),x8,x9,x10],h⟩) rfl e1 y6
end bG
set_option maxHeartbeats 4000000
namespace bG
open PySem L2 L2.U
theorem Ml{h2:List ah}{w:Str}{sd:List Int}{cnt:Nat}(e:h2[4]?=some ⟨.lst,sd.map .int⟩):eF h2 (.ak [.str w,.ref 4,.int (cnt:Int)])=some (.ak [.str w,.lst (sd.map .int),.int (cnt:Int)]):=by
 have Eo:=fZ e;unfold eF;rw[if_neg (by rw[Eo];exact cR)]
 have d4:lx h2 3 (.ref 4)=some (.lst (sd.map .int)):=by
  show((h2[4]?).bind λc=>if live c=true then(dC (lx h2 2) c.ps).map (PV.nd c.k)else none)=_
  rw[e];show(dC (lx h2 2) (sd.map .int)).map (PV.nd Kd.lst)=_;rw[mC (dG (λ_=>rfl) sd)]
  rfl
 show((some (PV.str w)).bind λa=>((lx h2 3 (.ref 4)).bind λb=>((some (PV.int (cnt:Int))).bind λd=>(some []).map λr=>d::r).map λr=>b::r).map λr=>a::r).map (PV.nd Kd.ak)=_
 rw[d4];rfl
theorem RR(c:Nat){N:Nm}(K:aS N){P:List Fd}(W:jI N P){F0:Fd}(h0:P[0]?=some F0)(hw:F0.w=false){x:Int}(hx:Bd x){most:Nat}(hm:most<=4000) :
  ∃p h',run aI (c+4) "_law_due" [.ak (P.map (fdP N)),.int x,.int (most:Int)] []=some (.ok p,h')/\eF h' p=some (Mb N P most x)/\(gq N P most 0 [⟨0,0,⟨x,0,uk N,0⟩⟩] []).2.1.length<=4000:=by
 have O:ig N P none [⟨0,0,⟨x,0,uk N,0⟩⟩]:=by
  obtain⟨q,hq⟩:=rO (V:=⟨x,0,uk N,0⟩) (k:=0) h0 (W.l F0 (cX h0)).1;exact⟨⟨by simp[uk],hx,IV,IV,λy hy=>by
   have hy:y∈List.replicate N.z 0:=hy;rw[pE hy];exact IV⟩,⟨q,hq,λj z=>by cases z⟩,trivial⟩
 have hP:=W.p.p;obtain⟨G0,G1,G2,hP⟩:=hP;have hG:F0=G0:=by rw[hP]at h0;cases h0;rfl
 subst hG;have n0:=W.p.n 0 F0 h0;have n1:=W.p.n 1 G1 (by rw[hP];rfl)
 have n2:=W.p.n 2 G2 (by rw[hP];rfl)
 have d01:F0.f≠G1.f:=λz=>by rw[n0,n1]at z;exact absurd (K.ff 0 1 (by decide) (by decide) z) (by decide)
 have d02:F0.f≠G2.f:=λz=>by rw[n0,n2]at z;exact absurd (K.ff 0 2 (by decide) (by decide) z) (by decide)
 have d12:G1.f≠G2.f:=λz=>by rw[n1,n2]at z;exact absurd (K.ff 1 2 (by decide) (by decide) z) (by decide)
 obtain⟨V,hV⟩:∃V:Vs,V=⟨x,0,uk N,0⟩:=⟨_,rfl⟩
 obtain⟨D,hD⟩:∃D:ah,D=⟨.gB false (P.map λF=>bD F.f),(List.range P.length).map fun(i:Nat)=>.int (i:Int)⟩:=⟨_,rfl⟩
 have hD':D=cQ [(F0.f,.int 0),(G1.f,.int 1),(G2.f,.int 2)]:=by rw[hD,hP];rfl
 obtain⟨E,hE⟩:∃E:ah,E=cQ (iB N false V):=⟨_,rfl⟩
 have H:nW [D,E,⟨.lst,[.int 0,.int 0,.ref 1]⟩,⟨.lst,[.ref 2]⟩,⟨.lst,[]⟩] N P [1] [⟨0,0,⟨x,0,uk N,0⟩⟩] []:=by
  refine⟨by rw[hD];rfl,rfl,rfl,⟨⟨.inl rfl,(show 1+1<5 by decide),.inl (by decide)⟩,⟨F0,h0,?_,rfl⟩,trivial⟩⟩
  rw[hw,<-hV];show some E=_;rw[hE]
 obtain⟨h',w,sd,cnt,q,ρ,y1,y2,y3,y4,y5⟩:=RQ c K W hm (x1:=some (.int x)) (x2:=some (.int (most:Int))) most 0 _ [1] _ [] (some (.int 2)) none none none none H O (by simp) (by simp) (by lia) (by simp)
 have aaA:Mb N P most x=.ak [.str w,.lst (sd.map .int),.int (cnt:Int)]:=by unfold Mb;rw[y1]
 rw[aaA,y1];have rg:oI [.int (most:Int)]=some ((List.range' 0 most).map λm:Nat=>.int (m:Int)):=by rw[Me (by lia),List.range_eq_range']
 have Xp:oI [.int 3]=some [.int 0,.int 1,.int 2]:=rfl;have i0:∀h,aJ h (.ak (P.map (fdP N))) (.int 0)=some (fdP N F0):=sN (j:=0) h0
 have i1:∀h,aJ h (.ak (P.map (fdP N))) (.int 1)=some (fdP N G1):=sN (j:=1) (by rw[hP];rfl)
 have i2:∀h,aJ h (.ak (P.map (fdP N))) (.int 2)=some (fdP N G2):=sN (j:=2) (by rw[hP];rfl)
 have f0:∀F h,aJ h (fdP N F) (.int 0)=some (.str F.f):=λF h=>rfl
 obtain⟨C1,hC1⟩:∃C:ah,C=cQ [(F0.f,.int 0)]:=⟨_,rfl⟩
 obtain⟨C2,hC2⟩:∃C:ah,C=cQ [(F0.f,.int 0),(G1.f,.int 1)]:=⟨_,rfl⟩
 have s0:∀ρ,gk (.ref 0) (.str F0.f) (.int 0) ⟨ρ,[⟨.gB false [],[]⟩]⟩=some ⟨ρ,[C1]⟩:=λρ=>by rw[hC1];exact ic (h:=[]) (L:=[]) (es:=[]) (by simp) (by simp)
 have s1:∀ρ,gk (.ref 0) (.str G1.f) (.int 1) ⟨ρ,[C1]⟩=some ⟨ρ,[C2]⟩:=λρ=>by rw[hC1,hC2];exact ic (h:=[]) (L:=[]) (by simp) (by simp;exact d01)
 have s2:∀ρ,gk (.ref 0) (.str G2.f) (.int 2) ⟨ρ,[C2]⟩=some ⟨ρ,[D]⟩:=λρ=>by rw[hD',hC2];exact ic (h:=[]) (L:=[]) (by simp) (by simp;exact⟨d02,d12⟩)
 have bg:run aI (c+3) "_law_begin" [fdP N F0,.lst [.int x]] [D]=some (.ok (.ref 1),[D,E]):=by
  have:=yL (c+2) K (F:=F0) (h:=[D]) (V:=V) (by rw[hV]) (λ_=>by rw[hV];exact⟨rfl,rfl⟩)
  rw[hw]at this;rw[hE,hV];rw[hV]at this;exact this
 delta bY fN at y5
 have gW:=Ml (w:=w) (cnt:=cnt) y2;refine⟨.ak [.str w,.ref 4,.int (cnt:Int)],h',?_,gW,aX y3 hm⟩;rw[HV];rcases y4 with rfl | ⟨rfl,rfl,rfl,Np,Xo,uy,SD,Ey,rfl⟩
 ·simp only[↓bf,rg,Xp,i0,i1,i2,f0,s0,s1,s2,bg,y5]
 ·simp only[↓bf,rg,Xp,i0,i1,i2,f0,s0,s1,s2,bg,y5]
end bG
set_option maxHeartbeats 4000000
namespace bG
open PySem L2 L2.U
theorem Jc(c:Nat)(x:Int):run aI (c+1) "_law_whole" [.int x] []=some (.ok (.bl true),[]):=by
 rw[AZ];simp only[↓bf];rfl
theorem toT_ints(h:List ah)(n:Nat):∀l:List Int,dC (toT h (n+1)) (l.map PV.int)=some (l.map Tr.int)
 | []=>rfl
 | x::l=>by
  show(some (Tr.int x)).bind (λy=>(dC (toT h (n+1)) (l.map PV.int)).map λr=>y::r)=_
  rw[toT_ints h n l];rfl
theorem Mm(l:List Int):∀h,qG h (.lst (l.map .int)) (.lst (l.map .int))=some (.bl true):=λh=>by
 obtain⟨m,hm⟩:∃m,kd=m+2:=⟨_,rfl⟩
 have e:toT h kd (.lst (l.map .int))=some (.lst (l.map Tr.int)):=by
  rw[hm];show(dC (toT h (m+1)) (l.map PV.int)).bind (Us .lst)=_;rw[toT_ints];rfl
 show(((toT h kd _).bind λx=>(toT h kd _).map λy=>eqT x y).map PV.bl)=_
 rw[e];show some (PV.bl (eqT _ _))=_;rw[gI]
theorem Mn(w:Str):∀h,MR h (.str w) (.str w)=some (.bl false):=λh=>by
 show some (PV.bl (!(eqT (.str w) (.str w))))=_;rw[gI];rfl
theorem Ez(n:Int):∀h,qG h (.int n) (.int n)=some (.bl true):=λh=>by
 show some (PV.bl (eqT (.int n) (.int n)))=_;rw[gI]
theorem uz{bd:PV->List ah->Option (Option PV×List ah)}{h:List ah}(H:∀x:Int,bd (.int x) h=some (none,h)):∀l:List Int,fu bd (l.map PV.int) h=some ([],h)
 | []=>rfl
 | x::l=>by
  show(bd (.int x) h).bind (λr=>(fu bd (l.map PV.int) r.2).map λs=>(r.1.toList++s.1,s.2))=_
  rw[H x];show(fu bd (l.map PV.int) h).map _=_;rw[uz H l];rfl
theorem Mo(c:Nat)(w:Str){l:List Int}(hl:l.length<=9000)(n:Int):run aI (c+2) "_law_told" [.ak [.str w,.lst (l.map .int),.int n,.ak []],.ak [.str w,.lst (l.map .int),.int n]] []=some (.ok (.bl true),[]):=by
 have e1:=λx=>Jc c x
 have e2:=Mm l;have e3:∀h,MR h (.lst []) (.lst [])=some (.bl false):=λh=>rfl
 have e4:=Mn w;have e5:=Ez n;have e6:∀h,MR h (.ak []) (.ak [])=some (.bl false):=λh=>rfl
 have Wo:l.length<=4000000:=aX hl (by decide)
 have cp:=λx1:Option PV=>uz (bd:=xG (cS 1) (Kr (sk (bnd (i7 (rd 1) (cC [])) (mv 0 1 (run aI (c+1) "_law_whole"))))) (rd 1) [none,x1]) (h:=[]) (λx=>e2F (MV:=[none,some (.int x)]) (h1:=[]) rfl (by
  refine bH ?_;simp only[↓gY,e1];rfl)) l
 rw[Ee];simp only[↓bf,e1,e2,e3,e4,e5,e6,cp,Wo,aN]
end bG
set_option maxHeartbeats 4000000
namespace bG
open PySem L2 L2.U
def yM(M:Nm)(j:Nat)(r:Option N3):PV:=.ak [.str (M.f j),.ak ((par (j==2)).map (dH M)),rm M r]
def lK(M:Nm)(r1 r2:Option N3):PV:=.lst [yM M 0 none,yM M 1 r1,yM M 2 r2]
noncomputable def rs(r1 r2:Option N3):Nat->Option N3
 | 0=>none
 | 1=>r1
 | _=>r2
def kq(r:Option N3):Prop:=r=none\/r=some .a\/r=some .c
theorem C5(c:Nat)(z:Nat):run aI (c+1) "_law_wide" [.int (z:Int)] []=some (.ok (yr z),[]):=by
 rw[Ec];simp only[↓bf];rfl
theorem Jd(c:Nat)(N:Nat->Str)(z:Nat)(k:Int):∃r1 r2,kq r1/\kq r2/\run aI (c+2) "_law_heads" [gV N,.int (z:Int),.int k] []=some (.ok (lK (aV N z) r1 r2),[]):=by
 have e1:=C5 c z;have e2:∀h,gf h (.int k) (.int 2)=some (.int (k/2)):=λh=>nV (by decide)
 have l2:∀a b:PV,[a,b].length<=4000000:=λ_ _=>by simp
 have l3:∀a b d:PV,[a,b,d].length<=4000000:=λ_ _ _=>by simp
 rw[A4];rcases(by lia : k%2=0\/k%2=1)with h | h<;>rcases(by lia : k/2%3=0\/k/2%3=1\/k/2%3=2)with g | g | g
 all_goals have e3:∀g,cD g (.int k) (.int 2)=_:=λg=>by rw[fR (by decide),h]
 all_goals have e4:∀h,cD h (.int (k/2)) (.int 3)=_:=λh=>by rw[fR (by decide),g]
 ·exact⟨some .a,some .c,.inr (.inl rfl),.inr (.inr rfl),by simp only[↓bf,gV,e1,e2,e3,e4,l2,l3];rfl⟩
 ·exact⟨some .a,some .a,.inr (.inl rfl),.inr (.inl rfl),by simp only[↓bf,gV,e1,e2,e3,e4,l2,l3];rfl⟩
 ·exact⟨some .a,none,.inr (.inl rfl),.inl rfl,by simp only[↓bf,gV,e1,e2,e3,e4,l2,l3];rfl⟩
 ·exact⟨none,some .c,.inl rfl,.inr (.inr rfl),by simp only[↓bf,gV,e1,e2,e3,e4,l2,l3];rfl⟩
 ·exact⟨none,some .a,.inl rfl,.inr (.inl rfl),by simp only[↓bf,gV,e1,e2,e3,e4,l2,l3];rfl⟩
 ·exact⟨none,none,.inl rfl,.inl rfl,by simp only[↓bf,gV,e1,e2,e3,e4,l2,l3];rfl⟩
theorem Je(M:Nm){r:Option N3}(hr:kq r):∀h,qG h (rm M r) (.ak [.str "num"])=some (.bl (match r with | some .a=>true | _=>false)):=λh=>by
 rcases hr with rfl | rfl | rfl<;>rfl
theorem Jf(M:Nm){r:Option N3}(hr:kq r):∀h,Gq h (rm M r) .aP=some (.bl (match r with | none=>false | _=>true)):=λh=>by
 rcases hr with rfl | rfl | rfl<;>rfl
theorem Mp(c:Nat)(N:Nat->Str)(z:Nat){r1 r2:Option N3}(k1:kq r1)(k2:kq r2)(c0 c1 c2:Int):∃j t as,j<3/\iX (j==2) as/\ie (rs r1 r2 j) t/\run aI (c+1) "_law_call" [gV N,lK (aV N z) r1 r2,.lst [.int c0,.int c1,.int c2]] []=some (.ok (aT (aV N z) (.call j t as)),[]):=by
 have l2:∀a b:PV,[a,b].length<=4000000:=λ_ _=>by simp
 have b2:∃x,x≠N3.c/\∃i,c1%2=i/\∀h,aJ h (gV N) (.int i)=some (.str ((aV N z).n x)):=by
  rcases(by lia : c1%2=0\/c1%2=1)with h | h
  ·exact⟨.a,(by intro z;cases z),_,h,λ_=>rfl⟩
  ·exact⟨.b,(by intro z;cases z),_,h,λ_=>rfl⟩
 have b3:∃x,x≠N3.c/\∃i,c2%2=i/\∀h,aJ h (gV N) (.int i)=some (.str ((aV N z).n x)):=by
  rcases(by lia : c2%2=0\/c2%2=1)with h | h
  ·exact⟨.a,(by intro z;cases z),_,h,λ_=>rfl⟩
  ·exact⟨.b,(by intro z;cases z),_,h,λ_=>rfl⟩
 obtain⟨x,hx,i,h1,e1⟩:=b2;obtain⟨y,hy,i',h2,e2⟩:=b3;have e4:∀h,cD h (.int c1) (.int 2)=some (.int i):=λh=>by rw[fR (by decide),h1]
 have e5:∀h,cD h (.int c2) (.int 2)=some (.int i'):=λh=>by rw[fR (by decide),h2]
 have n2:∀h,aJ h (gV N) (.int 2)=some (.str ((aV N z).n .c)):=λh=>rfl
 have gW:∀j r,j<3->kq r->r=rs r1 r2 j->c0%3=(j:Int)->(∀h,aJ h (lK (aV N z) r1 r2) (.int (j:Int))=some (yM (aV N z) j r))->∃j t as,j<3/\iX (j==2) as/\ie (rs r1 r2 j) t/\run aI (c+1) "_law_call" [gV N,lK (aV N z) r1 r2,.lst [.int c0,.int c1,.int c2]] []=some (.ok (aT (aV N z) (.call j t as)),[]):=λj r hj hr er h0 e6=>by
  have e3:∀h,cD h (.int c0) (.int 3)=some (.int (j:Int)):=λh=>by rw[fR (by decide),h0]
  have e7:∀h,aJ h (yM (aV N z) j r) (.int 0)=some (.str ((aV N z).f j)):=λh=>rfl
  have e8:∀h,aJ h (yM (aV N z) j r) (.int 1)=some (.ak ((par (j==2)).map (dH (aV N z)))):=λh=>rfl
  have e9:∀h,aJ h (yM (aV N z) j r) (.int 2)=some (rm (aV N z) r):=λh=>rfl
  have q1:=Je (aV N z) hr;have q2:=Jf (aV N z) hr;have Pf:∃as,iX (j==2) as/\∃m,(∀h,fE h [.ak ((par (j==2)).map (dH (aV N z)))]=some (.int m))/\∀h,yP h none (some m) (.lst [.str ((aV N z).n x),.str ((aV N z).n .c)])=some (.lst (as.map λx=>.str ((aV N z).n x))):=by
   cases hjj:j==2
   ·exact⟨[x],.inl ⟨rfl,x,hx,rfl⟩,1,λ_=>rfl,λ_=>rfl⟩
   ·exact⟨[x,.c],.inr ⟨rfl,x,hx,rfl⟩,2,λ_=>rfl,λ_=>rfl⟩
  obtain⟨as,ha,m,m1,m2⟩:=Pf;rw[Eb];rcases hr with rfl | rfl | rfl
  ·exact⟨j,none,as,hj,ha,(by rw[<-er];trivial),by simp only[↓bf,e1,e2,e3,e4,e5,e6,e7,e8,e9,q1,q2,m1,m2,n2,l2];rfl⟩
  ·exact⟨j,some y,as,hj,ha,(by rw[<-er];exact(show N3.a=.c↔y=.c from⟨(λh=>by cases h),λh=>absurd h hy⟩)),by simp only[↓bf,e1,e2,e3,e4,e5,e6,e7,e8,e9,q1,q2,m1,m2,n2,l2];rfl⟩
  ·exact⟨j,some .c,as,hj,ha,(by rw[<-er];exact Iff.rfl),by simp only[↓bf,e1,e2,e3,e4,e5,e6,e7,e8,e9,q1,q2,m1,m2,n2,l2];rfl⟩
 rcases(by lia : c0%3=0\/c0%3=1\/c0%3=2)with h | h | h
 ·exact gW 0 none (by decide) (.inl rfl) rfl h λ_=>rfl
 ·exact gW 1 r1 (by decide) k1 rfl h λ_=>rfl
 ·exact gW 2 r2 (by decide) k2 rfl h λ_=>rfl
end bG
set_option maxHeartbeats 4000000
namespace bG
open PySem L2 L2.U
def RS(M:Nm)(r1 r2:Option N3)(m:Nat):Rw->Prop
 | .put s o=>Ru M s/\yV M o
 | .fill o=>yV M o
 | .set s _ o p=>Ru M s/\yV M o/\yV M p
 | .jh o=>yV M o
 | .call j t as=>j<3/\iX (j==2) as/\ie (rs r1 r2 j) t
 | .ifs o p k=>yV M o/\yV M p/\k<m
 | .go k=>k<m
 | .bh _=>False
theorem Jg(N:Nat->Str):noRef (gV N)=true:=rfl
theorem Wr(M:Nm)(j:Nat)(r:Option N3):noRef (yM M j r)=true:=by
 have:=Ic M r;simp[yM,dH,noRef,aj,dG,iL,this]
theorem C6(M:Nm)(r1 r2:Option N3):noRef (lK M r1 r2)=true:=by
 simp[lK,noRef,aj,Wr]
theorem RT(c:Nat)(N:Nat->Str){z:Nat}(z1:1<=z){r1 r2:Option N3}(k1:kq r1)(k2:kq r2){m:Nat}(hm:1<=m)(Uy:m<1000)(k:Int):∃r,RS (aV N z) r1 r2 m r/\run aI (c+3) "_law_row" [gV N,.int (z:Int),lK (aV N z) r1 r2,.int k,.int (m:Int)] []=some (.ok (aT (aV N z) r),[]):=by
 have w1:∀h,lA h (.int k) (.int 48271)=some (.int (k*48271)):=λh=>RF (.inr (by decide))
 have w2:∀h,lA h (.int k) (.int 69621)=some (.int (k*69621)):=λh=>RF (.inr (by decide))
 have w3:∀h,lA h (.int k) (.int 16807)=some (.int (k*16807)):=λh=>RF (.inr (by decide))
 have v1:∀h x,cD h (.int x) (.int 2147483647)=some (.int (x%2147483647)):=λh x=>fR (by decide)
 have v2:∀h x,cD h (.int x) (.int 2147483629)=some (.int (x%2147483629)):=λh x=>fR (by decide)
 have v3:∀h x,cD h (.int x) (.int 2147483587)=some (.int (x%2147483587)):=λh x=>fR (by decide)
 obtain⟨c0,hc0⟩:∃c0,k*48271%2147483647=c0:=⟨_,rfl⟩
 obtain⟨c1,YX⟩:∃c0,k*69621%2147483629=c0:=⟨_,rfl⟩
 obtain⟨c2,OG⟩:∃c0,k*16807%2147483587=c0:=⟨_,rfl⟩
 have v1:∀h,cD h (.int (k*48271)) (.int 2147483647)=some (.int c0):=λh=>by rw[v1,hc0]
 have v2:∀h,cD h (.int (k*69621)) (.int 2147483629)=some (.int c1):=λh=>by rw[v2,YX]
 have v3:∀h,cD h (.int (k*16807)) (.int 2147483587)=some (.int c2):=λh=>by rw[v3,OG]
 obtain⟨o,ho,eo⟩:=rS c (N:=N) z1 c1 k;obtain⟨p,hp,ep⟩:=rS c (N:=N) z1 c2 (k+1);obtain⟨s,hs,es⟩:=C4 (c+1) (N:=N) z1 c0;obtain⟨j,t,as,hj,ha,ht,ec⟩:=Mp (c+1) N z k1 k2 c0 c1 c2;obtain⟨q,hq,hqm⟩:∃q:Nat,c0%(m:Int)=(q:Int)/\q<m:=⟨(c0%(m:Int)).toNat,(uJ (fV _ (by lia))).symm,by have:=jm c0 (show(0:Int)<m by lia);have:=fV c0 (show(m:Int)≠0 by lia);lia⟩
 have eq:∀h,cD h (.int c0) (.int (m:Int))=some (.int (q:Int)):=λh=>by rw[fR (by lia),hq]
 have l3:∀a b d:PV,[a,b,d].length<=4000000:=λ_ _ _=>by simp
 have SE:∀x y:Int,aj [gV N,.int (z:Int),.int x,.int y]=true:=λ_ _=>rfl
 have Nv:∀x:Int,aj [gV N,.int (z:Int),.int x]=true:=λ_=>rfl
 have EI:aj [gV N,lK (aV N z) r1 r2,.lst [.int c0,.int c1,.int c2]]=true:=by simp[aj,Jg,C6,noRef]
 have e9:∃n,k%9=n/\0<=n/\n<9:=⟨_,rfl,by lia,by lia⟩
 obtain⟨n,hn,n0,n9⟩:=e9;have v9:∀h,cD h (.int k) (.int 9)=some (.int n):=λh=>by rw[fR (by decide),hn]
 have q0:∀h,qG h (.int n) (.int 0)=some (.bl (n==0)):=λh=>rfl
 have t3:∀h,MP h (.int n) (.int 3)=some (.bl (decide (n<3))):=λh=>rfl
 have t5:∀h,MP h (.int n) (.int 5)=some (.bl (decide (n<5))):=λh=>rfl
 have t7:∀h,MP h (.int n) (.int 7)=some (.bl (decide (n<7))):=λh=>rfl
 have d9:∀h,gf h (.int k) (.int 9)=some (.int (k/9)):=λh=>nV (by decide)
 have sg:∃g i,k/9%3=i/\∀h,aJ h (.str "+-*") (.int i)=some (.str (QM g)):=by
  rcases(by lia : k/9%3=0\/k/9%3=1\/k/9%3=2)with h | h | h
  ·exact⟨.add,_,h,λ_=>rfl⟩
  ·exact⟨.sub,_,h,λ_=>rfl⟩
  ·exact⟨.mul,_,h,λ_=>rfl⟩
 obtain⟨g,i,hi,eg⟩:=sg;have m3:∀h,cD h (.int (k/9)) (.int 3)=some (.int i):=λh=>by rw[fR (by decide),hi]
 have ad:∀h,cZ h (.int k) (.int 1)=some (.int (k+1)):=λh=>rfl
 rw[HU,Md0 (qs:=[gV N,.int (z:Int),lK (aV N z) r1 r2,.int k,.int (m:Int),.lst [.int c0,.int c1,.int c2]]),Md0 (qs:=[gV N,.int (z:Int),lK (aV N z) r1 r2,.int k,.int (m:Int),.lst [.int c0,.int c1,.int c2],jN (aV N z) o]),Md0 (qs:=[gV N,.int (z:Int),lK (aV N z) r1 r2,.int k,.int (m:Int),.lst [.int c0,.int c1,.int c2],jN (aV N z) o,jN (aV N z) p])];rotate_left
 ·exact bH (by simp only[↓gY,ep,SE,ad];rfl)
 ·exact bH (by simp only[↓gY,eo,SE];rfl)
 ·exact bH (by simp only[↓gY,w1,w2,w3,v1,v2,v3,l3];rfl)
 rcases(by lia : n=0\/n=7\/n=8\/(n=1\/n=2)\/(n=3\/n=4)\/(n=5\/n=6))with rfl | rfl | rfl | h | h | h
 ·exact⟨.put s o,⟨hs,ho⟩,by simp only[↓bf,v9,es,Nv];rfl⟩
 ·exact⟨.ifs o p q,⟨ho,hp,hqm⟩,by simp only[↓bf,v9,eq];rfl⟩
 ·exact⟨.go q,hqm,by simp only[↓bf,v9,eq];rfl⟩
 ·have b0:(n==0)=false:=by rcases h with rfl | rfl<;>rfl
  have b1:decide (n<3)=true:=by rcases h with rfl | rfl<;>rfl
  exact⟨.set s g o p,⟨hs,ho,hp⟩,by simp only[↓bf,v9,es,eg,m3,d9,Nv,q0,b0,b1,t3];rfl⟩
 ·have b0:(n==0)=false:=by rcases h with rfl | rfl<;>rfl
  have b1:decide (n<3)=false:=by rcases h with rfl | rfl<;>rfl
  have b2:decide (n<5)=true:=by rcases h with rfl | rfl<;>rfl
  exact⟨.jh o,ho,by simp only[↓bf,v9,q0,b0,b1,b2,t3,t5];rfl⟩
 ·have b0:(n==0)=false:=by rcases h with rfl | rfl<;>rfl
  have b1:decide (n<3)=false:=by rcases h with rfl | rfl<;>rfl
  have b2:decide (n<5)=false:=by rcases h with rfl | rfl<;>rfl
  have b3:decide (n<7)=true:=by rcases h with rfl | rfl<;>rfl
  exact⟨.call j t as,⟨hj,ha,ht⟩,by simp only[↓bf,v9,ec,EI,q0,b0,b1,b2,b3,t3,t5,t7]⟩
end bG
set_option maxHeartbeats 4000000
namespace bG
open PySem L2 L2.U
theorem yN(c:Nat)(N:Nat->Str){z:Nat}(z1:1<=z){r1 r2:Option N3}(k1:kq r1)(k2:kq r2){m:Nat}(hm:1<=m)(Uy:m<1000){x3 x4 x5 x9:Option PV}:∀(L:List Int) (F:List PV) (x8:Option PV),F.length+L.length<=100 ->
  ∃(R:List Rw) (uy:Option PV),(∀r∈R,RS (aV N z) r1 r2 m r)/\R.length=L.length/\fg (cS 8) (iK (run aI (c+3))) (L.map .int) ⟨[some (gV N),some (.int (z:Int)),some (lK (aV N z) r1 r2),x3,x4,x5,some (.ref 0),some (.int (m:Int)),x8,x9],[⟨.lst,F⟩]⟩=some (.ok .nx,⟨[some (gV N),some (.int (z:Int)),some (lK (aV N z) r1 r2),x3,x4,x5,some (.ref 0),some (.int (m:Int)),uy,x9],[⟨.lst,F++R.map (aT (aV N z))⟩]⟩)
 | [],F,x8,_=>⟨[],x8,(λ_ h=>by cases h),rfl,by rw[dQ,dQ,dz];rfl⟩
 | k::L,F,x8,hl=>by
  rw[cz]at hl;obtain⟨r,hr,er⟩:=RT c N z1 k1 k2 hm Uy k;obtain⟨R,uy,h1,h2,h3⟩:=yN c N z1 k1 k2 hm Uy (x3:=x3) (x4:=x4) (x5:=x5) (x9:=x9) L (F++[aT (aV N z) r]) (some (.int k)) (by simp;lia)
  refine⟨r::R,uy,?_,by simp[h2],?_⟩
  ·intro q hq;rcases aD.mp hq with rfl | hq
   ·exact hr
   ·exact h1 q hq
  have ap:=λρ v=>@rA ρ F v (by lia)
  have EI:aj [gV N,.int (z:Int),lK (aV N z) r1 r2,.int k,.int (m:Int)]=true:=by simp[aj,Jg,C6,noRef]
  rw[aO,aO,show F++aT (aV N z) r::R.map (aT (aV N z))=F++[aT (aV N z) r]++R.map (aT (aV N z)) by simp]
  refine fC (s1:=⟨[some (gV N),some (.int (z:Int)),some (lK (aV N z) r1 r2),x3,x4,x5,some (.ref 0),some (.int (m:Int)),some (.int k),x9],[⟨.lst,F⟩]⟩) (s2:=⟨[some (gV N),some (.int (z:Int)),some (lK (aV N z) r1 r2),x3,x4,x5,some (.ref 0),some (.int (m:Int)),some (.int k),x9],[⟨.lst,F++[aT (aV N z) r]⟩]⟩) rfl ?_ h3;refine bH ?_
  delta iK fN
  simp only[↓gY,er,ap,EI,cb,bW]
theorem RU{r1 r2:Option N3}(k1:kq r1)(k2:kq r2):∀j,kq (rs r1 r2 j)
 | 0=>.inl rfl
 | 1=>k1
 | _+2=>k2
theorem Ws(M:Nm)(r1 r2:Option N3){j:Nat}(hj:j<3):∀h,aJ h (lK M r1 r2) (.int (j:Int))=some (yM M j (rs r1 r2 j)):=λh=>by
 rcases(by lia : j=0\/j=1\/j=2)with rfl | rfl | rfl<;>rfl
def Mq(w:Bool)(R:List Rw):Prop:=(∃b,R[0]?=some (.put .b (.num b))/\Bd b)/\(w=false->(∃s,R[1]?=some (.fill (.num s))/\Bd s)/\∃n,R[2]?=some (.put .n (.num n))/\Bd n)
theorem wM(c:Nat)(N:Nat->Str){z:Nat}(z1:1<=z){r1 r2:Option N3}(k1:kq r1)(k2:kq r2){j:Nat}(hj:j<3){L:List Int}(hL:L.length<=66)(x:Int) :
  ∃(R:List Rw) (t:Option N3) (p:PV) (h':List ah),R.length<=70/\(∀r∈R,RS (aV N z) r1 r2 (R.length+1) r)/\ie (rs r1 r2 j) t/\Mq (j==2) R/\run aI (c+4) "_law_rows" [gV N,.int (z:Int),lK (aV N z) r1 r2,.int (j:Int),.lst (L.map .int),.int x] []=some (.ok p,h')/\eF h' p=some (.ak ((R++[Rw.bh t]).map (aT (aV N z)))):=by
 have e0:=RU k1 k2 j;have e1:=Ws (aV N z) r1 r2 hj;obtain⟨r,hr⟩:∃r,r=rs r1 r2 j:=⟨_,rfl⟩
 rw[<-hr]at e0 e1 ⊢;have e9:∀h,aJ h (yM (aV N z) j r) (.int 2)=some (rm (aV N z) r):=λh=>rfl
 have q1:=Je (aV N z) e0;have q2:=Jf (aV N z) e0;have Wt:=λh=>Iw (h:=h)
 have Wu:=λh x=>yC (h:=h) (x:=x)
 have a1:∀h n,cZ h (.int (j:Int)) (.int n)=some (.int ((j:Int)+n)):=λh n=>rfl
 have d1:∀h,gf h (.int x) (.int ((j:Int)+1))=some (.int (x/((j:Int)+1))):=λh=>nV (by lia)
 have d3:∀h,gf h (.int x) (.int ((j:Int)+3))=some (.int (x/((j:Int)+3))):=λh=>nV (by lia)
 have d5:∀h,gf h (.int x) (.int ((j:Int)+5))=some (.int (x/((j:Int)+5))):=λh=>nV (by lia)
 have dd:∀h,gf h (.int x) (.int 5)=some (.int (x/5)):=λh=>nV (by decide)
 have m7:∀h x,cD h (.int x) (.int 7)=some (.int (x%7)):=λh x=>fR (by decide)
 have b3:∃y,y≠N3.c/\∃i,x/5%2=i/\∀h,aJ h (gV N) (.int i)=some (.str ((aV N z).n y)):=by
  rcases(by lia : x/5%2=0\/x/5%2=1)with h | h
  ·exact⟨.a,(by intro z;cases z),_,h,λ_=>rfl⟩
  ·exact⟨.b,(by intro z;cases z),_,h,λ_=>rfl⟩
 obtain⟨y,hy,i,hi,ei⟩:=b3;have m2:∀h,cD h (.int (x/5)) (.int 2)=some (.int i):=λh=>by rw[fR (by decide),hi]
 have n2:∀h,aJ h (gV N) (.int 2)=some (.str (N 2)):=λh=>rfl
 have n1:∀h,aJ h (gV N) (.int 1)=some (.str (N 1)):=λh=>rfl
 obtain⟨t,ht,gv⟩:∃t,ie r t/\(Cw (aV N z) t=match(generalizing:=false) r with | none=>Str.ofString "" | some .a=>(aV N z).n y | _=>N 2):=by
  rcases e0 with rfl | rfl | rfl
  ·exact⟨none,trivial,rfl⟩
  ·exact⟨some y,(show N3.a=.c↔y=.c from⟨(λh=>by cases h),λh=>absurd h hy⟩),rfl⟩
  ·exact⟨some .c,(show N3.c=.c↔N3.c=.c from Iff.rfl),rfl⟩
 have GA:∀h,MP h (.int (j:Int)) (.int 2)=some (.bl (decide ((j:Int)<2))):=λh=>rfl
 have ln:∀h,fE h [.lst (L.map .int)]=some (.int (L.length:Int)):=λh=>by show some (PV.int (((L.map PV.int).length:Nat):Int))=_;rw[aN]
 obtain⟨wN,Mi⟩:∃n:Int,n=x/((j:Int)+1)%wC:=⟨_,rfl⟩
 obtain⟨RV,Tu⟩:∃n:Int,n=x/((j:Int)+3)%7:=⟨_,rfl⟩
 obtain⟨NB,hn3⟩:∃n:Int,n=x/((j:Int)+5)%wC:=⟨_,rfl⟩
 have bd7:Bd RV:=by rw[Tu];exact⟨fV _ (by decide),Int.lt_trans (jm _ (by decide)) (by decide +kernel)⟩
 have w1:∀h,cD h (.int (x/((j:Int)+1))) (.int wC)=some (.int wN):=λh=>by rw[Wu,Mi]
 have w2:∀h,cD h (.int (x/((j:Int)+3))) (.int 7)=some (.int RV):=λh=>by rw[m7,Tu]
 have w3:∀h,cD h (.int (x/((j:Int)+5))) (.int wC)=some (.int NB):=λh=>by rw[Wu,hn3]
 have A1:∀ρ a v,fH (dY eS) (.ref 0) [v] ⟨ρ,[⟨.lst,[a]⟩]⟩=some (.ok .aP,⟨ρ,[⟨.lst,[a,v]⟩]⟩):=λρ a v=>rA (by simp)
 have A2:∀ρ a b v,fH (dY eS) (.ref 0) [v] ⟨ρ,[⟨.lst,[a,b]⟩]⟩=some (.ok .aP,⟨ρ,[⟨.lst,[a,b,v]⟩]⟩):=λρ a b v=>rA (by simp)
 have gW:∀I:List Rw,I.length<=3->(∀m,∀r∈I,RS (aV N z) r1 r2 m r)->(∀R,Mq (j==2) (I++R))->(∀(R:List Rw) (x8:Option PV),(∀r∈R,RS (aV N z) r1 r2 (L.length+I.length+1) r)->R.length=L.length ->
   fg (cS 8) (iK (run aI (c+3))) (L.map .int) ⟨[some (gV N),some (.int (z:Int)),some (lK (aV N z) r1 r2),some (.int (j:Int)),some (.lst (L.map .int)),some (.int x),some (.ref 0),some (.int ((L.length+I.length+1:Nat):Int)),none,none],[⟨.lst,I.map (aT (aV N z))⟩]⟩=some (.ok .nx,⟨[some (gV N),some (.int (z:Int)),some (lK (aV N z) r1 r2),some (.int (j:Int)),some (.lst (L.map .int)),some (.int x),some (.ref 0),some (.int ((L.length+I.length+1:Nat):Int)),x8,none],[⟨.lst,I.map (aT (aV N z))++R.map (aT (aV N z))⟩]⟩) ->
   run aI (c+4) "_law_rows" [gV N,.int (z:Int),lK (aV N z) r1 r2,.int (j:Int),.lst (L.map .int),.int x] []=some (.ok (.ak (I.map (aT (aV N z))++R.map (aT (aV N z))++[.ak [.str "give",.str (Cw (aV N z) t)]])),[⟨.lst,I.map (aT (aV N z))++R.map (aT (aV N z))⟩])) ->
   ∃(R:List Rw) (t:Option N3) (p:PV) (h':List ah),R.length<=70/\(∀r∈R,RS (aV N z) r1 r2 (R.length+1) r)/\ie r t/\Mq (j==2) R/\run aI (c+4) "_law_rows" [gV N,.int (z:Int),lK (aV N z) r1 r2,.int (j:Int),.lst (L.map .int),.int x] []=some (.ok p,h')/\eF h' p=some (.ak ((R++[Rw.bh t]).map (aT (aV N z)))):=λI hI hIr hIi H=>by
  obtain⟨R,x8,g1,g2,g3⟩:=yN c N z1 k1 k2 (m:=L.length+I.length+1) (by lia) (by lia) (x3:=some (.int (j:Int))) (x4:=some (.lst (L.map .int))) (x5:=some (.int x)) (x9:=none) L (I.map (aT (aV N z))) none (by simp;lia)
  have len:(I++R).length+1=L.length+I.length+1:=by simp;lia
  refine⟨I++R,t,_,_,by simp;lia,?_,ht,hIi R,H R x8 g1 g2 g3,?_⟩
  ·rw[len];intro q hq;rcases b8.mp hq with hq | hq
   ·exact hIr _ q hq
   ·exact g1 q hq
  ·rw[show I.map (aT (aV N z))++R.map (aT (aV N z))++[.ak [.str "give",.str (Cw (aV N z) t)]]=(I++R++[Rw.bh t]).map (aT (aV N z)) by simp[aT]]
   exact jJ (A7 (dG (rn _) _))
 cases hd:decide ((j:Int)<2)
 ·refine gW [.put .b (.num wN)] (by simp) (λm q hq=>?_) (λR=>⟨⟨wN,rfl,(show Bd wN by rw[Mi];exact iY _)⟩,λhw=>by have:=of_decide_eq_false hd;have:=bO.mp hw;lia⟩) λR x8 g1 g2 g3=>?_
  ·rw[aW.mp hq];exact⟨trivial,(show Bd wN by rw[Mi];exact iY _)⟩
  ·have ll:(L.map PV.int).length<=4000000:=by simp;lia
   have lF:∀a:PV,([a]++R.map (aT (aV N z))).length<=2000:=λa=>by simp;lia
   have ad1:∀h,cZ h (.int 1) (.int (L.length:Int))=some (.int ((L.length+1:Nat):Int)):=λh=>by show some (PV.int (1+(L.length:Int)))=_;rw[show(1+(L.length:Int))=((L.length+1:Nat):Int) by lia]
   have ad2:∀h,cZ h (.int ((L.length+1:Nat):Int)) (.int 1)=some (.int ((L.length+1+1:Nat):Int)):=λh=>rfl
   have l1:∀a,fE [⟨.lst,[a]⟩] [.ref 0]=some (.int 1):=λa=>rfl
   revert g3
   delta iK fN
   intro g3;have bk:∀v,cZ [⟨.lst,[aT (aV N z) (.put .b (.num wN))]++R.map (aT (aV N z))⟩] (.ref 0) (.lst [v])=some (.lst ([aT (aV N z) (.put .b (.num wN))]++R.map (aT (aV N z))++[v])):=λv=>if_pos (by
    show([aT (aV N z) (.put .b (.num wN))]++R.map (aT (aV N z))).length+1<=gX;have:=lF (aT (aV N z) (.put .b (.num wN)));have:gX=4000000:=rfl
    lia)
   have tC:∀h l,xB h [.lst l]=some (.ak l):=λh l=>rfl
   obtain⟨G,hG⟩:∃G,G=[aT (aV N z) (.put .b (.num wN))]++R.map (aT (aV N z)):=⟨_,rfl⟩
   rw[<-hG]at bk;have g3:=g3;rw[show [Rw.put .b (.num wN)].map (aT (aV N z))++R.map (aT (aV N z))=G from hG.symm]at g3 ⊢
   have g3:fg (cS 8) _ (L.map .int) ⟨[some (gV N),some (.int (z:Int)),some (lK (aV N z) r1 r2),some (.int (j:Int)),some (.lst (L.map .int)),some (.int x),some (.ref 0),some (.int ((L.length+1+1:Nat):Int)),none,none],[⟨.lst,[.ak [.str "put",.ak [.str (N 1),.bl false,.ak [],.aP],.int wN]]⟩]⟩=_:=g3;rw[ud];rcases e0 with rfl | rfl | rfl<;>rw[gv]<;>simp only[↓bf,e1,e9,q1,q2,Wt,a1,d1,dd,m2,n1,n2,GA,hd,ln,w1,l1,ad1,ad2,ll,g3,bk,ei,tC]
 ·refine gW [.put .b (.num wN),.fill (.num RV),.put .n (.num NB)] (by simp) (λm q hq=>?_) (λR=>⟨⟨wN,rfl,(show Bd wN by rw[Mi];exact iY _)⟩,λ_=>⟨⟨RV,rfl,bd7⟩,NB,rfl,(show Bd NB by rw[hn3];exact iY _)⟩⟩) λR x8 g1 g2 g3=>?_
  ·simp only[aD,bu,bz]at hq;rcases hq with rfl | rfl | rfl
   ·exact⟨trivial,(show Bd wN by rw[Mi];exact iY _)⟩
   ·exact bd7
   ·exact⟨trivial,(show Bd NB by rw[hn3];exact iY _)⟩
  ·have ll:(L.map PV.int).length<=4000000:=by simp;lia
   have lF:∀a b d:PV,([a,b,d]++R.map (aT (aV N z))).length<=2000:=λa b d=>by simp;lia
   have ad1:∀h,cZ h (.int 3) (.int (L.length:Int))=some (.int ((L.length+3:Nat):Int)):=λh=>by show some (PV.int (3+(L.length:Int)))=_;rw[show(3+(L.length:Int))=((L.length+3:Nat):Int) by lia]
   have ad2:∀h,cZ h (.int ((L.length+3:Nat):Int)) (.int 1)=some (.int ((L.length+3+1:Nat):Int)):=λh=>rfl
   have l1:∀a b d,fE [⟨.lst,[a,b,d]⟩] [.ref 0]=some (.int 3):=λa b d=>rfl
   revert g3
   delta iK fN
   intro g3;obtain⟨G,hG⟩:∃G,G=[Rw.put .b (.num wN),.fill (.num RV),.put .n (.num NB)].map (aT (aV N z))++R.map (aT (aV N z)):=⟨_,rfl⟩
   rw[<-hG]at g3 ⊢;have bk:∀v,cZ [⟨.lst,G⟩] (.ref 0) (.lst [v])=some (.lst (G++[v])):=λv=>if_pos (by
    show G.length+1<=gX;have:=lF (aT (aV N z) (.put .b (.num wN))) (aT (aV N z) (.fill (.num RV))) (aT (aV N z) (.put .n (.num NB)));have h2:G.length<=2000:=by rw[hG];exact this
    have:gX=4000000:=rfl
    lia)
   have tC:∀h l,xB h [.lst l]=some (.ak l):=λh l=>rfl
   have g3:fg (cS 8) _ (L.map .int) ⟨[some (gV N),some (.int (z:Int)),some (lK (aV N z) r1 r2),some (.int (j:Int)),some (.lst (L.map .int)),some (.int x),some (.ref 0),some (.int ((L.length+3+1:Nat):Int)),none,none],[⟨.lst,[.ak [.str "put",.ak [.str (N 1),.bl false,.ak [],.aP],.int wN],.ak [.str "fill",.ak [.str (N 2),.bl false,.ak [.int 0],.aP],.int RV],.ak [.str "put",.ak [.str (N 2),.bl false,.ak [.int 1],.aP],.int NB]]⟩]⟩=_:=g3;rw[ud];rcases e0 with rfl | rfl | rfl<;>rw[gv]<;>simp only[↓bf,e1,e9,q1,q2,Wt,a1,d1,d3,d5,dd,m2,n1,n2,GA,hd,ln,w1,w2,w3,l1,ad1,ad2,ll,g3,bk,ei,tC,A1,A2]
end bG
set_option maxHeartbeats 4000000
namespace bG
open PySem L2 L2.U
def EK(M:Nm)(r1 r2:Option N3)(Rs:Nat->List Rw)(ts:Nat->Option N3)(j:Nat):Fd:=⟨M.f j,j==2,rs r1 r2 j,Rs j++[.bh (ts j)]⟩
def G4(M:Nm)(r1 r2:Option N3)(Rs:Nat->List Rw)(ts:Nat->Option N3):List Fd:=[EK M r1 r2 Rs ts 0,EK M r1 r2 Rs ts 1,EK M r1 r2 Rs ts 2]
theorem Mr{a b d:Option N3}(h1:ie a b)(h2:ie a d):ie b d:=by
 cases a<;>cases b<;>cases d
 all_goals first | exact(False.elim h1) | exact(False.elim h2) | trivial | skip
 exact(Iff.trans (Iff.symm h1) h2:mJ _ _)
theorem HL{M:Nm}(K:aS M){r1 r2:Option N3}{Rs:Nat->List Rw}{ts:Nat->Option N3} (H:∀j<3,(Rs j).length<=70/\(∀r∈Rs j,RS M r1 r2 ((Rs j).length+1) r)/\ie (rs r1 r2 j) (ts j)/\Mq (j==2) (Rs j)) :
  jI M (G4 M r1 r2 Rs ts)/\(∀F∈G4 M r1 r2 Rs ts,∀r∈F.rows,Jv r):=by
 have Wv:∀F∈G4 M r1 r2 Rs ts,∃j<3,F=EK M r1 r2 Rs ts j:=λF hF=>by
  simp only[G4,aD,bu,bz]at hF;rcases hF with rfl | rfl | rfl
  ·exact⟨0,by decide,rfl⟩
  ·exact⟨1,by decide,rfl⟩
  ·exact⟨2,by decide,rfl⟩
 have atP:∀j<3,(G4 M r1 r2 Rs ts)[j]?=some (EK M r1 r2 Rs ts j):=λj hj=>by
  rcases(by lia : j=0\/j=1\/j=2)with rfl | rfl | rfl<;>rfl
 refine⟨⟨⟨⟨_,_,_,rfl⟩,?_⟩,?_,?_,?_,?_⟩,?_⟩
 ·intro j F hF;have hj:j<3:=(de.mp hF).1;rw[atP j hj]at hF;cases hF;rfl
 ·intro F hF r hr;obtain⟨i,hi,rfl⟩:=Wv F hF;obtain⟨_,h2,_,_⟩:=H i hi;rcases b8.mp hr with hr | hr
  ·have h:=h2 r hr;cases r with
   | call j t as =>
    obtain⟨hj,ca,so⟩:=h;refine⟨_,atP j hj,ca,λu hu=>?_⟩
    obtain⟨_,g2,g3,_⟩:=H j hj;rcases b8.mp hu with hu | hu
    ·exact absurd (g2 _ hu) id
    ·cases aW.mp hu;exact Mr so g3
   | ifs o p k=>exact⟨h.1,h.2.1⟩
   | go k=>trivial
   | bh t=>exact absurd h id
   | _=>exact h
  ·rw[aW.mp hr];trivial
 ·intro F hF k r hr;obtain⟨i,hi,rfl⟩:=Wv F hF;obtain⟨_,h2,_,_⟩:=H i hi;have hr:(Rs i++[Rw.bh (ts i)])[k]?=some r:=hr;have hl:(EK M r1 r2 Rs ts i).rows.length=(Rs i).length+1:=by simp[EK]
  rw[hl];by_cases hk:k<(Rs i).length
  ·rw[fw hk]at hr;have h:=h2 r (cX hr);cases r with
   | go j=>exact h
   | ifs o p j=>exact⟨h.2.2,by lia⟩
   | bh t=>trivial
   | _=>exact(by lia : k+1<(Rs i).length+1)
  ·rw[jj (by lia)]at hr
   cases aW.mp (cX hr);trivial
 ·intro F hF;obtain⟨i,hi,rfl⟩:=Wv F hF;obtain⟨h1,_,_,_⟩:=H i hi;have hl:(EK M r1 r2 Rs ts i).rows.length=(Rs i).length+1:=by simp[EK]
  rw[hl]
  lia
 ·intro F hF;obtain⟨i,hi,rfl⟩:=Wv F hF;obtain⟨_,_,_,⟨b,hb,bb⟩,h2⟩:=H i hi;have ap:∀{k:Nat} {r:Rw},(Rs i)[k]?=some r->(Rs i++[Rw.bh (ts i)])[k]?=some r:=λe=>by rw[fw (de.mp e).1,e]
  refine⟨⟨b,ap hb,bb⟩,λhw=>?_⟩
  obtain⟨⟨s,hs,bs⟩,n,hn,bn⟩:=h2 hw;exact⟨⟨s,ap hs,bs⟩,n,ap hn,bn⟩
 ·intro F hF r hr;obtain⟨i,hi,rfl⟩:=Wv F hF;obtain⟨_,h2,_,_⟩:=H i hi;rcases b8.mp hr with hr | hr
  ·have h:=h2 r hr;cases r with
   | call j t as =>
    rcases h.2.1 with⟨_,x,_,rfl⟩ | ⟨_,x,_,rfl⟩
    ·exact .inl ⟨_,rfl⟩
    ·exact .inr ⟨_,_,rfl⟩
   | _=>trivial
  ·rw[aW.mp hr];trivial
noncomputable def cell(ns:List Int)(i:Nat):Int:=ns.getD i 0
theorem nX(k:Nat)(ns:List Int)(i:Nat):run aI (k+1) "_law_cell_at" [yR ns,.int (i:Int)] []=some (.ok (.int (cell ns i)),[]):=by
 rw[we];have ln:fE [] [yR ns]=some (.int (ns.length:Int)):=by
  show some (PV.int (((ns.map PV.int).length:Nat):Int))=_;rw[aN]
 unfold cell;rw[kH];by_cases hi:i<ns.length
 ·have e:aJ [] (yR ns) (.int (i:Int))=some (.int ns[i]):=atI_nat (by rw[bK,eu hi];rfl)
  simp only[↓bf,ln,e,ez (show(i:Int)<(ns.length:Int) by lia),eu hi,Option.getD_some]
 ·simp only[↓bf,ln,cF (show ¬(i:Int)<(ns.length:Int) by lia),uH (zw hi),zA]
theorem RW{ns:List Int}(hl:ns.length<=63):∃ms:List Int,ms.length<=63/\∀h,yP h (some 6) (some 30) (yR ns)=some (.lst (ms.map .int)):=by
 refine⟨(ns.drop (HT.d6 ns.length 0 (some 6))).take (HT.d6 ns.length ns.length (some 30)-HT.d6 ns.length 0 (some 6)),?_,λh=>?_⟩
 ·rw[mW,zt]
  lia
 show some (PV.lst (iF (ns.map PV.int) (some 6) (some 30)))=_;unfold iF;rw[aN,uY,List.map_drop]
theorem uA{i m n B:Nat}(hm:1<=m)(h:n+m<=B):(U.me i m n).length<=B:=by
 unfold U.me sliceRange;rw[aN,mT];have e:sliceBounds (some (i:Int)) none (some (m:Int)) n=(max 0 (min (i:Int) n),(n:Int),(m:Int)):=by
  unfold sliceBounds;simp only[Option.getD_some,if_pos (show(m:Int)>0 by lia),if_neg (show ¬(i:Int)<0 by lia)]
 rw[e];simp only;rw[if_pos (by lia)]
 split
 ·have:=Int.ediv_le_self (a:=(n:Int)-max 0 (min (i:Int) n)+m-1) (m:Int) (by lia)
  lia
 ·simp
theorem Jh{α β:Type}(f:α->β)(a m:Int)(ps:List α):jz a m (ps.map f)=(jz a m ps).map f:=by
 unfold jz;rw[aN,List.map_filterMap];refine gA (λg=>List.filterMap g _) (funext λj=>?_)
 rw[bK]
theorem Ji{α:Type}{a m:Int}{ps:List α}:(jz a m ps).length<=(U.me a m ps.length).length:=List.length_filterMap_le _ _
theorem rV(i:Nat){cs:List Int}(h:cs.length<=63):∃L:List Int,L.length<=66/\DG (.lst (cs.map .int)) (some (i:Int)) (some 3)=some (.lst (L.map .int)):=by
 refine⟨jz (i:Int) 3 cs,aX Ji (uA (m:=3) (by decide) (by lia)),?_⟩
 show(if((3:Int) != 0&&decide ((U.me (i:Int) 3 (cs.map PV.int).length).length<=gX))=true then some (PV.lst (jz (i:Int) 3 (cs.map PV.int)))else none)=_
 rw[if_pos,Jh];rw[aN,aG];exact⟨by decide,ez (aX (uA (m:=3) (B:=66) (by decide) (by lia)) (by decide))⟩
end bG
set_option maxHeartbeats 4000000
namespace bG
open PySem L2 L2.U
theorem C7(l:List Int):aj (l.map PV.int)=true:=dG (λ_=>rfl) l
theorem Bq(c:Nat){ns:List Int}(hl:ns.length<=63):∃(M:Nm) (P:List Fd) (p:PV) (h':List ah),aS M/\jI M P/\(∀F∈P,∀r∈F.rows,Jv r)/\(∃F0,P[0]?=some F0/\F0.w=false)/\run aI (c+5) "_law_program" [yR ns] []=some (.ok p,h')/\eF h' p=some (.ak (P.map (fdP M))):=by
 obtain⟨N,hN,hN0,en⟩:=Mg (c+3) (cell ns 0);obtain⟨z,hz,z1,z8⟩:∃z:Nat,1+cell ns 1%8=(z:Int)/\1<=z/\z<=8:=⟨(1+cell ns 1%8).toNat,by lia,by lia,by lia⟩
 have K:aS (aV N z):=⟨λe=>absurd (hN 0 1 (by decide) (by decide) e) (by decide),λe=>absurd (hN 0 2 (by decide) (by decide) e) (by decide),λe=>absurd (hN 1 2 (by decide) (by decide) e) (by decide),hN0 0,hN0 1,hN0 2,(λi j hi hj e=>by have:=hN (3+i) (3+j) (by lia) (by lia) e;lia),z1,z8⟩
 obtain⟨r1,r2,k1,k2,eh⟩:=Jd (c+2) N z (cell ns 1/8);obtain⟨cs,hc,esl⟩:=RW hl;obtain⟨L0,a0,st0⟩:=rV 0 hc;obtain⟨L1,a1,st1⟩:=rV 1 hc;obtain⟨L2',a2,dW⟩:=rV 2 hc;obtain⟨R0,t0,p0,g0,b0,d0,s0,i0',e0,f0⟩:=wM c N z1 k1 k2 (j:=0) (by decide) a0 (cell ns 2)
 obtain⟨R1,t1,p1,g1,b1,d1,s1,Z2,e1,f1⟩:=wM c N z1 k1 k2 (j:=1) (by decide) a1 (cell ns 2)
 obtain⟨R2,t2,p2,g2,b2,d2,s2,i2',e2,f2⟩:=wM c N z1 k1 k2 (j:=2) (by decide) a2 (cell ns 2)
 obtain⟨Rs,Xq⟩:∃Rs:Nat->List Rw,Rs=λj=>match j with | 0=>R0 | 1=>R1 | _=>R2:=⟨_,rfl⟩
 obtain⟨ts,Xr⟩:∃ts:Nat->Option N3,ts=λj=>match j with | 0=>t0 | 1=>t1 | _=>t2:=⟨_,rfl⟩
 obtain⟨o1,o2⟩:=HL K (r1:=r1) (r2:=r2) (Rs:=Rs) (ts:=ts) (λj hj=>by
  subst Xq Xr;rcases(by lia : j=0\/j=1\/j=2)with rfl | rfl | rfl
  ·exact⟨b0,d0,s0,i0'⟩
  ·exact⟨b1,d1,s1,Z2⟩
  ·exact⟨b2,d2,s2,i2'⟩)
 have w0:EK (aV N z) r1 r2 Rs ts 0=⟨(aV N z).f 0,false,none,R0++[.bh t0]⟩:=by subst Xq Xr;rfl
 have w1:EK (aV N z) r1 r2 Rs ts 1=⟨(aV N z).f 1,false,r1,R1++[.bh t1]⟩:=by subst Xq Xr;rfl
 have w2:EK (aV N z) r1 r2 Rs ts 2=⟨(aV N z).f 2,true,r2,R2++[.bh t2]⟩:=by subst Xq Xr;rfl
 have hP:((G4 (aV N z) r1 r2 Rs ts).map (fdP (aV N z)))=[fdP (aV N z) ⟨(aV N z).f 0,false,none,R0++[.bh t0]⟩,fdP (aV N z) ⟨(aV N z).f 1,false,r1,R1++[.bh t1]⟩,fdP (aV N z) ⟨(aV N z).f 2,true,r2,R2++[.bh t2]⟩]:=by
  rw[<-w0,<-w1,<-w2];rfl
 refine⟨aV N z,G4 (aV N z) r1 r2 Rs ts,.ak ((G4 (aV N z) r1 r2 Rs ts).map (fdP (aV N z))),[⟨.lst,(G4 (aV N z) r1 r2 Rs ts).map (fdP (aV N z))⟩],K,o1,o2,⟨_,rfl,rfl⟩,?_,jJ (A7 (dG (om _) _))⟩;rw[hP];obtain⟨T0,hT0⟩:∃T,T=(R0++[Rw.bh t0]).map (aT (aV N z)):=⟨_,rfl⟩
 obtain⟨T1,hT1⟩:∃T,T=(R1++[Rw.bh t1]).map (aT (aV N z)):=⟨_,rfl⟩
 obtain⟨T2,hT2⟩:∃T,T=(R2++[Rw.bh t2]).map (aT (aV N z)):=⟨_,rfl⟩
 rw[<-hT0]at f0;rw[<-hT1]at f1;rw[<-hT2]at f2;have F0:fdP (aV N z) ⟨(aV N z).f 0,false,none,R0++[.bh t0]⟩=.ak [.str ((aV N z).f 0),.ak [dH (aV N z) .a],.aP,.ak [dH (aV N z) .b,dH (aV N z) .c],.ak T0]:=by rw[hT0];rfl
 have F1:fdP (aV N z) ⟨(aV N z).f 1,false,r1,R1++[.bh t1]⟩=.ak [.str ((aV N z).f 1),.ak [dH (aV N z) .a],rm (aV N z) r1,.ak [dH (aV N z) .b,dH (aV N z) .c],.ak T1]:=by rw[hT1];rfl
 have F2:fdP (aV N z) ⟨(aV N z).f 2,true,r2,R2++[.bh t2]⟩=.ak [.str ((aV N z).f 2),.ak [dH (aV N z) .a,dH (aV N z) .c],rm (aV N z) r2,.ak [dH (aV N z) .b],.ak T2]:=by rw[hT2];rfl
 rw[F0,F1,F2];have c0:run aI (c+4) "_law_cell_at" [yR ns,.int 0] []=some (.ok (.int (cell ns 0)),[]):=nX (c+3) ns 0;have c1:run aI (c+4) "_law_cell_at" [yR ns,.int 1] []=some (.ok (.int (cell ns 1)),[]):=nX (c+3) ns 1;have c2:run aI (c+4) "_law_cell_at" [yR ns,.int 2] []=some (.ok (.int (cell ns 2)),[]):=nX (c+3) ns 2;have en2:eF [⟨.lst,(nmX N).map .str⟩] (.ref 0)=some (gV N):=jP (dG (λ_=>rfl) _)
 have m8:∀h,cD h (.int (cell ns 1)) (.int 8)=some (.int (cell ns 1%8)):=λh=>fR (by decide)
 have f8:∀h,gf h (.int (cell ns 1)) (.int 8)=some (.int (cell ns 1/8)):=λh=>nV (by decide)
 have ad:∀h,cZ h (.int 1) (.int (cell ns 1%8))=some (.int (z:Int)):=λh=>by show some (PV.int (1+cell ns 1%8))=_;rw[hz]
 have lw:run aI (c+4) "_law_wide" [.int (z:Int)] []=some (.ok (yr z),[]):=C5 (c+3) z;have i1:∀h,aJ h (gV N) (.int 1)=some (.str (N 1)):=λh=>rfl
 have i2:∀h,aJ h (gV N) (.int 2)=some (.str (N 2)):=λh=>rfl
 have l2:∀a b:PV,[a,b].length<=4000000:=λ_ _=>by simp
 have Xp:oI [.int 3]=some [.int 0,.int 1,.int 2]:=rfl;have st0:DG (.lst (cs.map .int)) (some 0) (some 3)=some (.lst (L0.map .int)):=st0;have st1:DG (.lst (cs.map .int)) (some 1) (some 3)=some (.lst (L1.map .int)):=st1;have dW:DG (.lst (cs.map .int)) (some 2) (some 3)=some (.lst (L2'.map .int)):=dW;have e0:run aI (c+4) "_law_rows" [gV N,.int (z:Int),lK (aV N z) r1 r2,.int 0,.lst (L0.map .int),.int (cell ns 2)] []=some (.ok p0,g0):=e0;have e1:run aI (c+4) "_law_rows" [gV N,.int (z:Int),lK (aV N z) r1 r2,.int 1,.lst (L1.map .int),.int (cell ns 2)] []=some (.ok p1,g1):=e1;have e2:run aI (c+4) "_law_rows" [gV N,.int (z:Int),lK (aV N z) r1 r2,.int 2,.lst (L2'.map .int),.int (cell ns 2)] []=some (.ok p2,g2):=e2;have nr6:∀(L:List Int) (x y:Int),aj [gV N,.int (z:Int),lK (aV N z) r1 r2,.int x,.lst (L.map .int),.int y]=true:=λL x y=>by
  simp[aj,Jg,C6,noRef,C7]
 have nrs:∀x:Int,aj [yR ns,.int x]=true:=λx=>by
  show(noRef (.lst (ns.map PV.int))&&_)=true;rw[nQ (C7 ns)];rfl
 have EI:aj [gV N,.int (z:Int),.int (cell ns 1/8)]=true:=rfl;have h0:∀h,aJ h (lK (aV N z) r1 r2) (.int 0)=some (yM (aV N z) 0 none):=λh=>rfl
 have h1:∀h,aJ h (lK (aV N z) r1 r2) (.int 1)=some (yM (aV N z) 1 r1):=λh=>rfl
 have h2:∀h,aJ h (lK (aV N z) r1 r2) (.int 2)=some (yM (aV N z) 2 r2):=λh=>rfl
 have s0:∀h a b,cZ h (yM (aV N z) 0 none) (.ak [a,b])=some (.ak [.str ((aV N z).f 0),.ak [dH (aV N z) .a],.aP,a,b]):=λh a b=>rfl
 have s1:∀h a b,cZ h (yM (aV N z) 1 r1) (.ak [a,b])=some (.ak [.str ((aV N z).f 1),.ak [dH (aV N z) .a],rm (aV N z) r1,a,b]):=λh a b=>rfl
 have s2:∀h a b,cZ h (yM (aV N z) 2 r2) (.ak [a,b])=some (.ak [.str ((aV N z).f 2),.ak [dH (aV N z) .a,dH (aV N z) .c],rm (aV N z) r2,a,b]):=λh a b=>rfl
 have Sd:∀h (a b:PV),yP h none (some 2) (.lst [a,b])=some (.lst [a,b]):=λh a b=>rfl
 have sl1:∀h (a b:PV),yP h none (some 1) (.lst [a,b])=some (.lst [a]):=λh a b=>rfl
 have tC:∀h l,xB h [.lst l]=some (.ak l):=λh l=>rfl
 have tR:∀l,xB [⟨.lst,l⟩] [.ref 0]=some (.ak l):=λl=>rfl
 have A0:∀ρ v,fH (dY eS) (.ref 0) [v] ⟨ρ,[⟨.lst,[]⟩]⟩=some (.ok .aP,⟨ρ,[⟨.lst,[v]⟩]⟩):=λρ v=>rA (by simp)
 have A1:∀ρ a v,fH (dY eS) (.ref 0) [v] ⟨ρ,[⟨.lst,[a]⟩]⟩=some (.ok .aP,⟨ρ,[⟨.lst,[a,v]⟩]⟩):=λρ a v=>rA (by simp)
 have A2:∀ρ a b v,fH (dY eS) (.ref 0) [v] ⟨ρ,[⟨.lst,[a,b]⟩]⟩=some (.ok .aP,⟨ρ,[⟨.lst,[a,b,v]⟩]⟩):=λρ a b v=>rA (by simp)
 have hsf:∀h,eF h (lK (aV N z) r1 r2)=some (lK (aV N z) r1 r2):=λh=>jJ (C6 _ _ _)
 rw[wo];simp only[↓bf,c0,c1,c2,en,en2,m8,f8,ad,lw,i1,i2,l2,Xp,st0,st1,dW,e0,e1,e2,f0,f1,f2,nr6,nrs,EI,h0,h1,h2,s0,s1,s2,sl1,Sd,tC,tR,A0,A1,A2,eh,esl,hsf,cb,bW];rfl
end bG
set_option maxHeartbeats 4000000
namespace bG
open PySem L2 L2.U
theorem Jj(ns:List Int)(h:ns.length<=63):Xf (run aI 30 "law" [yR ns] []):=by
 obtain⟨M,P,p,hp,K,W,A,⟨F0,hF0,hw⟩,ep,fp⟩:=Bq 24 h;obtain⟨most,hm,afj⟩:∃most:Nat,cell ns 5%81=(most:Int)/\most<81:=⟨(cell ns 5%81).toNat,by lia,by lia⟩
 obtain⟨oth,ho,afk⟩:∃oth:Nat,((most:Int)+1+cell ns 4/3%80)%81=(oth:Int)/\oth<81:=⟨(((most:Int)+1+cell ns 4/3%80)%81).toNat,by lia,by lia⟩
 obtain⟨Jk,hB,Ms⟩:∃Jk:Int,Bd Jk/\Jk=if(cell ns 4%3==0)=true then cell ns 3%wC%9 else cell ns 3%wC:=⟨_,by
  split
  ·exact⟨fV _ (by decide),Int.lt_trans (jm _ (by decide)) (by decide +kernel)⟩
  ·exact iY _,rfl⟩
 have pl:∀n:Nat,n<=4000->∃q hq,run aI 29 "run" [.ak (P.map (fdP M)),.lst [.int Jk],.int (n:Int)] []=some (.ok q,hq)/\eF hq q=some (Mc M P n Jk):=λn hn=>Wq 13 K W A hF0 hw hB (by lia)
 have du:=fun(n:Nat) (hn:n<=4000)=>RR 25 K W hF0 hw hB hn
 have Ww:∀n:Nat,n<=4000->run aI 29 "_law_told" [Mc M P n Jk,Mb M P n Jk] []=some (.ok (.bl true),[]):=λn hn=>by
  obtain⟨_,_,_,_,hl⟩:=du n hn;exact Mo 27 _ (by lia) _
 obtain⟨q1,h1,e1,f1⟩:=pl most (by lia)
 obtain⟨q2,h2,e2,f2⟩:=pl oth (by lia)
 obtain⟨d1,g1,x1,y1,_⟩:=du most (by lia)
 obtain⟨d2,g2,x2,y2,_⟩:=du oth (by lia)
 have t1:=Ww most (by lia)
 have t2:=Ww oth (by lia)
 have c3:run aI 29 "_law_cell_at" [yR ns,.int 3] []=some (.ok (.int (cell ns 3)),[]):=nX 28 ns 3;have c4:run aI 29 "_law_cell_at" [yR ns,.int 4] []=some (.ok (.int (cell ns 4)),[]):=nX 28 ns 4;have c5:run aI 29 "_law_cell_at" [yR ns,.int 5] []=some (.ok (.int (cell ns 5)),[]):=nX 28 ns 5;have Wt:=λh=>Iw (h:=h)
 have Wu:=λh x=>yC (h:=h) (x:=x)
 have m3:∀h,cD h (.int (cell ns 4)) (.int 3)=some (.int (cell ns 4%3)):=λh=>fR (by decide)
 have m9:∀h,cD h (.int (cell ns 3%wC)) (.int 9)=some (.int (cell ns 3%wC%9)):=λh=>fR (by decide)
 have m81:∀h,cD h (.int (cell ns 5)) (.int 81)=some (.int (most:Int)):=λh=>by rw[fR (by decide),hm]
 have f3:∀h,gf h (.int (cell ns 4)) (.int 3)=some (.int (cell ns 4/3)):=λh=>nV (by decide)
 have m80:∀h,cD h (.int (cell ns 4/3)) (.int 80)=some (.int (cell ns 4/3%80)):=λh=>fR (by decide)
 have mo:∀h,cD h (.int ((most:Int)+1+cell ns 4/3%80)) (.int 81)=some (.int (oth:Int)):=λh=>by rw[fR (by decide),ho]
 have q0:∀h x,qG h (.int x) (.int 0)=some (.bl (x==0)):=λh x=>rfl
 have ql:∀h,qG h (.lst [.int Jk]) (.lst [.int Jk])=some (.bl true):=λh=>by
  show some (PV.bl (eqT (.lst [.int Jk]) (.lst [.int Jk])))=_;rw[gI]
 have l1:∀a:PV,[a].length<=4000000:=λ_=>by simp
 have a1:∀h,cZ h (.int (most:Int)) (.int 1)=some (.int ((most:Int)+1)):=λh=>rfl
 have a2:∀h,cZ h (.int ((most:Int)+1)) (.int (cell ns 4/3%80))=some (.int ((most:Int)+1+cell ns 4/3%80)):=λh=>rfl
 rw[show run aI 30 "law"=_ from LF 29]
 refine(λo (h:o=some (Rs.ok (PV.bl true),[]))=>(⟨[],h⟩:Xf o)) _ ?_
 cases b1:cell ns 4%3==0<;>rw[b1]at Ms
 all_goals first | rw[if_pos rfl]at Ms | rw[if_neg cR]at Ms
 all_goals rw[Ms]at e1 e2 x1 x2 t1 t2 f1 f2 y1 y2 ql
 ·simp only[↓bf,ep,fp,c3,c4,c5,Wt,Wu,m3,m9,m81,f3,m80,mo,a1,a2,q0,b1,x1,y1,e1,f1,t1,e2,f2,x2,y2,t2,ql,l1]
 ·simp only[↓bf,ep,fp,c3,c4,c5,Wt,Wu,m3,m9,m81,f3,m80,mo,a1,a2,q0,b1,x1,y1,e1,f1,t1,e2,f2,x2,y2,t2,ql,l1]
end bG
noncomputable section
open PySem PySem.W PyProof.Rows PySem.Calls
theorem PySem.Challenge.cw_lendrule_k55_calls_of_owners_holds : PySem.Challenge.rw_lendrule_k55_calls_of_owners.Holds := by
 exact bG.gW λd h1 h2=>L2.U.HP (P:=bG.aI) (N:=30) (st:=bG.VR) (x:="_law_script") (l:=PySem.Challenge.rw_lendrule_k55_calls_of_owners) (by kernel_rfl) (by kernel_rfl) rfl h1 h2 ⟨rfl,by decide,by decide⟩ (by kernel_rfl) bG.hnd rfl (λw h Y=>Y) bG.Jj
end
