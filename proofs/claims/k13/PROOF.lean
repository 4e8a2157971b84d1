import PyProof.Rows.All
import Wide.All
import OpenK.AllK
import Wide.FinOn
import Lean
import PyProof.EqAt
import PyProof.EqKinds
import PyProof.TupleCall
import PySem.Challenge.RW_apartbook_k13_books_shown_and_read
set_option Elab.async false
set_option linter.all false
set_option maxRecDepth 100000
set_option genInjectivity false in
set_option genSizeOf false in
structure PySem.W.Fast:Prop where(tw2683313412027679526 tw11743823306858536467 tw9709685765912522888 tw15667895165249733473 tw14647278599002717155 tw8934937323156099390 tw529040239165825983 tw2036542797922754281 tw11942907981009136485 tw2396609575509450729 tw11698852871075360712 tw2759085855034980042 tw8213431170094825055 tw7883576402287052993 tw6010737577882872630 tw17516899813939663310 tw2978222649607865442 tw1781168703995408388 tw16578480070267319672 tw6960191650921624394 tw16446224135337499977 tw6970310612397041255 tw14936396693149874114 tw4879156025987308103 tw10088734432686299399 tw10113547071795479186 tw5938456571301594368 tw17396309803163811363 tw12698881767855818639 tw12362873764417217351 tw11442338188017430848 tw740252861902203852 tw7576394715197818955 tw13838341300902276488 tw5935549356916489995 tw1700980378764764555 tw4217893213111576650 tw12188478513523392340 tw7301580042625884971 tw14892814943401618184 tw4391947356070049153 tw9657799636942862885 tw4464562647554852732 tw9158393364576850283 tw13574007929659853070 tw3677292954679148720 tw2448586915977819627 tw13306917140803163663 tw15060236138657431788 tw4075297861536041845 tw5374953320775972694 tw9698402657579664687 tw5014602984380806611 tw11260498323954986969 tw13050548459297783372 tw2113300764958814405 tw3546731212022045274 tw16294815559549076721 tw18028903590023794605 tw16292845087708099011 tw971492830940012462 tw1748730756939797454 tw2574263048218456683 tw13427808119524148700 tw9542675845443398255 tw2418536995578440777 tw16024675775289554841 tw28320704246271597 tw16432198696308394516 tw9256940731715587748 tw14476228401655457919 tw10453015898552281254 tw16445966996314482437 tw3933913287025172893 tw18110209718720226775 tw18279023355210026186 tw14122076362095170416 tw7363226756344500958 tw10758303306214009916 tw14306564884038507394 tw6978366501734476917 tw12243308677122291260 tw10745858880315937238 tw538810234450434753 tw14574426373081385846 tw15384639270223834842 tw5823662188921126602 tw3817614275494843964 tw17249739006797560674 tw5859876176807445891 tw7664585694119705379 tw9590695186652437134 tw6982988396112531589 tw6281195369504229414 tw18123052263882439673 tw2106657585772226868 tw17594634480314675440 tw15662767994691186381 tw17633385071169106244 tw13329610333387625274 tw10073582960562368670 tw13061260515512357242 tw9952300924564787211 tw12790320133337141698 tw13483800088360026526 tw13012952602391221532 tw14079008535276308516 tw10080666536463223624 tw2375518828360466822 tw9732606551105323823 tw16952391769400615710 tw9145175228225988260 tw3330153624482653517 tw17998178634333997893 tw9867331375871016256 tw6688840204447019300 tw4546562813180909679 tw12603199095817426252 tw4330285000107549360 tw12777048905879460430 tw6650193390861317469 tw15864179862775117567 tw10274142604969037602 tw1792127636173436413 tw7976942422018308369 tw8820808481737459108 tw15588873090028776465 tw16761254966445328643 tw868509594521829646 tw15134285230602478539 tw7593625265455835353 tw54692891012425804 tw17057513259229640182 tw13663964987018678226 tw13422834727949122863 tw2281155774250340076 tw655378022117589552 tw313274913511041840 tw8219183145121761561 tw9703897439219609493 tw17056451206943442065 tw17648421227635964434 tw15082849695582677856 tw8856890066265103620 tw4847747610328021396 tw664892352599429508 tw4166459334120714752 tw15536073737382922724 tw4785716940144686328 tw17663701312773397596 tw4987273510204575111 tw5332237103546596238 tw4696574590902464756 tw14125614633527006825 tw5720361517215831395 tw419487196467811128 tw16036004543686148391 tw14532798182297307713 tw8153095751488002862 tw6186117488698957274 tw11080342566177265167 tw5598592334507830039 tw2329191464757245007 tw16672679897629389397 tw1596059830861747775 tw5674507624109913063 tw73497156162286944 tw4636352184075147183 tw9603780803749726 tw7314337557643670262 tw6709385333077293465 tw15130990778281922726 tw8277762823324416648 tw2637282946286461002 tw11302433554001196226 tw4670833277312169577 tw6893077096544011 tw18403825788174785240 tw2588149783728168250 tw14977023885790010055 tw17315736625909358842 tw4666645786611015312 tw2030035832638643338 tw8443575469054162626 tw7919057097145414732 tw16215965759571887777 tw8730772267058377488 tw12521583872315589852 tw12425825115591549808 tw11668695637147759749 tw7985297518707373306 tw9669492627241961194 tw14279824380784636090 tw16852982944704105715 tw1016999037375408306 tw1998057243877314809 tw11425278714805656588 tw18052279072207756635 tw15663350427187721443 tw14243290968483330133 tw5916018741098422854 tw555654637302852635 tw8037500889020702992:True)
namespace PySem.W.Fast
noncomputable def tw13529989826205493138:=PySem.Challenge.pw_apartbook_k13_books_shown_and_read
theorem te13529989826205493138:PySem.Challenge.pw_apartbook_k13_books_shown_and_read=tw13529989826205493138:=rfl
end PySem.W.Fast
set_option compiler.extract_closed false
noncomputable section
abbrev qa:=PySem.Str->Option PySem.Value
abbrev qb:=List (PySem.Addr×PySem.Obj)
abbrev qc:=PySem.Value->PySem.Shared->Prop
abbrev qd:=PySem.Addr->Bool
abbrev qe:=Array (Option PySem.Value)
abbrev qf:=List (PySem.Str×Nat)
abbrev zax.{u}:=@List.getElem?_eq_getElem.{u}
abbrev zay:=@PySem.wpAny_bind
abbrev zaz:=@PySem.Heap.get?_push_of_some
abbrev zav.{u,v}:=@List.length_map.{u,v}
abbrev zaw.{u}:=@List.mem_cons_of_mem.{u}
abbrev zaa.{u}:=@List.mem_cons_self.{u}
abbrev zab:=@PySem.wpAny_pure
abbrev zac:=@Nat.le_refl
abbrev zbx.{u}:=@List.size_toArray.{u}
abbrev zby.{u}:=@Option.some.inj.{u}
abbrev zbz:=@PySem.Heap.get?_push_size
abbrev zbv:=@PySem.Heap.lt_size
abbrev zbw.{u}:=@List.getElem?_set_ne.{u}
abbrev zba.{u,v}:=@List.getElem?_map.{u,v}
abbrev zbb.{u}:=@List.getElem?_eq_some_iff.{u}
abbrev zbc.{u}:=@List.contains_iff_mem.{u}
abbrev zcx:=@Nat.lt_of_lt_of_le
abbrev zcy.{u}:=@List.mem_append_right.{u}
abbrev zcz.{u}:=@List.getElem?_set_self.{u}
abbrev zcv.{u,v}:=@List.mem_map.{u,v}
abbrev zcw:=@Nat.ne_of_lt
abbrev zca.{u,v}:=@List.of_mem_zip.{u,v}
abbrev zcb.{u}:=@List.length_append.{u}
abbrev zcc:=@List.mem_range
abbrev zdx.{u}:=@List.mem_singleton.{u}
abbrev zdy.{u}:=@List.mem_append.{u}
abbrev zdz:=@Nat.le_trans
def zau0(h:True:=by decide):True:=h
def zau1(h:True:=by exact fun _ z=>z):True:=h
def zau2(h:True:=by rfl):True:=h
def zau3(h:True:=by first|exact Or.inl rfl|exact Or.inr (Or.inl rfl)|exact Or.inr (Or.inr rfl)):True:=h
def zau4(h:True:=by exact fun _ _=>rfl):True:=h
def zau5(h:True:=by first|exact Or.inl rfl|exact Or.inr rfl):True:=h
def zau6(h:True:=by first|exact .inl rfl|exact .inr rfl|assumption):True:=h
def zau7(h:True:=by exact fun _=>rfl):True:=h
def zau8(h:True:=by exact⟨⟨rfl,by first|exact .inl rfl|exact .inr (.inl rfl)|exact .inr (.inr rfl),by decide,by decide⟩,rfl,rfl,rfl,rfl,rfl⟩):True:=h
def zau9(h:True:=by intro _;rfl):True:=h
def zau10(h:True:=by exact⟨rfl,rfl,rfl,rfl⟩):True:=h
open PySem PySem.Spec namespace L2
open PyProof.Rows
abbrev zsE(e:Expr)(es:List Expr)(v:Env):Prop:=starEach (e::es) v=(false,eval e v)::starEach es v
abbrev zbT(p:Pos)(es:List Expr)(v:Env):Prop:=(backTo p (starEach es v)).any (·.1)=false
abbrev Key:=Sum Int Str
def ju7:Key->Value->Bool
 | .inl k,v=>Value.isInt k v
 | .inr x,v=>Value.isStrOf x v
def keyH(w:World):Key->Int
 | .inl k=>hashInt k
 | .inr x=>hashStr w x
def jbo:∀ {k:Key} {v:Value},ju7 k v=true->(∃ i t,k=Sum.inl i/\v=Value.int i t)\/(∃ x t,k=Sum.inr x/\v=Value.str x t)
 | .inl i,v,h=>by
  obtain⟨t,e⟩:=Value.isInt_shape h
  grind
 | .inr x,v,h=>by
  obtain⟨t,e⟩:=Value.isStrOf_shape h
  grind
def jx3(i:Int)(t:Tok):ju7 (.inl i) (.int i t)=true:=by simp[ju7,Value.isInt]
def jx4(x:Str)(t:Tok):ju7 (.inr x) (.str x t)=true:=by simp[ju7,Value.isStrOf]
theorem jNf(a b:Int):decide ((Sum.inl a:Key)=Sum.inl b)=(a == b):=by
 by_cases e:a=b
 .subst e;simp
 .rw[decide_eq_false (fun q=>e (Sum.inl.inj q))];exact (beq_eq_false_iff_ne.mpr e).symm
theorem jNi(a b:Str):decide ((Sum.inr a:Key)=Sum.inr b)=decide (a=b):=by
 by_cases e:a=b
 .simp
 .rw[decide_eq_false (fun q=>e (Sum.inr.inj q)),decide_eq_false e]
def jNg(a:Int)(b:Str):decide ((Sum.inl a:Key)=Sum.inr b)=false:=decide_eq_false (fun q=>nomatch q)
def jNh(a:Str)(b:Int):decide ((Sum.inr a:Key)=Sum.inl b)=false:=decide_eq_false (fun q=>nomatch q)
def jcp(prog:Program)(w:World):PySem.KeyKind prog w Key where
 is:=ju7
 hash:=keyH w
 inj:=fun v a b ha hb=>by
  rcases jbo ha with ⟨i,t,rfl,rfl⟩|⟨x,t,rfl,rfl⟩
  .rcases jbo hb with ⟨j,u,rfl,e⟩|⟨y,u,rfl,e⟩<;>grind
  .rcases jbo hb with ⟨j,u,rfl,e⟩|⟨y,u,rfl,e⟩<;>grind
 byValue:=fun k v h=>by
  rcases jbo h with ⟨i,t,rfl,rfl⟩|⟨x,t,rfl,rfl⟩<;>rfl
 pyHash:=fun hv h=>by
  rcases jbo hv with ⟨i,t,rfl,rfl⟩|⟨x,t,rfl,rfl⟩
  .exact wpAny_pyHash_int h
  .exact wpAny_pyHash_str h
 eqBool:=fun hu hv h=>by
  rcases jbo hu with ⟨i,t,rfl,rfl⟩|⟨x,t,rfl,rfl⟩
  .rcases jbo hv with ⟨j,u,rfl,rfl⟩|⟨y,u,rfl,rfl⟩
   .grind [jNf,wpAny_eqBool_int]
   .rw[jNg] at h;exact SeqAt.EqAt.int_str i t y u _ _ _ _ h
  .rcases jbo hv with ⟨j,u,rfl,rfl⟩|⟨y,u,rfl,rfl⟩
   .rw[jNh] at h;exact SeqAt.EqAt.str_int x t j u _ _ _ _ h
   grind [jNi,wpAny_eqBool_str]
 «strs»:=fun k x t v h=>by
  rcases jbo h with ⟨i,u,rfl,e⟩|⟨y,u,rfl,e⟩
  .grind
  .injection e with e1 _
   subst e1;cases v<;>rfl
theorem jr1(prog:Program)(w:World)(i:Int)(t:Tok):(jcp prog w).is (.inl i) (.int i t)=true:=jx3 i t
theorem jr2(prog:Program)(w:World)(x:Str)(t:Tok):(jcp prog w).is (.inr x) (.str x t)=true:=jx4 x t
inductive V where
 | non|bl (b:Bool)|int (i:Int)|str (x:Str)|byt (b:Array UInt8)|flt (b:UInt64)|ref (a:Addr)|ty (n:String)
 deriving DecidableEq
def RelV:V->Value->Prop
 | .non,u=>u=Value.none
 | .bl b,u=>u=Value.bool b
 | .int i,u=>∃ t,u=Value.int i t
 | .str x,u=>∃ t,u=Value.str x t
 | .byt b,u=>∃ t,u=Value.bytes b t
 | .flt b,u=>∃ t,u=Value.float b t
 | .ref a,u=>u=Value.ref a
 | .ty n,u=>u=Value.type n
abbrev Vals:List V->List Value->Prop:=Paired RelV
theorem Vals.length(r:Vals xs us):xs.length=us.length:=Paired.length r
theorem Vals.get:∀ {xs:List V} {us:List Value} {i:Nat} {x:V},Vals xs us->xs[i]? = some x->∃ u,us[i]? = some u/\RelV x u
 | _,_,_,_,.nil,e=>by simp at e
 | _,_,0,_,.cons r _,e=>by grind
 | _,_,i+1,x,.cons _ t,e=>by
  obtain⟨u,h1,h2⟩:=Vals.get t (by simpa using e)
  grind
theorem Vals.set(r:RelV x u):∀ {xs:List V} {us:List Value} (i:Nat),Vals xs us->Vals (xs.set i x) (us.set i u)
 | _,_,_,.nil=>.nil
 | _,_,0,.cons _ t=>.cons r t
 | _,_,i+1,.cons q t=>.cons q (Vals.set r i t)
theorem Vals.append:∀ {xs ys:List V} {us ws:List Value},Vals xs us->Vals ys ws->Vals (xs++ys) (us++ws)
 | _,_,_,_,.nil,s=>s
 | _,_,_,_,.cons r t,s=>.cons r (Vals.append t s)
theorem Vals.take:∀ {xs:List V} {us:List Value} (n:Nat),Vals xs us->Vals (xs.take n) (us.take n)
 | _,_,0,_=>.nil
 | _,_,_+1,.nil=>.nil
 | _,_,n+1,.cons r t=>.cons r (Vals.take n t)
theorem Vals.drop:∀ {xs:List V} {us:List Value} (n:Nat),Vals xs us->Vals (xs.drop n) (us.drop n)
 | _,_,0,r=>r
 | _,_,_+1,.nil=>.nil
 | _,_,n+1,.cons _ t=>Vals.drop n t
def RelO:Option V->Option Value->Prop
 | some v,some u=>RelV v u
 | none,none=>True
 | _,_=>False
def KV{κ:Type}:List (κ×V)->List (κ×Value)->Prop:=Paired fun (p:κ×V) (q:κ×Value)=>p.1=q.1/\RelV p.2 q.2
def kV:Key->V
 | .inl i=>.int i
 | .inr x=>.str x
inductive HO where
  | lst (xs:List V)
  | tup (xs:List V)
  | dK (kvs:List (Key×V))|dT (kvs:List (List Key×V))
  | set (S:Int->Bool) (n:Nat)
  | ins (C dx:Addr) (fs:List (Str×V))
  | own (x:Addr)
  | xd (fs:List (Str×V))
  | met (f x:Addr)
  | rng (lo hi:Int)
  | frz (o:Obj) (u:HO)
  | tbl (ps:Array Value)
  | ext (φ:Heap->Prop)
abbrev Hp:=Addr->Option HO
def upd(H:Hp)(a:Addr)(o:HO):Hp:=fun b=>if b=a then some o else H b
theorem jaj:upd H a o a=some o:=by unfold upd;grind
theorem jam(h:b≠a):upd H a o b=H b:=by unfold upd;rw[if_neg h]
def jJm{H:Hp}{a b:Addr}{o u:HO}(h:H a=some o)(h':H b=some u)(d:o≠u):a≠b:=by
 grind
def jau{H:Hp}{a b:Addr}{o:HO}(h:H a=some o)(h':H b=none):a≠b:=by
 grind
section
variable (P:Program)(w:World)
def ObjOk(H:Hp)(h:Heap)(a:Addr):HO->Prop
 | .lst xs=>xs.length<=sizeLine/\∃ (its:List Value) (n:Nat),Vals xs its/\h.get? a=some { cls:=.type "list",data:=.seq its.toArray n }
 | .tup xs=>xs.length<=sizeLine/\∃ its:List Value,Vals xs its/\IsTup h a its.toArray
 | .dK kvs=>kvs.length<=sizeLine/\(a == sysModules)=false/\∃ vs,KV kvs vs/\h.DictOf (jcp P w) a vs
 | .dT kvs=>kvs.length<=sizeLine/\(a == sysModules)=false/\∃ xs:List (List Key×Addr×Value),
   Paired (fun (p:List Key×V) (q:List Key×Addr×Value)=>p.1=q.1/\H q.2.1=some (.tup (p.1.map kV))/\RelV p.2 q.2.2) kvs xs /\
   ∃ o es ep,h.get? a=some o/\o.ExactDict/\o.data=.dict es ep/\es.toList=xs.map (entryOfKey (tupleKind (jcp P w)))/\(xs.map (·.1)).Nodup
 | .set S n=>h.SetOf (intKind P w) a S n
 | .ins C dx fs=>H dx=some (.own a)/\fs.length<=1000/\dx≠a/\h.get? a=some (W.instObj C dx) /\
   ∃ mA,h.Ns1 dx mA/\(∀ f,RelO (fs.lookup f) (mA f))/\PySem.Within mA (fs.map (·.1))
 | .own _=>∃ o,h.get? a=some o
 | .xd fs=>∃ mA,h.Ns1 a mA/\∀ f,RelO (fs.lookup f) (mA f)
 | .rng lo hi=>∃ t u v,h.get? a=some { cls:=.type "range",data:=.fields #[.int lo t,.int hi u,.int 1 v] }
 | .frz o u=>h.get? a=some o/\ObjOk H h a u
 | .tbl ps=>h.get? a=some { cls:=.none,data:=.fields ps }
 | .met f x=>h.get? a=some (W.methodObj (.ref f) (.ref x))
 | .ext φ=>φ h/\(∃ o,h.get? a=some o)/\∀ h1 h2:Heap,φ h1->(∀ o,h1.get? a=some o->h2.get? a=some o)->φ h2
def HOk(H:Hp)(h:Heap):Prop:=∀ a o,H a=some o->ObjOk P w H h a o
end
section
variable {P:Program}{w:World}{H H':Hp}{h h':Heap}{a:Addr}{o:HO}
theorem ObjOk.lt(x:ObjOk P w H h a o):a<h.objs.size:=by
 cases o with
 | lst xs=>obtain⟨_,_,_,_,e⟩:=x;exact zbv e
 | tup xs=>obtain⟨_,_,_,p⟩:=x;exact p.lt
 | dK kvs=>obtain⟨_,_,_,_,o,_,_,e,_⟩:=x;exact zbv e
 | dT kvs=>obtain⟨_,_,_,_,o,_,_,e,_⟩:=x;exact zbv e
 | set S n=>obtain⟨o,_,_,_,e,_⟩:=x;exact zbv e
 | ins C dx fs=>obtain⟨_,_,_,e,_⟩:=x;exact zbv e
 | own y=>obtain⟨_,e⟩:=x;exact zbv e
 | xd fs=>obtain⟨_,⟨_,_,_,e,_⟩,_⟩:=x;exact zbv e
 | rng lo hi=>obtain⟨_,_,_,e⟩:=x;exact zbv e
 | frz ob u=>obtain⟨e,_⟩:=x;exact zbv e
 | tbl ps=>exact zbv (x)
 | met f y=>exact zbv (x)
 | ext φ=>obtain⟨_,⟨_,e⟩,_⟩:=x;exact zbv e
theorem Paired.mapP:∀ {l₁:List α} {l₂:List β},Paired F l₁ l₂->(∀ a b,F a b->G a b)->Paired G l₁ l₂
 | _,_,.nil,_=>.nil
 | _,_,.cons r t,f=>.cons (f _ _ r) (Paired.mapP t f)
def ObjOk.stay(x:ObjOk P w H h a o)(k:∀ b u,(b=a\/H b=some (.own a))->h.get? b=some u->h'.get? b=some u)
  (ho:∀ b,H b=some (.own a)->H' b=some (.own a)) (ht:∀ b xs,H b=some (.tup xs)->H' b=some (.tup xs)):ObjOk P w H' h' a o:=by
 induction o with
 | lst xs=>obtain⟨z,its,n,r,e⟩:=x;exact⟨z,its,n,r,k _ _ (.inl rfl) e⟩
 | tup xs=>obtain⟨z,its,r,ob,e,c⟩:=x;exact⟨z,its,r,ob,k _ _ (.inl rfl) e,c⟩
 | dK kvs=>obtain⟨z,y,vs,r,ob,es,ep,e,c⟩:=x;exact⟨z,y,vs,r,ob,es,ep,k _ _ (.inl rfl) e,c⟩
 | dT kvs =>
  obtain⟨z,y,xs,r,ob,es,ep,e,c⟩:=x;exact⟨z,y,xs,Paired.mapP r fun p q z=>⟨z.1,ht _ _ z.2.1,z.2.2⟩,ob,es,ep,k _ _ (.inl rfl) e,c⟩
 | set S n=>obtain⟨ob,es,ep,t,e,c⟩:=x;exact⟨ob,es,ep,t,k _ _ (.inl rfl) e,c⟩
 | ins C dx fs =>
  obtain⟨d,z,ne,e,mA,⟨od,es,ep,e2,c⟩,r⟩:=x;exact⟨ho _ d,z,ne,k _ _ (.inl rfl) e,mA,⟨od,es,ep,k _ _ (.inr d) e2,c⟩,r⟩
 | own y=>obtain⟨ob,e⟩:=x;exact⟨ob,k _ _ (.inl rfl) e⟩
 | xd fs=>obtain⟨mA,⟨od,es,ep,e,c⟩,r⟩:=x;exact⟨mA,⟨od,es,ep,k _ _ (.inl rfl) e,c⟩,r⟩
 | rng lo hi=>obtain⟨t,u,v,e⟩:=x;exact⟨t,u,v,k _ _ (.inl rfl) e⟩
 | frz ob u ih=>obtain⟨e,q⟩:=x;exact⟨k _ _ (.inl rfl) e,ih q⟩
 | tbl ps =>
  exact k a _ (.inl rfl) x
 | met f y =>
  exact k a _ (.inl rfl) x
 | ext φ=>obtain⟨p,⟨o,e⟩,st⟩:=x;exact⟨st _ _ p fun o q=>k _ _ (.inl rfl) q,⟨o,k _ _ (.inl rfl) e⟩,st⟩
def HOk.lt(x:HOk P w H h)(e:H a=some o):a<h.objs.size:=(x a o e).lt
theorem HOk.fresh(x:HOk P w H h)(e:h.objs.size<=a):H a=none:=by
 cases q:H a with
 | none=>rfl
 | some u=>exact absurd (zcx (x.lt q) e) (Nat.lt_irrefl _)
def HOk.kept(x:HOk P w H h)(k:∀ b u,h.get? b=some u->h'.get? b=some u):HOk P w H h':=fun a o e =>
 (x a o e).stay (fun b u _ q=>k b u q) (fun _ q=>q) fun _ _ q=>q
def HOk.laid(x:HOk P w H h)(k:∀ b u,h.get? b=some u->h'.get? b=some u)(hp:h.objs.size<=a)(new:ObjOk P w (upd H a o) h' a o):HOk P w (upd H a o) h':=fun b u e=>by
 have hn:=x.fresh hp
 by_cases hb:b=a
 .subst hb;rw[jaj] at e;grind
 .rw[jam hb] at e;exact (x b u e).stay (fun c v _ q=>k c v q) (fun c q=>by rw[jam (jau q hn)];exact q) fun c xs q=>by rw[jam (jau q hn)];exact q
end
def Rd(H:Hp)(a:Addr)(u:HO):Prop:=H a=some u\/∃ o,H a=some (.frz o u)
def Rd.ok(r:Rd H a u)(x:HOk P w H h):ObjOk P w H h a u:=by
 rcases r with r|⟨o,r⟩
 .exact x a u r
 .obtain⟨_,q⟩:=x a _ r;exact q
def Mut:Option HO->Prop
 | some (.lst _)=>True
 | some (.dK _)=>True
 | some (.dT _)=>True
 | some (.set _ _)=>True
 | some (.ins _ _ _)=>True
 | some (.ext _)=>True
 | _=>False
section
variable {P:Program}{w:World}{H:Hp}{h h':Heap}{x e:Addr}{o':HO}
def HOk.write(ok:HOk P w H h)(mu:Mut (H x))(he:e=x\/H e=some (.own x))(k:∀ b u,b≠e->h.get? b=some u->h'.get? b=some u)(heo:∃ u,h'.get? e=some u)
  (new:ObjOk P w (upd H x o') h' x o'):HOk P w (upd H x o') h':=fun b u q=>by
 have nown:∀ c y,H c=some (.own y)->c≠x:=fun c y r z=>by subst z;rw[r] at mu;exact mu
 by_cases hb:b=x
 .subst hb;rw[jaj] at q;grind
 .rw[jam hb] at q
  by_cases hbe:b=e
  .have q':H b=some (.own x):=by
    rcases he with z|z
    .grind
    .grind
   rw[q] at q';cases q'
   obtain⟨v,hv⟩:=heo;exact⟨v,by grind⟩
  .refine (ok b u q).stay (fun c v hc r=>k c v ?_ r) (fun c r=>by rw[jam (nown c b r)];exact r) fun c xs r=>by rw[jam ((fun c xs r z=>by subst z;rw[r] at mu;exact mu) c xs r)];exact r
   grind
end
structure Un(fs ex:List Addr)(H H':Hp)(h h':Heap):Prop where
 keep:∀ b o,h.get? b=some o->H b=none->b∉fs->b∉ex->h'.get? b=some o
 slot:∀ b o,h.get? b=some o->H b=none->b∈fs->b∉ex->∃ sl,h'.get? b=some { o with slots:=sl }
 free:∀ b o,h.get? b=some o->H b=none->b∉ex->H' b=none
 there:∀ b o,h.get? b=some o->b∉ex->∃ o',h'.get? b=some o'
 tups:∀ b xs,H b=some (.tup xs)->H' b=some (.tup xs)
 frzs:∀ b o u,H b=some (.frz o u)->H' b=some (.frz o u)
 tbls:∀ b ps,H b=some (.tbl ps)->∃ more,H' b=some (.tbl (ps++more))
section
variable {fs ex:List Addr}{H H1:Hp}{h h1 h':Heap}{a x e:Addr}{o:HO}
def Un.any(u:Un fs ex H H1 h h1)(q:h.get? b=some ob)(n:H b=none)(hx:b∉ex):∃ sl,h1.get? b=some { ob with slots:=sl }:=by
 by_cases hb:b∈fs
 .exact u.slot b ob q n hb hx
 .exact⟨_,u.keep b ob q n hb hx⟩
def Un.kept(k:∀ b u,h.get? b=some u->h'.get? b=some u):Un fs ex H H h h' :=
 ⟨fun b ob q _ _ _=>k b ob q,fun b ob q _ _ _=>⟨_,k b ob q⟩,fun _ _ _ n _=>n,fun b ob q _=>⟨ob,k b ob q⟩,fun _ _ q=>q,fun _ _ _ q=>q,fun _ ps q=>⟨#[],by rw[q];simp⟩⟩
theorem Un.refl:Un fs ex H H h h:=Un.kept fun _ _ q=>q
def Un.laid(k:∀ b u,h.get? b=some u->h'.get? b=some u)(hp:h.objs.size<=a)(hn:H a=none):Un fs ex H (upd H a o) h h' where
 keep:=fun b u q _ _ _=>k b u q
 slot:=fun b u q _ _ _=>⟨_,k b u q⟩
 free:=fun b u q n _=>by rw[jam (zcw (zcx (zbv q) hp))];exact n
 there:=fun b u q _=>⟨u,k b u q⟩
 tups:=fun b xs q=>by rw[jam (jau q hn)];exact q
 frzs:=fun b u xs q=>by rw[jam (jau q hn)];exact q
 tbls:=fun b ps q=>⟨#[],by rw[jam (jau q hn),q];simp⟩
def Un.write(mu:Mut (H x))(he:e=x\/H e=some (.own x))(k:∀ b u,b≠e->h.get? b=some u->h'.get? b=some u)(heo:∃ u,h'.get? e=some u):Un fs ex H (upd H x o) h h':=by
 have hx:∀ b,H b=none->b≠x:=fun b n z=>by subst z;rw[n] at mu;exact mu
 have hb:∀ b,H b=none->b≠e:=fun b n z=>by
  grind
 have hm:∀ b u,H b=some u->¬ Mut (some u)->b≠x:=fun b u q nm z=>by grind
 refine⟨fun b u q n _ _=>k b u (hb b n) q,fun b u q n _ _=>⟨_,k b u (hb b n) q⟩,fun b u q n _=>by rw[jam (hx b n)];exact n,fun b u q _=>?_,
  fun b xs q=>by rw[jam (hm b _ q fun z=>z)];exact q,fun b u xs q=>by rw[jam (hm b _ q fun z=>z)];exact q,fun b ps q=>⟨#[],by rw[jam (hm b _ q fun z=>z),q];simp⟩⟩
 grind
end
def trk(h:Heap)(H:Hp):List Addr:=(List.range h.objs.size).filter fun a=>(H a).isSome
def hidT(h:Heap)(H:Hp):Heap:=W.hideAll h (trk h H)
def jxn(h:Heap)(H:Hp):(hidT h H).objs.size=h.objs.size:=W.hideAll_size _ _
def jCj{h:Heap}{H:Hp}{b:Addr}{o:Obj}(e:h.get? b=some o)(n:H b=none):(hidT h H).get? b=some o :=
 W.hideAll_get _ e fun hm=>by
  have q:=(List.mem_filter.mp hm).2
  grind
def jJr(e:(hidT h H).get? b=some o):h.get? b=some o/\H b=none:=by
 have e':=W.of_hideAll _ e;refine⟨e',?_⟩
 cases q:H b with
 | none=>rfl
 | some x =>
  have z:(hidT h H).get? b=none:=W.hideAll_none _ (List.mem_filter.mpr ⟨zcc.mpr (zbv e'),by simp[q]⟩)
  grind
def jGt(g h:Heap)(L:Addr):qb:=(List.range h.objs.size).filterMap fun a=>if a=L\/(g.get? a).isSome=true then none else (h.get? a).map fun o=>(a,o)
def rest(g h:Heap)(L d:Addr):qb:=(jGt g h L).filter fun p=>decide (p.1≠d)
structure Mod(K:W.Frag)(mg:qa)(base:Heap):Prop where
 kin:K.In base
 glob:base.Ns mainGlobals mg
 blt:∃ mb,base.Ns builtinsNs mb/\∀ x:Str,x≠"__name__"->mb x=bootBuiltins x
 nolimit:base.NoLimit
structure Cx where
 prog:Program
 w:World
 K:W.Frag
 mg:qa
 base:Heap
 A:Around
 N:List Str
 s₀:Shared
 Hz:Hp
 env:Env
 outer:List Env
 stack:List Env
 ex:List Addr
 fn:Str->Bool
 calm:Bool
 pn:qb
 xe:qc
def frs(l:List Env):List Addr:=l.filterMap (·.frame)
abbrev Cx.fs(X:Cx):List Addr:=frs X.outer
def Vis(sc:Scope)(x:Str):Prop:=sc.names.lookup x=some .local\/sc.names.lookup x=some .cell\/sc.names.lookup x=some .free
def Loc(sc:Scope)(x:Str):Prop:=sc.names.lookup x=some .local\/sc.names.lookup x=some .cell
def Look(env:Env)(h:Heap)(m:qa)(x:Str)(u:Value):Prop :=
 (env.kindOf x=some .local/\m x=some u)\/((env.kindOf x=some .cell\/env.kindOf x=some .free)/\∃ c,env.cells.lookup x=some c/\h.IsCell c (some u))
structure Cx.Ok(X:Cx):Prop where
 mod:Mod X.K X.mg X.base
 kind:X.env.scope.kind=.function
 glob:X.env.globals=mainGlobals
 blt:X.env.builtins=builtinsNs
 above:X.s₀.heap.objs.size<=X.env.locals
 inj:∀ x y c,X.env.cells.lookup x=some c->X.env.cells.lookup y=some c->x=y
 has:∀ x,(X.env.kindOf x=some .cell\/X.env.kindOf x=some .free)->∃ c,X.env.cells.lookup x=some c
 cab:∀ x c,X.fn x=true->X.env.cells.lookup x=some c->X.s₀.heap.objs.size<=c
 hd:X.calm=true->X.A.handled=none
 frames:X.A.frames=some X.stack
 stk:X.stack=X.outer\/(X.stack=X.env::X.outer/\X.env.frame=some X.env.locals)
 exf:∀ b∈X.ex,b≠X.env.locals/\∀ x c,X.env.cells.lookup x=some c->c≠b
 bs:∀ b o,X.base.get? b=some o->X.s₀.heap.get? b=some o/\X.Hz b=none
 bsz:X.base.objs.size<=X.s₀.heap.objs.size
 noex:∀ b o,X.base.get? b=some o->b∉X.ex
 exfs:∀ b∈X.ex,b∉X.fs
 funs:X.s₀.heap.FunFrames X.base X.outer
 frf:∀ b∈X.fs,X.Hz b=none
structure Inv(X:Cx)(U:qb)(Z:List (Option V))(H:Hp)(s:Shared):Prop where
 ok:X.Ok
 os:s.os=X.s₀.os
 bare:AllBare s.gens
 base:Un X.fs X.ex X.Hz H X.s₀.heap s.heap
 loc:∃ m,s.heap.Ns X.env.locals m/\∀ (i:Nat) (x:Str) (v:V),X.N[i]? = some x->Z[i]? = some (some v)->Vis X.env.scope x->∃ u,RelV v u/\Look X.env s.heap m x u
 cell:∀ x c,X.env.cells.lookup x=some c->∃ v,s.heap.IsCell c v
 free:H X.env.locals=none
 freeC:∀ x c,X.env.cells.lookup x=some c->H c=none
 pin:∀ p∈X.pn++U,s.heap.get? p.1=some p.2/\H p.1=none/\p.1≠X.env.locals/\p.1∉X.fs/\∀ v,p.2.data≠.cell v
 hok:HOk X.prog X.w H s.heap
 len:Z.length=X.N.length
section
variable {X:Cx}{U:qb}{Z:List (Option V)}{H H':Hp}{s:Shared}{h':Heap}
def Cx.Ok.nofr(ok:X.Ok)(e:X.base.get? b=some o):b∉X.fs:=fun hb=>by
 have:=(ok.funs.mem hb).1
 grind
def Inv.bs(I:Inv X U Z H s):∀ b o,X.base.get? b=some o->s.heap.get? b=some o/\H b=none:=fun b o e =>
 ⟨I.base.keep b o (I.ok.bs b o e).1 (I.ok.bs b o e).2 (I.ok.nofr e) (I.ok.noex b o e),I.base.free b o (I.ok.bs b o e).1 (I.ok.bs b o e).2 (I.ok.noex b o e)⟩
def Inv.bk(I:Inv X U Z H s):∀ b o,X.base.get? b=some o->s.heap.get? b=some o:=fun b o e=>(I.bs b o e).1
def Inv.mod(I:Inv X U Z H s):Mod X.K X.mg X.base:=I.ok.mod
def Inv.kIn(I:Inv X U Z H s):X.K.In s.heap:=I.ok.mod.kin.keeps I.bk
def Inv.lt(I:Inv X U Z H s):X.env.locals<s.heap.objs.size:=let ⟨_,hn,_⟩:=I.loc;hn.lt
def Inv.sz(I:Inv X U Z H s):X.s₀.heap.objs.size<=s.heap.objs.size:=zdz I.ok.above (Nat.le_of_lt I.lt)
def Inv.nofs(I:Inv X U Z H s)(h:s.heap.objs.size<=a):a∉X.fs:=fun hb=>by
 obtain⟨_,o,ho,_⟩:=I.ok.funs.mem hb;exact absurd (zcx (zbv ho) (zdz I.sz h)) (Nat.lt_irrefl _)
def Inv.cne(I:Inv X U Z H s):∀ x c,X.env.cells.lookup x=some c->c≠X.env.locals:=fun x c e z=>by
 obtain⟨v,o,ho,hd⟩:=I.cell x c e;obtain⟨m,⟨o',es,ep,ho',hd',_⟩,_⟩:=I.loc
 grind
def Inv.funs(I:Inv X U Z H s):s.heap.FunFrames X.base X.outer:=by
 have all:∀ (l:List Env),(∀ b∈frs l,b∈X.fs)->X.s₀.heap.FunFrames X.base l->s.heap.FunFrames X.base l:=by
  intro l
  induction l with
  | nil=>intro _ _;trivial
  | cons env r ih =>
   intro hs hl;obtain⟨hk,⟨L,o,hf,hn,ho,hd⟩,hr⟩:=hl;have hL:=hs L (by unfold frs;grind);obtain⟨sl,e⟩:=I.base.slot L o ho (I.ok.frf L hL) hL fun z=>I.ok.exfs L z hL
   exact⟨hk,⟨L,_,hf,hn,e,hd⟩,ih (fun b hb=>hs b (by unfold frs;rw[List.filterMap_cons,hf];exact zaw _ hb)) hr⟩
 exact all _ (fun _ hb=>hb) I.ok.funs
def Inv.stack(I:Inv X U Z H s):s.heap.FunFrames X.base X.stack:=by
 rcases I.ok.stk with e|⟨e,hf⟩
 .rw[e];exact I.funs
 .rw[e];obtain⟨m,hn,_⟩:=I.loc;exact .cons (by rw[I.ok.kind];decide) hf hn (Heap.get?_none_of_le (zdz I.ok.bsz I.ok.above)) I.funs
def Inv.stkSub(I:Inv X U Z H s):∀ b∈frs X.stack,b∈X.env.locals::X.fs:=fun b hb=>by
 rcases I.ok.stk with e|⟨e,hf⟩
 .grind
 .rw[e] at hb;unfold frs at hb;rw[List.filterMap_cons,hf] at hb;exact hb
def Inv.stkFree(I:Inv X U Z H s):∀ b∈frs X.stack,H b=none:=fun b hb=>by
 rcases List.mem_cons.mp (I.stkSub b hb) with e|hb
 .rw[e];exact I.free
 .obtain⟨_,o,ho,_⟩:=I.ok.funs.mem hb;exact I.base.free b o ho (I.ok.frf b hb) fun z=>I.ok.exfs b z hb
def Inv.step{ch:List Addr}(I:Inv X U Z H s)
  (hch:∀ b∈ch,(b∈X.ex\/X.s₀.heap.objs.size<=b)/\b≠X.env.locals/\(∀ x c,X.env.cells.lookup x=some c->c≠b)/\∀ p∈X.pn++U,p.1≠b)
  (keep:∀ b o,b≠X.env.locals->b∉X.fs->b∉ch->s.heap.get? b=some o->H b=none->h'.get? b=some o)
  (slot:∀ b o,b≠X.env.locals->b∈X.fs->b∉ch->s.heap.get? b=some o->H b=none->∃ sl,h'.get? b=some { o with slots:=sl }) (free:∀ b o,b∉ch->s.heap.get? b=some o->H b=none->H' b=none)
  (there:∀ b o,b∉ch->s.heap.get? b=some o->∃ o',h'.get? b=some o')
  (tups:∀ b xs,H b=some (.tup xs)->H' b=some (.tup xs)) (frzs:∀ b o u,H b=some (.frz o u)->H' b=some (.frz o u)) (tbls:∀ b ps,H b=some (.tbl ps)->∃ more,H' b=some (.tbl (ps++more)))
  (ns:∀ m,s.heap.Ns X.env.locals m->h'.Ns X.env.locals m) (hok:HOk X.prog X.w H' h') (hg:AllBare g') :
  Inv X U Z H' { s with heap:=h',gens:=g',drawn:=d',toks:=t' }:=by
 have neL:∀ b o,X.s₀.heap.get? b=some o->b≠X.env.locals:=fun b o e=>zcw (zcx (zbv e) I.ok.above)
 have neC:∀ b o,X.s₀.heap.get? b=some o->b∉X.ex->b∉ch:=fun b o e hx hb=>by
  rcases (hch b hb).1 with z|z
  .exact hx z
  .exact absurd (zcx (zbv e) z) (Nat.lt_irrefl _)
 have cellK:∀ x c,X.env.cells.lookup x=some c->∀ v,s.heap.IsCell c v->h'.IsCell c v:=fun x c e v ⟨o,ho,hd⟩=>by
  have nch:=fun z=>(hch c z).2.2.1 x c e rfl
  by_cases hc:c∈X.fs
  .obtain⟨sl,q⟩:=slot c o (I.cne x c e) hc nch ho (I.freeC x c e);exact⟨_,q,hd⟩
  .exact⟨o,keep c o (I.cne x c e) hc nch ho (I.freeC x c e),hd⟩
 refine⟨I.ok,I.os,hg,⟨fun b o e n hb hx=>(keep b o (neL b o e) hb (neC b o e hx) (I.base.keep b o e n hb hx) (I.base.free b o e n hx)),fun b o e n hb hx=>?_,fun b o e n hx=>?_,fun b o e hx=>?_,fun b xs e=>tups b xs (I.base.tups b xs e),fun b o xs e=>frzs b o xs (I.base.frzs b o xs e),fun b ps e=>?_⟩,?_,fun x c e=>?_,?_,fun x c e=>?_,fun p hp=>?_,hok,I.len⟩
 .obtain⟨sl,e1⟩:=I.base.slot b o e n hb hx;obtain⟨sl',e2⟩:=slot b _ (neL b o e) hb (neC b o e hx) e1 (I.base.free b o e n hx)
  grind
 .obtain⟨o',e1⟩:=I.base.there b o e hx;exact free b o' (neC b o e hx) e1 (I.base.free b o e n hx)
 .obtain⟨o',e1⟩:=I.base.there b o e hx
  grind
 .obtain⟨m1,e1⟩:=I.base.tbls b ps e;obtain⟨m2,e2⟩:=tbls b _ e1;exact⟨_,by rw[e2,Array.append_assoc]⟩
 .obtain⟨m,hn,hl⟩:=I.loc;refine⟨m,ns m hn,fun i x v e1 e2 e3=>?_⟩;obtain⟨u,r,l⟩:=hl i x v e1 e2 e3;refine⟨u,r,?_⟩;rcases l with l|⟨k,c,e,z⟩
  .exact .inl l
  .exact .inr ⟨k,c,e,cellK x c e _ z⟩
 .obtain⟨v,z⟩:=I.cell x c e
  grind
 .obtain⟨m,⟨o,_,_,ho,_⟩,_⟩:=I.loc;exact free _ o (fun z=>(hch _ z).2.1 rfl) ho I.free
 .obtain⟨v,o,ho,hd⟩:=I.cell x c e;exact free c o (fun z=>(hch c z).2.2.1 x c e rfl) ho (I.freeC x c e)
 .obtain⟨e,n,ne,nf,d⟩:=I.pin p hp;have nch:=fun z=>(hch p.1 z).2.2.2 p hp rfl
  exact⟨keep p.1 p.2 ne nf nch e n,free p.1 p.2 nch e n,ne,nf,d⟩
def Inv.un(I:Inv X U Z H s)(u:Un X.fs [] H H' s.heap h')(hok:HOk X.prog X.w H' h'):Inv X U Z H' { s with heap:=h',toks:=t' }:=by
 obtain⟨m,⟨o,es,ep,ho,r⟩,_⟩:=id I.loc;obtain⟨sl,hL⟩:=u.any ho I.free (by simp);exact I.step (ch:=[]) (fun _ z=>nomatch z) (fun b o _ hb _ e n=>u.keep b o e n hb (by simp)) (fun b o _ hb _ e n=>u.slot b o e n hb (by simp)) (fun b o _ e n=>u.free b o e n (by simp)) (fun b o _ e=>u.there b o e (by simp)) u.tups u.frzs u.tbls (fun m' hm=>by
  obtain⟨o',es',ep',ho',r'⟩:=hm;rw[ho] at ho';cases ho'
  exact⟨_,es',ep',hL,r'⟩) hok I.bare
def Inv.call(I:Inv X U Z H s)(u:Un (frs X.stack) ch H H' s.heap h')(hok:HOk X.prog X.w H' h')(hg:AllBare g')
  (hch:∀ b∈ch,(b∈X.ex\/X.s₀.heap.objs.size<=b)/\b≠X.env.locals/\(∀ x c,X.env.cells.lookup x=some c->c≠b)/\∀ p∈X.pn++U,p.1≠b) :
  Inv X U Z H' { s with heap:=h',gens:=g',drawn:=d',toks:=t' }:=by
 obtain⟨m,⟨o,es,ep,ho,r⟩,_⟩:=id I.loc;obtain⟨sl,hL⟩:=u.any ho I.free fun z=>(hch _ z).2.1 rfl
 exact I.step hch (fun b o hL hb hc e n=>u.keep b o e n (fun z=>(List.mem_cons.mp (I.stkSub b z)).elim hL hb) hc) (fun b o _ _ hc e n=>u.any e n hc) (fun b o hc e n=>u.free b o e n hc) (fun b o hc e=>u.there b o e hc) u.tups u.frzs u.tbls (fun m' hm=>by
  obtain⟨o',es',ep',ho',r'⟩:=hm;rw[ho] at ho';cases ho'
  exact⟨_,es',ep',hL,r'⟩) hok hg
def Inv.turned(I:Inv X U Z H s)(k:∀ b o,b≠it->s.heap.get? b=some o->h'.get? b=some o)(hn:H it=none)(hL:it≠X.env.locals)
  (h1:it∈X.ex\/X.s₀.heap.objs.size<=it) (h2:∀ x c,X.env.cells.lookup x=some c->c≠it) (h3:∀ p∈X.pn++U,p.1≠it):Inv X U Z H { s with heap:=h',toks:=t' }:=by
 have nit:∀ b u,H b=some u->b≠it:=fun b u e z=>by grind
 refine I.step (ch:=[it]) (fun b hb=>?_) (fun b o _ _ hc e _=>k b o (fun z=>hc (by simp[z])) e) (fun b o _ _ hc e _=>⟨_,k b o (fun z=>hc (by simp[z])) e⟩) (fun _ _ _ _ n=>n)
  (fun b o hc e=>⟨o,k b o (fun z=>hc (by simp[z])) e⟩) (fun _ _ e=>e) (fun _ _ _ e=>e) (fun b ps e=>⟨#[],by rw[e];simp⟩) (fun m hm=>?_) (fun b u e=>?_) I.bare
 .have e:=by simpa using hb
  subst e;exact⟨h1,hL,h2,h3⟩
 .obtain⟨o,es,ep,ho,r⟩:=hm;exact⟨o,es,ep,k _ o (Ne.symm hL) ho,r⟩
 .refine (I.hok b u e).stay (fun c v hc q=>k c v ?_ q) (fun _ q=>q) fun _ _ q=>q
  grind
def Inv.tok(I:Inv X U Z H s)(t:Nat):Inv X U Z H { s with toks:=t }:=I.un Un.refl I.hok
def Inv.kept(I:Inv X U Z H s)(k:∀ b u,s.heap.get? b=some u->h'.get? b=some u):Inv X U Z H { s with heap:=h',toks:=t' }:=I.un (Un.kept k) (I.hok.kept k)
def Inv.laid(I:Inv X U Z H s)(k:∀ b u,s.heap.get? b=some u->h'.get? b=some u)(hp:s.heap.objs.size<=a)(new:ObjOk X.prog X.w (upd H a o) h' a o) :
  Inv X U Z (upd H a o) { s with heap:=h',toks:=t' }:=I.un (Un.laid k hp (I.hok.fresh hp)) (I.hok.laid k hp new)
def Inv.write(I:Inv X U Z H s)(mu:Mut (H x))(he:e=x\/H e=some (.own x))(k:∀ b u,b≠e->s.heap.get? b=some u->h'.get? b=some u)(heo:∃ u,h'.get? e=some u)
  (new:ObjOk X.prog X.w (upd H x o) h' x o):Inv X U Z (upd H x o) { s with heap:=h',toks:=t' }:=I.un (Un.write mu he k heo) (I.hok.write mu he k heo new)
def Inv.pins_of(I:Inv X U Z H s)(h:∀ p∈pins',s.heap.get? p.1=some p.2/\H p.1=none/\p.1≠X.env.locals/\p.1∉X.fs/\∀ v,p.2.data≠.cell v):Inv X pins' Z H s :=
 ⟨I.ok,I.os,I.bare,I.base,I.loc,I.cell,I.free,I.freeC,fun p hp=>(zdy.mp hp).elim (fun z=>I.pin p (List.mem_append_left _ z)) (h p),I.hok,I.len⟩
def jt6{N:List Str}(hN:N.Nodup){i j:Nat}(a:N[i]? = some x)(b:N[j]? = some x):i=j:=by
 obtain⟨h1,e1⟩:=zbb.mp a;obtain⟨h2,e2⟩:=zbb.mp b;exact (List.getElem_inj hN).mp (e1.trans e2.symm)
def jqq{M:Model}{A:Around}{E:qc}{i:Nat}{x:Str}{v:V}{u:Value}{Q:Unit->Shared->Prop}(I:Inv X U Z H s)(hN:X.N.Nodup)(hi:X.N[i]? = some x)(hx:Loc X.env.scope x)(r:RelV v u)
  (h:∀ s',Inv X U (Z.set i (some v)) H s'->(∃ a,Heap.SameBut a s.heap s'.heap/\(a=X.env.locals\/X.env.cells.lookup x=some a))->Q () s') (hf:X.fn x=true\/X.env.scope.names.lookup x=some .local):wpAny M A (storeName X.env x u) Q E s:=by
 obtain⟨m,hn,hl⟩:=id I.loc;have hiZ:i<Z.length:=by rw[I.len];exact (zbb.mp hi).1
 have cne:=I.cne;have tracked:∀ {a:Addr} {h':Heap},(∃ o,s.heap.get? a=some o/\H a=none)->Heap.SameBut a _ h'->HOk _ X.w H h':=fun {a h'} ha hs b ob e=>by
  obtain⟨_,_,hfree⟩:=ha;refine (I.hok b ob e).stay (fun c w' hc q=>(hs.2 c ?_).trans q) (fun _ q=>q) fun _ _ q=>q
  grind
 rcases hx with hk|hk
 .refine wpAny_storeName_local hk hn (fun h' hn' hs=>?_) (by rw[I.ok.kind];rfl);obtain⟨oL,_,_,hoL,_⟩:=id hn;refine h _ ⟨I.ok,I.os,I.bare,⟨fun b o e n hb hx=>((hs.2 b (zcw (zcx (zbv e) I.ok.above))).trans (I.base.keep b o e n hb hx)),fun b o e n hb hx=>?_,I.base.free,fun b o e hx=>?_,I.base.tups,I.base.frzs,I.base.tbls⟩,⟨_,hn',fun j y v' e1 e2 e3=>?_⟩,fun y c e=>?_,I.free,I.freeC,fun p hp=>?_,tracked ⟨oL,hoL,I.free⟩ hs,by simpa using I.len⟩ ⟨_,hs,.inl rfl⟩
  .obtain⟨sl,e1⟩:=I.base.slot b o e n hb hx;exact⟨sl,(hs.2 b (zcw (zcx (zbv e) I.ok.above))).trans e1⟩
  .obtain⟨o',e1⟩:=I.base.there b o e hx;exact⟨o',(hs.2 b (zcw (zcx (zbv e) I.ok.above))).trans e1⟩
  .by_cases hj:j=i
   .subst hj;rw[hi] at e1;cases e1
    rw[zcz hiZ] at e2;cases e2;exact⟨u,r,.inl ⟨hk,by simp⟩⟩
   .rw[zbw (Ne.symm hj)] at e2;obtain⟨u',r',q⟩:=hl j y v' e1 e2 e3;refine⟨u',r',?_⟩;rcases q with ⟨k,e⟩|⟨k,c,e,z⟩
    .refine .inl ⟨k,?_⟩;have:y≠x:=fun e=>hj (jt6 hN e1 (e ▸ hi))
     grind
    .exact .inr ⟨k,c,e,z.sameBut hs (cne y c e)⟩
  .obtain⟨w',z⟩:=I.cell y c e;exact⟨w',z.sameBut hs (cne y c e)⟩
  .obtain⟨e,n,ne,nf,d⟩:=I.pin p hp;exact⟨(hs.2 p.1 ne).trans e,n,ne,nf,d⟩
 .have hfn:X.fn x=true:=by
   rcases hf with z|z
   .exact z
   .grind
  obtain⟨c,hc⟩:=I.ok.has x (.inl hk);obtain⟨w',z⟩:=I.cell x c hc;refine wpAny_storeName_cell I.ok.kind hk hc z (fun h' hc' hs=>?_);obtain⟨oc,hoc,hocd⟩:=id z;refine h _ ⟨I.ok,I.os,I.bare,⟨fun b o e n hb hx=>((hs.2 b (zcw (zcx (zbv e) (I.ok.cab x c hfn hc)))).trans (I.base.keep b o e n hb hx)),fun b o e n hb hx=>?_,I.base.free,fun b o e hx=>?_,I.base.tups,I.base.frzs,I.base.tbls⟩,⟨m,hn.sameBut hs (Ne.symm (cne x c hc)),fun j y v' e1 e2 e3=>?_⟩,fun y c' e=>?_,I.free,I.freeC,fun p hp=>?_,tracked ⟨oc,hoc,I.freeC x c hc⟩ hs,by simpa using I.len⟩ ⟨c,hs,.inr hc⟩
  .obtain⟨sl,e1⟩:=I.base.slot b o e n hb hx;exact⟨sl,(hs.2 b (zcw (zcx (zbv e) (I.ok.cab x c hfn hc)))).trans e1⟩
  .obtain⟨o',e1⟩:=I.base.there b o e hx;exact⟨o',(hs.2 b (zcw (zcx (zbv e) (I.ok.cab x c hfn hc)))).trans e1⟩
  .by_cases hj:j=i
   .subst hj;rw[hi] at e1;cases e1
    rw[zcz hiZ] at e2;cases e2;exact⟨u,r,.inr ⟨.inl hk,c,hc,hc'⟩⟩
   .rw[zbw (Ne.symm hj)] at e2;obtain⟨u',r',q⟩:=hl j y v' e1 e2 e3;refine⟨u',r',?_⟩;rcases q with q|⟨k,c',e,z'⟩
    .exact .inl q
    .refine .inr ⟨k,c',e,z'.sameBut hs ?_⟩;rintro rfl;exact hj (jt6 hN e1 (I.ok.inj _ _ _ e hc ▸ hi))
  .by_cases hcc:c'=c
   .grind
   .obtain⟨w2,z2⟩:=I.cell y c' e;exact⟨w2,z2.sameBut hs hcc⟩
  .obtain⟨e,n,ne,nf,d⟩:=I.pin p hp;refine⟨(hs.2 p.1 ?_).trans e,n,ne,nf,d⟩;intro q;rw[q,hoc] at e;exact d w' (by rw[<- (zby e)];exact hocd)
def jol{M:Model}{A:Around}{E:qc}{i:Nat}{x:Str}{v:V}{u:Value}{Q:Unit->Shared->Prop}(I:Inv X U Z H s)(hN:X.N.Nodup)(hi:X.N[i]? = some x)(hx:Loc X.env.scope x)(r:RelV v u)
  (h:∀ s',Inv X U (Z.set i (some v)) H s'->Q () s') (hf:X.fn x=true\/X.env.scope.names.lookup x=some .local):wpAny M A (storeName X.env x u) Q E s :=
 jqq I hN hi hx r (fun s' I' _=>h s' I') hf
def Inv.call'(I:Inv X U Z H s)(ho:s'.os=s.os)(u:Un (frs X.stack) ch H H' s.heap s'.heap)(hok:HOk X.prog X.w H' s'.heap)(hg:AllBare s'.gens)
  (hch:∀ b∈ch,(b∈X.ex\/X.s₀.heap.objs.size<=b)/\b≠X.env.locals/\(∀ x c,X.env.cells.lookup x=some c->c≠b)/\∀ p∈X.pn++U,p.1≠b):Inv X U Z H' s':=by
 obtain⟨h',g',d',t',o'⟩:=s';subst ho;exact I.call u hok hg hch
end
abbrev XK:=Value->Option Addr->Hp->Prop
abbrev St:=List (Option V)
abbrev VK:=V->Hp->Prop
abbrev TE:=St->Hp->VK->Prop
abbrev TT:=St->Hp->(Bool->Hp->Prop)->Prop
abbrev TA:=St->Hp->(List V->Hp->Prop)->Prop
structure Ends where
 nx:St->Hp->Prop
 rt:VK
 bk:St->Hp->Prop:=fun _ _=>False
 ct:St->Hp->Prop:=fun _ _=>False
abbrev TS:=Ends->St->Hp->Prop
def EP(X:Cx)(U:qb)(Z:St)(Q:VK)(u:Value)(s':Shared):Prop:=∃ v H',Inv X U Z H' s'/\RelV v u/\Q v H'
def TP(X:Cx)(U:qb)(Z:St)(Q:Bool->Hp->Prop)(b:Bool)(s':Shared):Prop:=∃ H',Inv X U Z H' s'/\Q b H'
def AP(X:Cx)(U:qb)(Z:St)(Q:List V->Hp->Prop)(us:List Value)(s':Shared):Prop:=∃ vs H',Inv X U Z H' s'/\Vals vs us/\Q vs H'
inductive SN(X:Cx)(U:qb)(Q:St->Hp->Prop)(s':Shared):Prop
 | mk (Z':St) (H':Hp) (hI:Inv X U Z' H' s') (hq:Q Z' H')
inductive SR(X:Cx)(U:qb)(R:VK)(u:Value)(s':Shared):Prop
 | mk (v:V) (Z':St) (H':Hp) (hI:Inv X U Z' H' s') (hr:RelV v u) (hq:R v H')
def SP(X:Cx)(U:qb)(D:Ends)(f:Flow)(s':Shared):Prop :=
 match f with
 | .next=>SN X U D.nx s'
 | .brk=>SN X U D.bk s'
 | .cont=>SN X U D.ct s'
 | .ret u=>SR X U D.rt u s'
def PE(X:Cx)(e:Expr)(t:TE):Prop :=
 ∀ (U:qb) (s:Shared) (Z:St) (H:Hp) (Q:VK),Inv X U Z H s->t Z H Q->wpAny (model X.prog X.w) X.A (eval e X.env) (EP X U Z Q) X.xe s
def PT(X:Cx)(e:Expr)(t:TT):Prop :=
 ∀ (U:qb) (s:Shared) (Z:St) (H:Hp) (Q:Bool->Hp->Prop),Inv X U Z H s->t Z H Q->wpAny (model X.prog X.w) X.A (isTrue e X.env (eval e X.env)) (TP X U Z Q) X.xe s
def PW(X:Cx)(e:Expr)(t:TT):Prop :=
 ∀ (whole:Sem Value) (U:qb) (s:Shared) (Z:St) (H:Hp) (Q:Bool->Hp->Prop),Inv X U Z H s->t Z H Q->wpAny (model X.prog X.w) X.A (isTrue e X.env whole) (TP X U Z Q) X.xe s
def PW.pt(h:PW X e t):PT X e t:=h _
def PA(X:Cx)(es:List Expr)(t:TA):Prop :=
 ∀ (pos:Pos) (U:qb) (s:Shared) (Z:St) (H:Hp) (Q:List V->Hp->Prop),Inv X U Z H s->t Z H Q->wpAny (model X.prog X.w) X.A (spliced (backTo pos (starEach es X.env))) (AP X U Z Q) X.xe s
def PS(X:Cx)(st:Stmt)(t:TS):Prop :=
 ∀ (U:qb) (s:Shared) (Z:St) (H:Hp) (D:Ends),Inv X U Z H s->t D Z H->wpAny (model X.prog X.w) X.A (exec st X.env) (SP X U D) X.xe s
def PSs(X:Cx)(st:List Stmt)(t:TS):Prop :=
 ∀ (U:qb) (s:Shared) (Z:St) (H:Hp) (D:Ends),Inv X U Z H s->t D Z H->wpAny (model X.prog X.w) X.A (execs st X.env) (SP X U D) X.xe s
def thn(h:wpAny M A t Q E s)(hQ:∀ a s,Q a s->Q' a s):wpAny M A t Q' E s:=wpAny_mono h hQ fun _ _ x=>x
section
variable {X:Cx}
def bin(ha:PE X a ta)(hb:PE X b tb){R:V->V->Hp->Prop}(I:Inv X U Z H s)(h:ta Z H fun x H1=>tb Z H1 fun y H2=>R x y H2)
  {f:Value->Value->Sem α}
  (hf:∀ v u s2 x y H2,Inv X U Z H2 s2->RelV x v->RelV y u->R x y H2->wpAny (model X.prog X.w) X.A (f v u) Q X.xe s2) :
  wpAny (model X.prog X.w) X.A (eval a X.env) (fun v s₁=>wpAny (model X.prog X.w) X.A (eval b X.env) (fun u s₂=>wpAny (model X.prog X.w) X.A (f v u) Q X.xe s₂) X.xe s₁) X.xe s:=thn (ha _ s Z H _ I h) fun v s1 ⟨x,H1,I1,r1,q1⟩=>thn (hb _ s1 Z H1 _ I1 q1) fun u s2 ⟨y,H2,I2,r2,q2⟩=>hf v u s2 x y H2 I2 r1 r2 q2
def tVar(i:Nat):TE:=fun Z H Q=>∃ v,Z[i]? = some (some v)/\Q v H
def tC(v:V):TE:=fun _ H Q=>Q v H
def jl1(hN:X.N[i]? = some x)(hv:Vis X.env.scope x)(hd:(x == ("__debug__":Str))=false)(hcd:(x == ("__classdict__":Str))=false):PE X (.Name x pos) (tVar i):=by
 intro U s Z H Q I h;obtain⟨v,e,h⟩:=h;obtain⟨m,hn,hl⟩:=I.loc;obtain⟨u,r,l⟩:=hl i x v hN e hv;have fin:EP X _ Z Q u s:=⟨v,H,I,r,h⟩
 rcases l with ⟨hk,hm⟩|⟨hk,c,hc,hcell⟩
 .exact wpAny_Name (wpAny_loadName_local I.ok.kind hk hn hm fin) hd
 .rcases hk with hk|hk
  .exact wpAny_Name (wpAny_loadName_cell I.ok.kind hk hc hcell fin) hd
  .exact wpAny_Name (wpAny_loadName_free I.ok.kind hk hc hcell fin hcd) hd
def jOn:PE X (.Constant (.int i) j pos) (tC (.int i)):=fun _ _ _ H _ I h=>wpAny_Constant_int ⟨.int i,H,I.tok _,⟨_,rfl⟩,h⟩
def jRv:PE X (.Constant (.bool b) j pos) (tC (.bl b)):=fun _ _ _ H _ I h=>Constant_bool ⟨.bl b,H,I,rfl,h⟩
def jOo:PE X (.Constant .none j pos) (tC .non):=fun _ _ _ H _ I h=>Constant_none ⟨.non,H,I,rfl,h⟩
def jOr:PE X (.Constant (.str x) j pos) (tC (.str x)):=fun _ _ _ H _ I h=>Calls.Constant_str ⟨.str x,H,I.tok _,⟨_,rfl⟩,h⟩
def Gl(X:Cx)(x:Str):Prop:=X.env.kindOf x=some .globalImplicit
def jrs{E:qc}{U:qb}{s:Shared}{Z:St}{H:Hp}{x:Str}{u:Value}{pos:Pos}{Q:qc}(I:Inv X U Z H s)(hg:Gl X x)(hm:X.mg x=some u)(h:Q u s)
  (hd:(x == ("__debug__":Str))=false):wpAny (model X.prog X.w) X.A (eval (.Name x pos) X.env) Q E s :=
 Calls.Name_function_global I.ok.kind hg (Calls.loadGlobal_global (by rw[I.ok.glob];exact I.mod.glob.keeps I.bk) hm h) hd abbrev qh(x:Str):Prop:=(x == ("__debug__":Str))=false
def jj5{E:qc}{U:qb}{s:Shared}{Z:St}{H:Hp}{x:Str}{u:Value}{pos:Pos}{Q:qc}(I:Inv X U Z H s)(hg:Gl X x)(hm:X.mg x=none)(hv:bootBuiltins x=some u)(h:Q u s)
  (hn:autoParam (x≠"__name__") zau0._auto_1) (hd:autoParam (qh x) zau0._auto_1):wpAny (model X.prog X.w) X.A (eval (.Name x pos) X.env) Q E s:=by
 obtain⟨mb,h1,h2⟩:=I.mod.blt;exact Calls.Name_function_global I.ok.kind hg (Calls.loadGlobal_builtin (by rw[I.ok.glob];exact I.mod.glob.keeps I.bk) hm (by rw[I.ok.blt];exact h1.keeps I.bk) ((h2 x hn).trans hv) h) hd
def joc(hg:Gl X x)(hm:X.mg x=some u)(r:RelV v u)(hd:(x == ("__debug__":Str))=false):PE X (.Name x pos) (tC v) :=
 fun _ _ _ H _ I h=>jrs I hg hm ⟨v,H,I,r,h⟩ hd
def jJ7(hg:Gl X x)(hm:X.mg x=none)(hv:bootBuiltins x=some u)(r:RelV v u)(hn:x≠"__name__")(hd:(x == ("__debug__":Str))=false):PE X (.Name x pos) (tC v) :=
 fun _ _ _ H _ I h=>jj5 I hg hm hv ⟨v,H,I,r,h⟩ hn hd
variable {a b:Expr}{ta tb:TE}{pos:Pos}
def PC(X:Cx)(op:CmpOp)(a b:Expr)(t:TE):Prop :=
 ∀ (U:qb) (s:Shared) (Z:St) (H:Hp) (Q:VK),Inv X U Z H s->t Z H Q ->
  wpAny (model X.prog X.w) X.A (eval a X.env) (fun v s₁=>wpAny (model X.prog X.w) X.A (eval b X.env) (fun u s₂=>wpAny (model X.prog X.w) X.A (compareOp op v u) (EP X U Z Q) X.xe s₂) X.xe s₁) X.xe s
def tB(t:TE):TT:=fun Z H Q=>t Z H fun x H1=>∃ c,x=.bl c/\Q c H1
def jOl(h:PC X op a b t)(h1:behindInMarks op b=false):PE X (.Compare a [op] [b] pos) t:=fun U s Z H Q I hw=>wpAny_Compare1 (h _ s Z H Q I hw) h1
variable {tA tB':TT}{rest:List Expr}
def tAnd(t u:TT):TT:=fun Z H Q=>t Z H fun c H1=>if c=true then u Z H1 Q else Q false H1
def tOr(t u:TT):TT:=fun Z H Q=>t Z H fun c H1=>if c=true then Q true H1 else u Z H1 Q
def tNot(t:TT):TT:=fun Z H Q=>t Z H fun c H1=>Q (!c) H1
def jKj(ha:PT X a tA):PW X (.BoolOp .And [a] pos) tA:=by
 intro wh U s Z H Q I h;refine isTrue_and (thn (ha _ s Z H Q I h) fun c s1 e=>?_)
 grind [isTrue_and_nil]
def jGd(ha:PT X a tA):PW X (.BoolOp .Or [a] pos) tA:=by
 intro wh U s Z H Q I h;refine isTrue_or (thn (ha _ s Z H Q I h) fun c s1 e=>?_)
 grind [isTrue_or_nil]
def jO3(ha:PT X a tA)(hb:PW X (.BoolOp .And (b::rest) pos) tB'):PW X (.BoolOp .And (a::b::rest) pos) (tAnd tA tB'):=by
 intro wh U s Z H Q I h;refine isTrue_and (thn (ha _ s Z H _ I h) fun c s1 hzz=>?_);obtain⟨H1,I1,q1⟩:=hzz
 cases c with
 | true=>exact hb wh _ s1 Z H1 Q I1 q1
 | false=>exact⟨H1,I1,q1⟩
def jO4(ha:PT X a tA)(hb:PW X (.BoolOp .Or (b::rest) pos) tB'):PW X (.BoolOp .Or (a::b::rest) pos) (tOr tA tB'):=by
 intro wh U s Z H Q I h;refine isTrue_or (thn (ha _ s Z H _ I h) fun c s1 hzz=>?_);obtain⟨H1,I1,q1⟩:=hzz
 cases c with
 | true=>exact⟨H1,I1,q1⟩
 | false=>exact hb wh _ s1 Z H1 Q I1 q1
def jGc(ha:PT X a tA):PT X (.UnaryOp .Not a pos) (tNot tA):=fun U s Z H Q I h=>isTrue_not (ha _ s Z H _ I h)
def jSa(ta tb:TE):TE:=fun Z H Q=>ta Z H fun x H1=>∃ c,x=.bl c/\if c=true then tb Z H1 Q else Q (.bl false) H1
def tOrV(ta tb:TE):TE:=fun Z H Q=>ta Z H fun x H1=>∃ c,x=.bl c/\if c=true then Q (.bl true) H1 else tb Z H1 Q
def jSf(ta:TE):TE:=fun Z H Q=>ta Z H fun x H1=>∃ c,x=.bl c/\Q (.bl (!c)) H1
def jF9(h:PE X a t):PE X (.BoolOp op [a] pos) t:=fun U s Z H Q I hw=>BoolOp_one (h _ s Z H Q I hw)
def jF7(ha:PE X a ta)(hb:PE X (.BoolOp .And (b::rest) pos) tb):PE X (.BoolOp .And (a::b::rest) pos) (jSa ta tb):=by
 intro U s Z H Q I h;refine BoolOp_and (thn (ha _ s Z H _ I h) fun v s1 hzz=>?_);obtain⟨x,H1,I1,r1,q1⟩:=hzz;obtain⟨c,rfl,q1⟩:=q1;cases r1;refine wpAny_truthy_bool ?_
 cases c with
 | true=>exact hb _ s1 Z H1 Q I1 q1
 | false=>exact⟨.bl _,H1,I1,rfl,q1⟩
def jRw(ha:PE X a ta)(hb:PE X (.BoolOp .Or (b::rest) pos) tb):PE X (.BoolOp .Or (a::b::rest) pos) (tOrV ta tb):=by
 intro U s Z H Q I h;refine BoolOp_or (thn (ha _ s Z H _ I h) fun v s1 hzz=>?_);obtain⟨x,H1,I1,r1,q1⟩:=hzz;obtain⟨c,rfl,q1⟩:=q1;cases r1;refine wpAny_truthy_bool ?_
 cases c with
 | false=>exact hb _ s1 Z H1 Q I1 q1
 | true=>exact⟨.bl _,H1,I1,rfl,q1⟩
def jOp(ha:PE X a ta):PE X (.UnaryOp .Not a pos) (jSf ta):=by
 intro U s Z H Q I h;refine UnaryOp_ (thn (ha _ s Z H _ I h) fun v s1 hzz=>?_);obtain⟨x,H1,I1,r1,q1⟩:=hzz;obtain⟨c,rfl,q1⟩:=q1;cases r1;exact not_of (wpAny_truthy_bool ⟨.bl _,H1,I1,rfl,q1⟩)
def tIf(t:TT)(ta tb:TE):TE:=fun Z H Q=>t Z H fun c H1=>if c=true then ta Z H1 Q else tb Z H1 Q
def jDk(hc:PT X c tA)(ha:PE X a ta)(hb:PE X b tb):PE X (.IfExp c a b pos) (tIf tA ta tb):=by
 intro U s Z H Q I h;refine wpAny_IfExp (thn (hc _ s Z H _ I h) fun d s1 hzz=>?_);obtain⟨H1,I1,q1⟩:=hzz
 cases d with
 | true=>exact ha _ s1 Z H1 Q I1 q1
 | false=>exact hb _ s1 Z H1 Q I1 q1
end
def SqL(K:W.Frag)(H:Hp)(a:Addr)(xs:List V):Prop :=
 Rd H a (.lst xs) \/
  ∃ (o:Obj) (its:Array Value) (n:Nat),K.lookup a=some o/\o.cls=.type "list"/\o.dict=none/\o.data=.seq its n/\its.size<=sizeLine/\Vals xs its.toList
def SqT(K:W.Frag)(H:Hp)(a:Addr)(xs:List V):Prop :=
 Rd H a (.tup xs) \/
  ∃ (o:Obj) (its:Array Value) (n:Nat),K.lookup a=some o/\o.cls=.type "tuple"/\o.data=.seq its n/\its.size<=sizeLine/\Vals xs its.toList
noncomputable def absV:Value->Option V
 | .none=>some .non
 | .bool b=>some (.bl b)
 | .int i _=>some (.int i)
 | .str x _=>some (.str x)
 | .bytes b _=>some (.byt b)
 | .float b _=>some (.flt b)
 | .ref a=>some (.ref a)
 | .type n=>some (.ty n)
 | _=>none
def RelV.abs(r:RelV x u):absV u=some x:=by
 cases x with
 | non=>cases r;rfl
 | bl _=>cases r;rfl
 | int _=>obtain⟨t,rfl⟩:=r;rfl
 | str _=>obtain⟨t,rfl⟩:=r;rfl
 | byt _=>obtain⟨t,rfl⟩:=r;rfl
 | flt _=>obtain⟨t,rfl⟩:=r;rfl
 | ref _=>cases r;rfl
 | ty _=>cases r;rfl
def RelV.inj(r:RelV x u)(q:RelV y u):x=y:=zby (r.abs.symm.trans q.abs)
theorem Vals.inj:∀ {xs ys:List V} {us:List Value},Vals xs us->Vals ys us->xs=ys
 | _,_,_,.nil,.nil=>rfl
 | _,_,_,.cons r t,.cons r' t'=>by rw[r.inj r',Vals.inj t t']
section
variable {X:Cx}{U:qb}{Z:St}{H:Hp}{s:Shared}{a:Addr}{xs ys:List V}
def SqL.of{K:W.Frag}(h:H a=some (.lst xs)):SqL K H a xs:=.inl (.inl h)
def SqT.of{K:W.Frag}(h:H a=some (.tup xs)):SqT K H a xs:=.inl (.inl h)
def Inv.list(I:Inv X U Z H s)(h:SqL X.K H a xs):∃ its:List Value,Vals xs its/\PlainL s.heap a its.toArray/\xs.length<=sizeLine:=by
 rcases h with h|⟨o,its,n,hk,hc,hd,hs,hz,r⟩
 .obtain⟨z,its,n,r,e⟩:=h.ok I.hok;exact⟨its,r,⟨_,n,e,rfl,rfl,rfl⟩,z⟩
 .refine⟨_,r,⟨o,n,I.kIn a o hk,hc,hd,by omega⟩,?_⟩;have e:=r.length
  grind
def Inv.tuple(I:Inv X U Z H s)(h:SqT X.K H a xs):∃ its:List Value,Vals xs its/\IsTup s.heap a its.toArray/\xs.length<=sizeLine:=by
 rcases h with h|⟨o,its,n,hk,hc,hs,hz,r⟩
 .obtain⟨z,its,r,p⟩:=h.ok I.hok
  grind
 .refine⟨_,r,⟨o,I.kIn a o hk,hc,n,by omega⟩,?_⟩;have e:=r.length
  grind
def Inv.list_inj(I:Inv X U Z H s)(h:SqL X.K H a xs)(h':SqL X.K H a ys):xs=ys:=by
 obtain⟨its,r,⟨o,n,e,_,_,d⟩,_⟩:=I.list h;obtain⟨its',r',⟨o',n',e',_,_,d'⟩,_⟩:=I.list h';rw[e] at e';cases e'
 rw[d] at d';injection d' with d1 _
 have:=by simpa using congrArg Array.toList d1
 subst this;exact r.inj r'
def Inv.tuple_inj(I:Inv X U Z H s)(h:SqT X.K H a xs)(h':SqT X.K H a ys):xs=ys:=by
 obtain⟨its,r,⟨o,e,_,n,d⟩,_⟩:=I.tuple h;obtain⟨its',r',⟨o',e',_,n',d'⟩,_⟩:=I.tuple h';rw[e] at e';cases e'
 rw[d] at d';injection d' with d1 _
 have:=by simpa using congrArg Array.toList d1
 subst this;exact r.inj r'
end
abbrev Cx.wish(X:Cx)(E:qc):Cx:={ X with xe:=E }
abbrev Cx.nox(X:Cx):Cx:=X.wish fun _ _=>False
def Cx.Ok.wish{X:Cx}(ok:X.Ok)(E:qc):(X.wish E).Ok :=
 ⟨ok.mod,ok.kind,ok.glob,ok.blt,ok.above,ok.inj,ok.has,ok.cab,ok.hd,ok.frames,ok.stk,ok.exf,ok.bs,ok.bsz,ok.noex,ok.exfs,ok.funs,ok.frf⟩
def Cx.Ok.unwish{X:Cx}(ok:(X.wish E).Ok):X.Ok :=
 ⟨ok.mod,ok.kind,ok.glob,ok.blt,ok.above,ok.inj,ok.has,ok.cab,ok.hd,ok.frames,ok.stk,ok.exf,ok.bs,ok.bsz,ok.noex,ok.exfs,ok.funs,ok.frf⟩
section
variable {X:Cx}{U:qb}{Z:St}{H:Hp}{s:Shared}{E:qc}
def Inv.wish(I:Inv X U Z H s)(E:qc):Inv (X.wish E) U Z H s:=⟨I.ok.wish E,I.os,I.bare,I.base,I.loc,I.cell,I.free,I.freeC,I.pin,I.hok,I.len⟩
def Inv.unwish(I:Inv (X.wish E) U Z H s):Inv X U Z H s:=⟨I.ok.unwish,I.os,I.bare,I.base,I.loc,I.cell,I.free,I.freeC,I.pin,I.hok,I.len⟩
theorem SP.unwish(h:SP (X.wish E) U D f s'):SP X U D f s':=by
 cases f with
 | next=>obtain⟨Z',H',I,q⟩:=h;exact⟨Z',H',I.unwish,q⟩
 | brk=>obtain⟨Z',H',I,q⟩:=h;exact⟨Z',H',I.unwish,q⟩
 | cont=>obtain⟨Z',H',I,q⟩:=h;exact⟨Z',H',I.unwish,q⟩
 | ret u=>obtain⟨v,Z',H',I,r,q⟩:=h;exact⟨v,Z',H',I.unwish,r,q⟩
def PSs.nox{st:List Stmt}(h:PSs X.nox st t):PSs X st t:=fun U s Z H D I hw =>
 wpAny_mono (h _ s Z H D (I.wish _) hw) (fun _ _ q=>q.unwish) fun _ _ z=>False.elim z
end
section
variable {X:Cx}{st:Stmt}{rest:List Stmt}{t u:TS}{e:Expr}{te:TE}{pos:Pos}
def jSe:TS:=fun D Z H=>D.nx Z H
def tSeq(t u:TS):TS:=fun D Z H=>t { D with nx:=u D } Z H
def jzv:PSs X [] jSe:=fun _ _ Z H _ I h=>wpAny_execs_nil ⟨Z,H,I,h⟩
def jug(h1:PS X st t)(h2:PSs X rest u):PSs X (st::rest) (tSeq t u):=by
 intro U s Z H D I h;refine wpAny_execs_cons (thn (h1 _ s Z H _ I h) fun f s1 q=>?_)
 cases f with
 | next =>
  obtain⟨Z',H',I',q⟩:=q;exact h2 _ s1 Z' H' D I' q
 | ret v=>exact q
 | brk=>exact q
 | cont=>exact q
def jzw(h1:PS X st t):PSs X [st] t:=by
 intro U s Z H D I h;refine wpAny_execs_cons (thn (h1 _ s Z H D I h) fun f s1 q=>?_)
 grind [wpAny_execs_nil,ret]
def Inv.quiet(I:Inv X U Z H s):interactive X.env=false:=by simp[interactive,I.ok.kind]
def jSc(te:TE):TS:=fun D Z H=>te Z H fun _ H1=>D.nx Z H1
def jl2(he:PE X e te)(hs:swapsWith e none pos.line X.env=pure false):PS X (.Expr e pos) (jSc te):=fun U s Z H D I h=>wpAny_Expr_any (thn (he _ s Z H _ I h) fun v s1 ⟨x,H1,I1,r1,q1⟩=>⟨Z,H1,I1,q1⟩) I.quiet hs
def tRet(te:TE):TS:=fun D Z H=>te Z H D.rt
def jGb(he:PE X e te):PS X (.Return (some e) pos) (tRet te):=fun U s Z H D I h=>wpAny_Return_some (thn (he _ s Z H _ I h) fun v s1 ⟨x,H1,I1,r1,q1⟩=>⟨x,Z,H1,I1,r1,q1⟩)
def tIfS(c:TT)(t u:TS):TS:=fun D Z H=>c Z H fun b H1=>if b=true then t D Z H1 else u D Z H1
def jO0(hc:PT X c tc)(ha:PSs X a t)(hb:PSs X b u):PS X (.If c a b pos) (tIfS tc t u):=by
 intro U s Z H D I h;refine wpAny_If (thn (hc _ s Z H _ I h) fun d s1 hzz=>?_);obtain⟨H1,I1,q1⟩:=hzz
 cases d with
 | true=>exact ha _ s1 Z H1 D I1 q1
 | false=>exact hb _ s1 Z H1 D I1 q1
end
abbrev TG:=V->St->Hp->(St->Hp->Prop)->Prop
abbrev TGs:=List V->St->Hp->(St->Hp->Prop)->Prop
def PG(X:Cx)(target:Expr)(t:TG):Prop :=
 ∀ (U:qb) (s:Shared) (Z:St) (H:Hp) (v:V) (u:Value) (Q:St->Hp->Prop),Inv X U Z H s->RelV v u->t v Z H Q ->
  wpAny (model X.prog X.w) X.A (assign target X.env u) (fun _ s'=>SN X U Q s') X.xe s
def PGs(X:Cx)(ts:List Expr)(t:TGs):Prop :=
 ∀ (U:qb) (s:Shared) (Z:St) (H:Hp) (vs:List V) (us:List Value) (Q:St->Hp->Prop),Inv X U Z H s->Vals vs us->t vs Z H Q ->
  wpAny (model X.prog X.w) X.A (assignInOrder ((assignEach ts X.env).map (·.2)) us) (fun _ s'=>SN X U Q s') X.xe s
abbrev TSet:=V->V->V->Hp->(Hp->Prop)->Prop
def PSet(X:Cx)(t:TSet):Prop :=
 ∀ (U:qb) (s:Shared) (Z:St) (H:Hp) (o i v:V) (ov iv u:Value) (Q:Hp->Prop),Inv X U Z H s->RelV o ov->RelV i iv->RelV v u->t o i v H Q ->
  wpAny (model X.prog X.w) X.A (setItem ov iv u) (fun _ s'=>∃ H',Inv X U Z H' s'/\Q H') X.xe s
abbrev TIp:=V->V->Hp->VK->Prop
def PIp(X:Cx)(op:Operator)(t:TIp):Prop :=
 ∀ (U:qb) (s:Shared) (Z:St) (H:Hp) (x y:V) (v u:Value) (Q:VK),Inv X U Z H s->RelV x v->RelV y u->t x y H Q ->
  wpAny (model X.prog X.w) X.A (inplaceOp op v u) (EP X U Z Q) X.xe s
section
variable {X:Cx}{pos:Pos}
def gName(i:Nat):TG:=fun v Z H Q=>Q (Z.set i (some v)) H
def jzi(hN:X.N.Nodup)(hi:X.N[i]? = some x)(hx:Loc X.env.scope x)(hf:X.fn x=true\/X.env.scope.names.lookup x=some .local):PG X (.Name x pos) (gName i):=fun U s Z H v u Q I r h=>wpAny_assign_Name (jol I hN hi hx r (fun s' I'=>⟨_,H,I',h⟩) hf)
def gNil:TGs:=fun vs Z H Q=>vs=[]/\Q Z H
def jM7(t:TG)(u:TGs):TGs:=fun vs Z H Q=>∃ v r,vs=v::r/\t v Z H fun Z' H'=>u r Z' H' Q
def jKb:PGs X [] gNil:=by
 intro U s Z H vs us Q I r h;obtain⟨e,h⟩:=h;exact assignInOrder_nil ⟨Z,H,I,h⟩
def jDo(h1:PG X e t)(h2:PGs X es u)
  (hs:(assignEach (e::es) X.env).map (·.2)=assign e X.env::(assignEach es X.env).map (·.2)):PGs X (e::es) (jM7 t u):=by
 intro U s Z H vs us Q I r h;obtain⟨v,vr,e1,h⟩:=h;subst e1
 cases r with
 | cons r rr =>
  rw[hs];exact assignInOrder_cons (thn (h1 _ s Z H _ _ _ I r h) fun _ s1 ⟨Z1,H1,I1,q1⟩=>(h2 _ s1 Z1 H1 _ _ Q I1 rr q1))
def gTup(K:W.Frag)(n:Nat)(t:TGs):TG:=fun v Z H Q=>∃ a xs,v=.ref a/\SqT K H a xs/\xs.length=n/\t xs Z H Q
def jOt(hc:X.calm=true)(h:PGs X es t)
  (hn:(assignEach es X.env).length=n) (hst:(assignEach es X.env).findIdx? (·.1)=none):PG X (.Tuple es k pos) (gTup X.K n t):=by
 intro U s Z H v u Q I r hw;obtain⟨a,xs,e1,hq,hl,hw⟩:=hw;subst e1;cases r;obtain⟨its,rv,ht,hz⟩:=I.tuple hq;exact assign_Tuple_tuple (I.ok.hd hc) ht (by simp[hn,<- hl,rv.length]) hst fun h' hx=>h _ _ Z H xs _ Q (I.kept fun b o e=>hx b o (zcw (zbv e)) e) (by lia) hw
def gSub(to ti:TE)(t:TSet):TG:=fun v Z H Q=>to Z H fun o H1=>ti Z H1 fun i H2=>t o i v H2 fun H3=>Q Z H3
def jOs(ho:PE X o to)(hi:PE X i ti)(hs:PSet X t)
  (ha:∀ v,assign (.Subscript o i pos) X.env v=(do
   let ov <- holding [v] (eval o X.env)
   let iv <- holding [v,ov] (eval i X.env)
   standAt pos
   holding [v,ov,iv] (setItem ov iv v)
   release [v,ov,iv] [])):PG X (.Subscript o i pos) (gSub to ti t):=fun U s Z H v u Q I r h=>zay (wpAny_holding (thn (ho _ s Z H _ I h) fun ov s1 ⟨x,H1,I1,r1,q1⟩=>(zay (wpAny_holding (thn (hi _ s1 Z H1 _ I1 q1) fun iv s2 ⟨y,H2,I2,r2,q2⟩=>(zay (wpAny_standAt (zay (wpAny_holding (thn (hs _ s2 Z H2 x y v ov iv u _ I2 r1 r2 r q2) fun _ s3 ⟨H3,I3,q3⟩=>(wpAny_release ⟨Z,H3,I3,q3⟩)))))))))))
def tAsg(te:TE)(g:TG):TS:=fun D Z H=>te Z H fun x H1=>g x Z H1 D.nx
def jOx(he:PE X e te)(hg:PG X tg g)(hs:swapsWithSole [tg] e pos.line X.env=pure false)(hw:swappedStores [tg] e X.env=pure none)
  (h1:(assignEach [tg] X.env).map (·.2)=[assign tg X.env]):PS X (.Assign [tg] e pos) (tAsg te g):=by
 intro U s Z H D I h;refine wpAny_Assign_stores (thn (he _ s Z H _ I h) fun v s1 hzz=>?_) hs hw;obtain⟨x,H1,I1,r1,q1⟩:=hzz;rw[h1];exact thn (hg _ s1 Z H1 x v _ I1 r1 q1) fun _ s2 q=>q
def jqb(hN:X.N.Nodup)(hi:X.N[i]? = some x)(hx:Loc X.env.scope x)(he:PE X e te)(hs:swapsWith e (some (.Name x pos')) pos.line X.env=pure false)(hf:X.fn x=true\/X.env.scope.names.lookup x=some .local) :
  PS X (.Assign [.Name x pos'] e pos) (tAsg te (gName i)):=fun U s Z H D I h=>wpAny_Assign_Name (thn (he _ s Z H _ I h) fun v s1 ⟨y,H1,I1,r1,q1⟩=>(jol I1 hN hi hx r1 (fun s2 I2=>⟨_,H1,I2,q1⟩) hf)) hs
def tAug(i:Nat)(te:TE)(ti:TIp):TS:=fun D Z H=>∃ x,Z[i]? = some (some x)/\te Z H fun y H1=>ti x y H1 fun z H2=>D.nx (Z.set i (some z)) H2
def jOy(hN:X.N.Nodup)(hi:X.N[i]? = some x)(hx:Loc X.env.scope x)(he:PE X e te)(ho:PIp X op ti)(hf:X.fn x=true\/X.env.scope.names.lookup x=some .local) :
  PS X (.AugAssign (.Name x pos') op e pos) (tAug i te ti):=by
 intro U s Z H D I h;obtain⟨v,e1,h⟩:=h;obtain⟨m,hn,hl⟩:=I.loc;obtain⟨u,r,l⟩:=hl i x v hi e1 (by rcases hx with k|k;exact .inl k;exact .inr (.inl k));refine wpAny_AugAssign_Name ?_;have go:wpAny _ X.A _ (fun w s₂=>wpAny _ X.A _ (fun r s₃=>wpAny (model X.prog X.w) X.A _ (fun _=>SP X _ D .next) X.xe _) _ _) _ s:=thn (he _ s Z H _ I h) fun w s1 ⟨y,H1,I1,r1,q1⟩=>thn (ho _ s1 Z H1 v y u w _ I1 r r1 q1) fun z s2 ⟨zv,H2,I2,r2,q2⟩=>jol I2 hN hi hx r2 (fun s3 I3=>⟨_,H2,I3,q2⟩) hf
 rcases l with ⟨hk,hm⟩|⟨hk,c,hc,hcell⟩
 .exact wpAny_loadName_local I.ok.kind hk hn hm go
 .rcases hk with hk|hk
  .exact wpAny_loadName_cell I.ok.kind hk hc hcell go
  .rcases hx with k|k
   .have:X.env.scope.names.lookup x=some _:=hk;rw[k] at this;cases this
   .have:X.env.scope.names.lookup x=some _:=hk;rw[k] at this;cases this
end
section
variable {X:Cx}{pos:Pos}
def jPy(c:TT)(tb:TS):TS:=fun D Z H=>∃ W:Nat->St->Hp->Prop,(∃ m,W m Z H)/\∀ m Z H,W m Z H ->
 c Z H fun b H1=>if b=true then ∃ N:St->Hp->Prop,(∀ Z' H',N Z' H'->∃ m',m'<m/\W m' Z' H')/\tb { D with nx:=N,ct:=N,bk:=D.nx } Z H1 else D.nx Z H1
def jDt(hp:PassesOwn (model X.prog X.w) X.A X.env X.xe)(hc:PT X c tc)(hb:PSs X body tb):PS X (.While c body [] pos) (jPy tc tb):=by
 intro U s Z H D I h;obtain⟨W,⟨m0,w0⟩,turn⟩:=h;refine wpAny_While (codeAny_whileLoop (fun n s'=>∃ Z' H',Inv X _ Z' H' s'/\W n Z' H') ?_ m0 ⟨Z,H,I,w0⟩);rintro n s1 ⟨Z1,H1,I1,w1⟩;refine wpAny_passesOwn hp (thn (hc _ s1 Z1 H1 _ I1 (turn n Z1 H1 w1)) fun b s2 hzz=>?_);obtain⟨H2,I2,q2⟩:=hzz
 cases b with
 | true =>
  obtain⟨N,hN,q2⟩:=q2;refine wpAny_passesOwn hp (thn (hb _ s2 Z1 H2 _ I2 q2) fun f s3 q3=>?_)
  cases f with
  | next =>
   obtain⟨Z3,H3,I3,n3⟩:=q3;obtain⟨m',hm,w3⟩:=hN Z3 H3 n3;exact⟨m',hm,Z3,H3,I3,w3⟩
  | cont =>
   obtain⟨Z3,H3,I3,n3⟩:=q3;obtain⟨m',hm,w3⟩:=hN Z3 H3 n3;exact⟨m',hm,Z3,H3,I3,w3⟩
  | brk=>exact q3
  | ret v=>exact q3
 | false =>
  exact wpAny_execs_nil ⟨Z1,H2,I2,q2⟩
end
structure It where
 go:Nat->Hp->Prop
 yld:Nat->Hp->V->Hp->Prop
 stop:Nat->Hp->Prop
def FpOk(X:Cx)(U:qb)(H:Hp)(b:Addr):Prop :=
 H b=none/\b≠X.env.locals/\b∉X.fs/\(b∈X.ex\/X.s₀.heap.objs.size<=b)/\(∀ x c,X.env.cells.lookup x=some c->c≠b)/\∀ p∈X.pn++U,p.1≠b
def Inv.fpOk{X:Cx}{U:qb}{Z:St}{H H':Hp}{s:Shared}{b:Addr}(I:Inv X U Z H s)(hb:s.heap.objs.size<=b)(hn:H' b=none):FpOk X U H' b:=by
 refine⟨hn,Nat.ne_of_gt (zcx I.lt hb),I.nofs hb,.inr (zdz I.sz hb),fun x c e z=>?_,fun p hp z=>(absurd (zcx (zbv (I.pin p hp).1) (by rw[z];exact hb)) (Nat.lt_irrefl _))⟩
 .obtain⟨v,q⟩:=I.cell x c e;exact absurd (zcx q.lt (by rw[z];exact hb)) (Nat.lt_irrefl _)
inductive TIt(X:Cx)(U:qb)(Z:St)(Jq:It)(fp:List Addr)(tn:Nat->Heap->Prop)(i:Nat)(H:Hp)(u:Value)(s2:Shared):Prop
 | mk (x:V) (H':Hp) (h1:Inv X U Z H' s2) (h2:RelV x u) (h3:Jq.yld i H x H') (h4:tn (i+1) s2.heap) (h5:∀ b∈fp,H' b=none)
structure Turn(P:Program)(w:World)(K:W.Frag)(tg:Expr)(Jq:It)(fp:List Addr)(it:Addr)(tn:Nat->Heap->Prop):Prop where
 mem:it∈fp
 obj:∀ i h,tn i h->∀ b∈fp,∃ o,h.get? b=some o/\∀ v,o.data≠.cell v
 keep:∀ i h h',tn i h->(∀ b∈fp,∀ o,h.get? b=some o->h'.get? b=some o)->tn i h'
 item:∀ (X:Cx),X.prog=P->X.w=w->X.K=K->X.calm=true->∀ (i:Nat) (U:qb) (s:Shared) (Z:St) (H:Hp) (E:qc),Inv X U Z H s->(∀ b∈fp,FpOk X U H b)->tn i s.heap->Jq.go i H ->
  wpAny (model P w) X.A (pyNext (.ref it)) (fun r s1=>∃ u,r=some u /\
   wpAny (model P w) X.A (letOwnedTupleGo tg (.ref it) u) (fun _ s2=>TIt X U Z Jq fp tn i H u s2) E s1) E s
 done:∀ (X:Cx),X.prog=P->X.w=w->X.K=K->X.calm=true->∀ (i:Nat) (U:qb) (s:Shared) (Z:St) (H:Hp) (E:qc),Inv X U Z H s->(∀ b∈fp,FpOk X U H b)->tn i s.heap->Jq.stop i H ->
  wpAny (model P w) X.A (pyNext (.ref it)) (fun r s1=>r=none/\Inv X U Z H s1) E s
 self:∀ (A:Around) (i:Nat) (s:Shared) (Q:qc) (E:qc),tn i s.heap->Q (.ref it) s->wpAny (model P w) A (pyIter (.ref it)) Q E s
abbrev TI:=St->Hp->(It->Hp->Prop)->Prop
inductive PIE(X:Cx)(U:qb)(Z:St)(tg:Expr)(R:It->Hp->Prop)(itv:Value)(s2:Shared):Prop
 | mk (it:Addr) (fp:List Addr) (tn:Nat->Heap->Prop) (Jq:It) (H':Hp) (h1:itv=.ref it) (h2:Inv X U Z H' s2) (h3:Turn X.prog X.w X.K tg Jq fp it tn) (h4:tn 0 s2.heap) (h5:∀ b∈fp,FpOk X U H' b) (h6:R Jq H')
def PI(X:Cx)(tg iter:Expr)(wi:TI):Prop :=
 ∀ (U:qb) (s:Shared) (Z:St) (H:Hp) (R:It->Hp->Prop),Inv X U Z H s->wi Z H R ->
  wpAny (model X.prog X.w) X.A (eval iter X.env) (fun v s1=>wpAny (model X.prog X.w) X.A (pyIter v) (PIE X U Z tg R) X.xe s1) X.xe s
def jIl{M:Model}{A:Around}{E:qc}{s:Shared}{tg:Expr}{it:Addr}{u:Value}{o:Obj}{n:String}{vs:Array Value}{Q:Unit->Shared->Prop}(ho:s.heap.get? it=some o)(hc:o.cls=.type n)(hd:o.data=.fields vs)
    (hn:["enumerate","zip","dict_itemiterator","dict_reverseitemiterator","odict_iterator","itertools.zip_longest","itertools.pairwise"].contains n=false) (hQ:Q () s):wpAny M A (letOwnedTupleGo tg (.ref it) u) Q E s:=by
  cases tg<;>first
    | exact zab hQ
    | (cases u<;>first
        | exact zab hQ
        | (refine zay (wpAny_load ho ?_)
           rw[hc,hd];show wpAny M A (if (["enumerate","zip","dict_itemiterator","dict_reverseitemiterator","odict_iterator","itertools.zip_longest","itertools.pairwise"].contains n&&vs[0]? == some _)=true then _ else _) Q E s;rw[if_neg (by grind)];exact zab hQ))
def Itl(K:W.Frag)(a:Addr):It :=
 ⟨fun i H=>∃ xs x,SqL K H a xs/\xs[i]? = some x,fun i H x H'=>H'=H/\∀ xs,SqL K H a xs->xs[i]? = some x,fun i H=>∃ xs,SqL K H a xs/\xs.length<=i⟩
def Itt(K:W.Frag)(a:Addr):It :=
 ⟨fun i H=>∃ xs x,SqT K H a xs/\xs[i]? = some x,fun i H x H'=>H'=H/\∀ xs,SqT K H a xs->xs[i]? = some x,fun i H=>∃ xs,SqT K H a xs/\xs.length<=i⟩
def jqt{K:W.Frag}(a it:Addr):Turn P w K tg (Itl K a) [it] it (fun i h=>h.IsListIter it a i) where
 mem:=by simp
 obj:=fun i h st b hb=>by
  have e:=by simpa using hb
  subst e;obtain⟨o,e,c,d⟩:=st;exact⟨o,e,fun v z=>by rw[d] at z;cases z⟩
 keep:=fun i h h' st k=>st.at fun o e=>k it (by simp) o e
 item:=by
  intro X hP hw hK hc i U s Z H E I hf st hg;subst hP hw hK;obtain⟨xs,x,hq,hx⟩:=hg;obtain⟨its,rv,p,hz⟩:=I.list hq;obtain⟨u,hu,ru⟩:=rv.get hx;obtain⟨f0,f1,f2,f3,f4,f5⟩:=hf it (by simp);refine wpAny_pyNext_list_item st p.isList (by simpa using hu) fun h' st' sb=>?_
  obtain⟨o,e,c,d⟩:=id st';exact⟨u,rfl,jIl e c d rfl ⟨x,H,(I.turned (fun b o hb e=>(sb.2 b hb).trans e) f0 f1 f3 f4 f5),ru,⟨rfl,fun ys hy=>by rw[I.list_inj hy hq];exact hx⟩,st',fun b hb=>(hf b hb).1⟩⟩
 done:=by
  intro X hP hw hK hc i U s Z H E I hf st hg;subst hP hw hK;obtain⟨xs,hq,hx⟩:=hg;obtain⟨its,rv,p,hz⟩:=I.list hq;obtain⟨f0,f1,f2,f3,f4,f5⟩:=hf it (by simp);have hl:=rv.length;exact wpAny_pyNext_list_end (I.ok.hd hc) st p.isList (by simp;lia) fun h' eb=>⟨rfl,I.turned (fun b o hb e=>eb b o hb e) f0 f1 f3 f4 f5⟩
 self:=fun _ _ _ _ _ st h=>wpAny_pyIter_listiter st h
def jv7{K:W.Frag}(a it:Addr):Turn P w K tg (Itt K a) [it] it (fun i h=>h.IsTupleIter it a i) where
 mem:=by simp
 obj:=fun i h st b hb=>by
  have e:=by simpa using hb
  subst e;obtain⟨o,e,c,d⟩:=st;exact⟨o,e,fun v z=>by rw[d] at z;cases z⟩
 keep:=fun i h h' st k=>st.at fun o e=>k it (by simp) o e
 item:=by
  intro X hP hw hK hc i U s Z H E I hf st hg;subst hP hw hK;obtain⟨xs,x,hq,hx⟩:=hg;obtain⟨its,rv,p,hz⟩:=I.tuple hq;obtain⟨u,hu,ru⟩:=rv.get hx;obtain⟨f0,f1,f2,f3,f4,f5⟩:=hf it (by simp);refine wpAny_pyNext_tuple_item st (p) (by simpa using hu) fun h' st' sb=>?_
  obtain⟨o,e,c,d⟩:=id st';exact⟨u,rfl,jIl e c d rfl ⟨x,H,(I.turned (fun b o hb e=>(sb.2 b hb).trans e) f0 f1 f3 f4 f5),ru,⟨rfl,fun ys hy=>by rw[I.tuple_inj hy hq];exact hx⟩,st',fun b hb=>(hf b hb).1⟩⟩
 done:=by
  intro X hP hw hK hc i U s Z H E I hf st hg;subst hP hw hK;obtain⟨xs,hq,hx⟩:=hg;obtain⟨its,rv,p,hz⟩:=I.tuple hq;obtain⟨f0,f1,f2,f3,f4,f5⟩:=hf it (by simp);have hl:=rv.length;exact wpAny_pyNext_tuple_end (I.ok.hd hc) st (p) (by simp;lia) fun h' eb=>⟨rfl,I.turned (fun b o hb e=>eb b o hb e) f0 f1 f3 f4 f5⟩
 self:=fun _ _ _ _ _ st h=>wpAny_pyIter_tupleiter st h
section
variable {X:Cx}{tg:Expr}
def jQ9(K:W.Frag)(tl:TE):TI:=fun Z H R=>tl Z H fun x H1=>∃ a,x=.ref a/\(∃ xs,SqL K H1 a xs)/\R (Itl K a) H1
def jKc(hl:PE X l tl):PI X tg l (jQ9 X.K tl):=by
 intro U s Z H R I h;refine thn (hl _ s Z H _ I h) fun v s1 hzz=>?_
 obtain⟨x,H1,I1,r1,q1⟩:=hzz;obtain⟨a,e,⟨xs,hq⟩,q⟩:=q1;subst e;cases r1;obtain⟨its,rv,p,hz⟩:=I1.list hq;refine wpAny_pyIter_list p.isList ?_;refine⟨_,_,_,_,H1,rfl,I1.kept fun b o e=>zaz _ e,jqt a _,⟨_,zbz _ rfl,rfl,rfl⟩,fun b hb=>?_,q⟩;have e:=by simpa using hb
 subst e;exact I1.fpOk (zac _) (I1.hok.fresh (zac _))
def tFor(wi:TI)(g:TG)(tb:TS):TS:=fun D Z H=>wi Z H fun Jq H1=>∃ W:Nat->Nat->St->Hp->Prop,(∃ m,W 0 m Z H1)/\∀ i m Z H,W i m Z H ->
 (Jq.stop i H/\D.nx Z H)\/(Jq.go i H/\∃ N:St->Hp->Prop,(∀ Z' H',N Z' H'->∃ m',m'<m/\W (i+1) m' Z' H')/\∀ x H',Jq.yld i H x H'->g x Z H' fun Z2 H2=>tb { D with nx:=N,ct:=N,bk:=D.nx } Z2 H2)
def jzn(fp:List Addr)(h:Heap):qb:=fp.filterMap fun b=>(h.get? b).map fun o=>(b,o)
def jhf(hb:b∈fp)(e:h.get? b=some o):(b,o)∈jzn fp h:=List.mem_filterMap.mpr ⟨b,hb,by rw[e];rfl⟩
def jy0(hp:p∈jzn fp h):p.1∈fp/\h.get? p.1=some p.2:=by
 obtain⟨b,hb,e⟩:=List.mem_filterMap.mp hp
 cases q:h.get? b with
 | none=>rw[q] at e;cases e
 | some o =>
  rw[q] at e;have e':=zby e;subst e';exact⟨hb,q⟩
def Inv.pinned(I:Inv X U Z H s)(hf:∀ b∈fp,FpOk X U H b)(ho:∀ b∈fp,∃ o,s.heap.get? b=some o/\∀ v,o.data≠.cell v):Inv X (U++jzn fp s.heap) Z H s :=
 I.pins_of fun p hp=>(zdy.mp hp).elim (fun z=>I.pin p (zcy _ z)) fun z=>by
  obtain⟨hb,e⟩:=jy0 z;obtain⟨f0,f1,f2,_⟩:=hf p.1 hb
  grind
def Inv.unpinned(I:Inv X (U++pl) Z H s):Inv X U Z H s:=I.pins_of fun p hp=>I.pin p (zcy _ (List.mem_append_left _ hp))
def jzs(hp:PassesOwn (model X.prog X.w) X.A X.env X.xe)(hc:X.calm=true)(hi:PI X tg iter wi)(hg:PG X tg g)(hb:PSs X body tb)
  (hs:∀ x,foldedSetIterable iter X.env x=pure x):PS X (.For tg iter body [] pos) (tFor wi g tb):=by
 intro U s Z H D I h;refine wpAny_For (thn (hi _ s Z H _ I h) fun v s1 h1=>thn h1 fun itv s2 h2=>?_) hs;obtain⟨it,fp,tn,Jq,H2,e,I2,T,st2,f2,W,⟨m0,w0⟩,turn⟩:=h2;subst e;have stat:∀ {H':Hp},(∀ b∈fp,H' b=none)->∀ b∈fp,FpOk X _ H' b:=fun hn b hb=>⟨hn b hb,(f2 b hb).2⟩
 refine codeAny_forLoop_any (fun n s'=>∃ i Z' H',Inv X _ Z' H' s'/\tn i s'.heap/\(∀ b∈fp,H' b=none)/\W i n Z' H') ?_ m0 ⟨0,Z,H2,I2,st2,fun b hb=>(f2 b hb).1,w0⟩;rintro n s3 ⟨i,Z3,H3,I3,st3,fr3,w3⟩;rcases turn i n Z3 H3 w3 with ⟨stop,qn⟩|⟨go,N,hN,step⟩
 .refine wpAny_passesOwn hp (thn (T.done X rfl rfl rfl hc i _ s3 Z3 H3 _ I3 (stat fr3) st3 stop) fun r s4 hzz=>?_);obtain⟨hr,I4⟩:=hzz;subst hr;exact wpAny_execs_nil ⟨Z3,H3,I4,qn⟩
 .refine wpAny_passesOwn hp (thn (T.item X rfl rfl rfl hc i _ s3 Z3 H3 _ I3 (stat fr3) st3 go) fun r s4 hzz=>?_);obtain⟨u,hr,h4⟩:=hzz;subst hr;refine wpAny_passesOwn hp (thn h4 fun _ s5 hzz=>?_);obtain⟨x,H5,I5,r5,y5,st5,fr5⟩:=hzz;refine wpAny_passesOwn hp (thn (hg _ s5 Z3 H5 x u _ (I5.pinned (stat fr5) (T.obj _ _ st5)) r5 (step x H5 y5)) fun _ s6 hzz=>?_);obtain⟨Z6,H6,I6,q6⟩:=hzz;refine wpAny_passesOwn hp (thn (hb _ s6 Z6 H6 _ I6 q6) fun f s7 q7=>?_);have again:∀ {Z7:St} {H7:Hp},Inv X _ Z7 H7 s7->N Z7 H7->∃ m,m<n/\∃ i Z' H',Inv X U Z' H' s7/\tn i _/\(∀ b∈fp,H' b=none)/\W i m Z' H':=fun {Z7 H7} I7 n7=>by
   obtain⟨m',hm,w7⟩:=hN Z7 H7 n7;refine⟨m',hm,_,Z7,H7,I7.unpinned,T.keep _ _ _ st5 fun b hb o e=>(I7.pin _ (zcy _ (zcy _ (jhf hb e)))).1,fun b hb=>?_,w7⟩;obtain⟨o,e,d⟩:=T.obj _ _ st5 b hb;exact (I7.pin _ (zcy _ (zcy _ (jhf hb e)))).2.1
  cases f with
  | next=>obtain⟨Z7,H7,I7,n7⟩:=q7;exact again I7 n7
  | cont=>obtain⟨Z7,H7,I7,n7⟩:=q7;exact again I7 n7
  | brk=>obtain⟨Z7,H7,I7,q7⟩:=q7;exact⟨Z7,H7,I7.unpinned,q7⟩
  | ret v=>obtain⟨x7,Z7,H7,I7,r7,q7⟩:=q7;exact⟨x7,Z7,H7,I7.unpinned,r7,q7⟩
end
abbrev R2:=V->V->Hp->VK->Prop
def OpR(X:Cx)(f:Value->Value->Sem Value)(r:R2):Prop :=
 ∀ (U:qb) (s:Shared) (Z:St) (H:Hp) (x y:V) (v u:Value) (Q:VK),Inv X U Z H s->RelV x v->RelV y u->r x y H Q ->
  wpAny (model X.prog X.w) X.A (f v u) (EP X U Z Q) X.xe s
def UnR(X:Cx)(f:Value->Sem Value)(r:V->Hp->VK->Prop):Prop :=
 ∀ (U:qb) (s:Shared) (Z:St) (H:Hp) (x:V) (v:Value) (Q:VK),Inv X U Z H s->RelV x v->r x H Q ->
  wpAny (model X.prog X.w) X.A (f v) (EP X U Z Q) X.xe s
def CallR(X:Cx)(f:Value)(r:List V->Hp->VK->Prop):Prop :=
 ∀ (U:qb) (s:Shared) (Z:St) (H:Hp) (xs:List V) (us:List Value) (Q:VK),Inv X U Z H s->Vals xs us->r xs H Q ->
  wpAny (model X.prog X.w) X.A (call f us) (EP X U Z Q) X.xe s
def TruR(X:Cx)(r:V->Hp->(Bool->Hp->Prop)->Prop):Prop :=
 ∀ (U:qb) (s:Shared) (Z:St) (H:Hp) (x:V) (v:Value) (Q:Bool->Hp->Prop),Inv X U Z H s->RelV x v->r x H Q ->
  wpAny (model X.prog X.w) X.A (truthy v) (TP X U Z Q) X.xe s
def tOp(r:R2)(ta tb:TE):TE:=fun Z H Q=>ta Z H fun x H1=>tb Z H1 fun y H2=>r x y H2 Q
def tUn(r:V->Hp->VK->Prop)(ta:TE):TE:=fun Z H Q=>ta Z H fun x H1=>r x H1 Q
def rI(C:Int->Int->Prop)(g:Int->Int->V):R2:=fun x y H Q=>∃ i j,x=.int i/\y=.int j/\C i j/\Q (g i j) H
def rI0(g:Int->Int->V):R2:=fun x y H Q=>∃ i j,x=.int i/\y=.int j/\Q (g i j) H
def rU(g:Int->V):V->Hp->VK->Prop:=fun x H Q=>∃ i,x=.int i/\Q (g i) H
section
variable {X:Cx}{a b:Expr}{ta tb:TE}{pos:Pos}
def binT(ha:PE X a ta)(hb:PE X b tb){R:V->V->Hp->Prop}(I:Inv X U Z H s)
  (h:ta Z H fun x H1=>tb Z H1 fun y H2=>R x y H2) {f:Value->Value->Sem Value}
  (hf:∀ v u s2 x y H2,Inv X U Z H2 s2->RelV x v->RelV y u->R x y H2->wpAny (model X.prog X.w) X.A (f v u) Q X.xe s2) :
  wpAny (model X.prog X.w) X.A (eval a X.env) (fun v s₁=>wpAny (model X.prog X.w) X.A (eval b X.env) (fun u s₂=>wpAny (model X.prog X.w) X.A (f v u) Q X.xe s₂) X.xe s₁) X.xe s:=thn (ha _ s Z H _ I h) fun v s1 ⟨x,H1,I1,r1,q1⟩=>thn (hb _ s1 Z H1 _ I1 q1) fun u s2 ⟨y,H2,I2,r2,q2⟩=>hf v u s2 x y H2 I2 r1 r2 q2
def jOq(ho:OpR X (binaryOp op) r)(ha:PE X a ta)(hb:PE X b tb):PE X (.BinOp a op b pos) (tOp r ta tb):=fun U s Z H Q I h=>wpAny_BinOp (binT ha hb I h fun v u s2 x y H2 I2 rx ry q=>ho _ s2 Z H2 x y v u Q I2 rx ry q)
def jRx(ho:UnR X (unaryOp op) r)(ha:PE X a ta):PE X (.UnaryOp op a pos) (tUn r ta):=fun U s Z H Q I h=>UnaryOp_ (thn (ha _ s Z H _ I h) fun v s1 ⟨x,H1,I1,r1,q1⟩=>ho _ s1 Z H1 x v Q I1 r1 q1)
def opI{f:Value->Value->Sem Value}{C:Int->Int->Prop}{g:Int->Int->Int}
  (rule:∀ (i j:Int) (t u:Tok) (s:Shared) (Q:qc) (E:qc),C i j->Q (.int (g i j) s.toks) { s with toks:=s.toks+1 }->wpAny (model X.prog X.w) X.A (f (.int i t) (.int j u)) Q E s) :
  OpR X f (rI C fun i j=>.int (g i j)):=by
 intro U s Z H x y v u Q I rx ry h;obtain⟨i,j,rfl,rfl,hc,q⟩:=h;obtain⟨t,rfl⟩:=rx;obtain⟨t',rfl⟩:=ry;exact rule i j t t' s _ _ hc ⟨.int _,H,I.tok _,⟨_,rfl⟩,q⟩
def opI0{f:Value->Value->Sem Value}{g:Int->Int->Int}
  (rule:∀ (i j:Int) (t u:Tok) (s:Shared) (Q:qc) (E:qc),Q (.int (g i j) s.toks) { s with toks:=s.toks+1 }->wpAny (model X.prog X.w) X.A (f (.int i t) (.int j u)) Q E s) :
  OpR X f (rI0 fun i j=>.int (g i j)):=by
 intro U s Z H x y v u Q I rx ry h;obtain⟨i,j,rfl,rfl,q⟩:=h;obtain⟨t,rfl⟩:=rx;obtain⟨t',rfl⟩:=ry;exact rule i j t t' s _ _ ⟨.int _,H,I.tok _,⟨_,rfl⟩,q⟩
def opB0{f:Value->Value->Sem Value}{g:Int->Int->Bool}
  (rule:∀ (i j:Int) (t u:Tok) (s:Shared) (Q:qc) (E:qc),Q (.bool (g i j)) s->wpAny (model X.prog X.w) X.A (f (.int i t) (.int j u)) Q E s) :
  OpR X f (rI0 fun i j=>.bl (g i j)):=by
 intro U s Z H x y v u Q I rx ry h;obtain⟨i,j,rfl,rfl,q⟩:=h;obtain⟨t,rfl⟩:=rx;obtain⟨t',rfl⟩:=ry;exact rule i j t t' s _ _ ⟨.bl _,H,I,rfl,q⟩
def CPow(i j:Int):Prop:=0<=j/\j<=1000000/\i.natAbs<2 ^ 64
def op_add:OpR X (binaryOp .Add) (rI0 fun i j=>.int (i+j)):=opI0 fun _ _ _ _ _ _ _ q=>add_int q
def jOg:OpR X (binaryOp .Sub) (rI0 fun i j=>.int (i-j)):=opI0 fun _ _ _ _ _ _ _ q=>sub_int q
def jOd:OpR X (binaryOp .Mod) (rI (fun _ j=>0<j) fun i j=>.int (i % j)):=opI fun i j _ _ _ _ _ hc q=>mod_int' (by lia) (by grind)
def jOe:OpR X (binaryOp .Pow) (rI CPow fun i j=>.int (i ^ j.toNat)):=opI fun _ _ _ _ _ _ _ hc q=>pow_int_small hc.1 hc.2.1 hc.2.2 q
def iop_add:OpR X (inplaceOp .Add) (rI0 fun i j=>.int (i+j)):=opI0 fun _ _ _ _ _ _ _ q=>iadd_int q
def unI{f:Value->Sem Value}{g:Int->Int}
  (rule:∀ (i:Int) (t:Tok) (s:Shared) (Q:qc) (E:qc),Q (.int (g i) s.toks) { s with toks:=s.toks+1 }->wpAny (model X.prog X.w) X.A (f (.int i t)) Q E s) :
  UnR X f (rU fun i=>.int (g i)):=by
 intro U s Z H x v Q I rx h;obtain⟨i,rfl,q⟩:=h;obtain⟨t,rfl⟩:=rx;exact rule i t s _ _ ⟨.int _,H,I.tok _,⟨_,rfl⟩,q⟩
def jP5:UnR X (unaryOp .USub) (rU fun i=>.int (-i)):=unI fun _ _ _ _ _ q=>neg_int q
end
section
variable {X:Cx}{a b c:Expr}{ta tb tc:TE}{pos:Pos}
def jFj{U:qb}{Z:St}{H:Hp}{s:Shared}{Q:VK}{k k':Bool}(I:Inv X U Z H s)(q:Q (.bl k) H)(e:k=k'):EP X U Z Q (.bool k') s:=by
 subst e;exact⟨.bl k,H,I,rfl,q⟩
def op_lt:OpR X (compareOp .Lt) (rI0 fun i j=>.bl (decide (i<j))):=opB0 fun _ _ _ _ _ _ _ q=>lt_int q
def op_le:OpR X (compareOp .LtE) (rI0 fun i j=>.bl (decide (i<=j))):=opB0 fun _ _ _ _ _ _ _ q=>le_int q
def op_gt:OpR X (compareOp .Gt) (rI0 fun i j=>.bl (decide (j<i))):=opB0 fun _ _ _ _ _ _ _ q=>gt_int q
def op_ge:OpR X (compareOp .GtE) (rI0 fun i j=>.bl (decide (j<=i))):=opB0 fun _ _ _ _ _ _ _ q=>ge_int q
def jy7:OpR X (compareOp .Lt) (fun x y H Q=>∃ i j,x=.str i/\y=.str j/\Q (.bl (decide (i.cps.toList<j.cps.toList))) H):=by
 intro U s Z H x y v u Q I rx ry h;obtain⟨i,j,rfl,rfl,q⟩:=h;obtain⟨t,rfl⟩:=rx;obtain⟨t',rfl⟩:=ry;exact lt_str (jFj I q rfl)
def jF3:OpR X (compareOp .Is) (fun x y H Q=>y=.non/\Q (.bl (decide (x=.non))) H):=by
 intro U s Z H x y v u Q I rx ry h;obtain⟨rfl,q⟩:=h;cases ry;refine is_none_gen (jFj I q ?_);cases x<;>first
  | (rfl)
  | (obtain⟨t,rfl⟩:=rx;rfl)
def OpR.or(h:OpR X f r)(h':OpR X f r'):OpR X f (fun x y H Q=>r x y H Q\/r' x y H Q):=by
 intro U s Z H x y v u Q I rx ry q;rcases q with q|q
 .exact h _ s Z H x y v u Q I rx ry q
 .exact h' _ s Z H x y v u Q I rx ry q
def jpz(b:Expr)(h:autoParam (op≠.In) zau0._auto_1)(h2:autoParam (op≠.NotIn) zau0._auto_1):behindInMarks op b=false:=by
 have e1:(op == CmpOp.In)=false:=by cases op<;>first|rfl|grind
 have e2:(op == CmpOp.NotIn)=false:=by cases op<;>first|rfl|grind
 cases b<;>simp[behindInMarks,e1,e2]
def jJ8(ho:OpR X (compareOp op) r)(ha:PE X a ta)(hb:PE X b tb)(hm:behindInMarks op b=false):PE X (.Compare a [op] [b] pos) (tOp r ta tb):=fun U s Z H Q I h=>wpAny_Compare1 (binT ha hb I h fun v u s2 x y H2 I2 rx ry q=>ho _ s2 Z H2 x y v u Q I2 rx ry q) hm
def jSh(t:TE):TT:=fun Z H Q=>t Z H fun x H'=>∃ k,x=.bl k/\Q k H'
def jsc(ho:OpR X (compareOp op) r)(ha:PE X a ta)(hb:PE X b tb)(hm:behindInMarks op b=false):PT X (.Compare a [op] [b] pos) (jSh (tOp r ta tb)):=by
 intro U s Z H Q I h;refine wpAny_isTrue_Compare1 (thn (ha _ s Z H _ I h) fun v s1 ⟨x,H1,I1,r1,q1⟩=>thn (hb _ s1 Z H1 _ I1 q1) fun u s2 ⟨y,H2,I2,r2,q2⟩ =>
  thn (ho _ s2 Z H2 x y v u _ I2 r1 r2 q2) fun c s3 ⟨z,H3,I3,r3,k,e,q3⟩=>?_) hm
 subst e;cases r3;exact wpAny_truthy_bool ⟨H3,I3,q3⟩
def jPt(r r':R2)(ta tb tc:TE):TE:=fun Z H Q=>ta Z H fun x H1=>tb Z H1 fun y H2=>r x y H2 fun z H3=>∃ k,z=.bl k /\
 (if k=true then tc Z H3 fun w' H4=>r' y w' H4 Q else Q (.bl false) H3)
def jDh(ho:OpR X (compareOp op) r)(ho':OpR X (compareOp op') r')(ha:PE X a ta)(hb:PE X b tb)(hc:PE X c tc)
  (hm:lastMarks [op,op'] [b,c]=false):PE X (.Compare a [op,op'] [b,c] pos) (jPt r r' ta tb tc):=by
 intro U s Z H Q I h;refine Compare_chain (thn (ha _ s Z H _ I h) fun v s1 ⟨x,H1,I1,r1,q1⟩=>chain_link (thn (hb _ s1 Z H1 _ I1 q1) fun u s2 ⟨y,H2,I2,r2,q2⟩ =>
  thn (ho _ s2 Z H2 x y v u _ I2 r1 r2 q2) fun d s3 ⟨z,H3,I3,r3,k,e,q3⟩=>?_)) hm
 subst e;cases r3;refine wpAny_truthy_bool ?_
 cases k with
 | false=>exact ite_ff ⟨.bl _,H3,I3,rfl,q3⟩
 | true=>exact ite_tt (chain_last (thn (hc _ s3 Z H3 _ I3 q3) fun w' s4 ⟨z',H4,I4,r4,q4⟩=>ho' _ s4 Z H4 y z' u w' Q I4 r2 r4 q4))
def TruV(K:W.Frag)(x:V)(H:Hp)(k:Bool):Prop :=
 match x with
 | .non=>k=false
 | .bl b=>k=b
 | .int i=>k=(i != 0)
 | .str y=>y.length<=sizeLine/\k=((y.length:Int) != 0)
 | .byt y=>y.size<=sizeLine/\k=((y.size:Int) != 0)
 | .ref p=>(∃ xs,SqL K H p xs/\k=!xs.isEmpty)\/(∃ xs,SqT K H p xs/\k=!xs.isEmpty)\/∃ kvs,H p=some (.dK kvs)/\k=!kvs.isEmpty
 | _=>False
theorem ju5(r:KV kvs vs):(!vs.isEmpty)=!kvs.isEmpty:=by
 cases r<;>rfl
def jmy(r:Vals xs its):(!its.toArray.isEmpty)=!xs.isEmpty:=by
 cases r<;>simp
def jm2:(sizeLine:Nat)<2 ^ 63:=by decide
def jP2:TruR X (fun x H Q=>∃ k,TruV X.K x H k/\Q k H):=by
 intro U s Z H x v Q I rx h;obtain⟨k,e,q⟩:=h;have hs:=sizeLine_eq
 cases x with
 | non =>
  cases rx;subst e;exact truthy_none ⟨H,I,q⟩
 | bl b =>
  cases rx;subst e;exact wpAny_truthy_bool ⟨H,I,q⟩
 | int i =>
  obtain⟨t,rfl⟩:=rx;subst e;exact PySem.P.truthy_int ⟨H,I,q⟩
 | str y =>
  obtain⟨t,rfl⟩:=rx;obtain⟨hy,e'⟩:y.length<=sizeLine/\k=((y.length:Int) != 0):=e;subst e';exact PySem.P.truthy_str (by lia) ⟨H,I.tok _,q⟩
 | byt y =>
  obtain⟨t,rfl⟩:=rx;obtain⟨hy,e'⟩:y.size<=sizeLine/\k=((y.size:Int) != 0):=e;subst e';exact W.truthy_bytes (by lia) ⟨H,I.tok _,q⟩
 | ref p =>
  cases rx;have e':=e;rcases e' with ⟨xs,hx,e'⟩|⟨xs,hx,e'⟩|⟨kvs,hx,e'⟩
  .subst e';obtain⟨its,r,pl,hz⟩:=I.list hx;have hlen:=r.length;exact wpAny_truthy_list pl.isList (by simp only[zbx];lia) ⟨H,I.tok _,by rw[jmy r];exact q⟩
  .subst e';obtain⟨its,r,pl,hz⟩:=I.tuple hx;have hlen:=r.length;exact truthy_tuple pl (by simp only[zbx];lia) ⟨H,I.tok _,by rw[jmy r];exact q⟩
  .subst e';obtain⟨hz,hS,vs,r,m⟩:kvs.length<=sizeLine/\(p == sysModules)=false/\∃ vs,KV kvs vs/\s.heap.DictOf _ p vs:=I.hok p _ hx;have hlen:=Paired.length r;exact wpAny_truthy_dict hS m (by lia) ⟨H,I.tok _,by grind [ju5]⟩
 | _=>exact (e).elim
def juh(ha:PE X a ta)(he:∀ whole,isTrue a X.env whole=(do let v <- whole;standAt a.pos;holding [v] (truthy v))) :
  PT X a (fun Z H Q=>ta Z H fun x H'=>∃ k,TruV X.K x H' k/\Q k H'):=fun U s Z H Q I h=>isTrue_plain (thn (ha _ s Z H _ I h) fun v s1 ⟨x,H1,I1,r1,q1⟩=>jP2 _ s1 Z H1 x v Q I1 r1 q1) (he _)
def jvk:OpR X (binaryOp .Add) (fun x y H Q=>∃ i j,x=.str i/\y=.str j/\i.length+j.length<=sizeLine/\Q (.str (i++j)) H):=by
 intro U s Z H x y v u Q I rx ry h;obtain⟨i,j,rfl,rfl,hz,q⟩:=h;obtain⟨t,rfl⟩:=rx;obtain⟨t',rfl⟩:=ry;exact add_str (fun t' tk=>⟨.str _,H,I.tok _,⟨_,rfl⟩,q⟩) hz
def jro:OpR X (inplaceOp .Add) (fun x y H Q=>∃ i j,x=.str i/\y=.str j/\i.length+j.length<=sizeLine/\Q (.str (i++j)) H):=by
 intro U s Z H x y v u Q I rx ry h;obtain⟨i,j,rfl,rfl,hz,q⟩:=h;obtain⟨t,rfl⟩:=rx;obtain⟨t',rfl⟩:=ry;exact iadd_str (fun t' tk=>⟨.str _,H,I.tok _,⟨_,rfl⟩,q⟩) hz
def jmp(r:Vals [x] us):∃ u,us=[u]/\RelV x u:=by
 cases r with
 | cons r1 r2=>cases r2;grind
def jBn:CallR X (.builtin "abs") (fun xs H Q=>∃ i,xs=[.int i]/\Q (.int (if i<0 then -i else i)) H):=by
 intro U s Z H xs us Q I r h;obtain⟨i,rfl,q⟩:=h;obtain⟨u,rfl,t,rfl⟩:=jmp r;exact call_abs_int fun u tk=>⟨.int _,H,I.tok _,⟨_,rfl⟩,q⟩
def call_int1:CallR X (.type "int") (fun xs H Q=>(∃ i,xs=[.int i]/\Q (.int i) H)\/∃ k,xs=[.bl k]/\Q (.int (if k then 1 else 0)) H):=by
 intro U s Z H xs us Q I r h;rcases h with ⟨i,rfl,q⟩|⟨k,rfl,q⟩
 .obtain⟨u,rfl,t,rfl⟩:=jmp r;exact call_int_int ⟨.int i,H,I,⟨_,rfl⟩,q⟩
 .obtain⟨u,rfl,r1⟩:=jmp r;cases r1;exact call_int_bool ⟨.int _,H,I.tok _,⟨_,rfl⟩,q⟩
def jo6:CallR X (.type "str") (fun xs H Q=>∃ i,xs=[.int i]/\i.natAbs.log2<1920/\Q (.str (toString i)) H):=by
 intro U s Z H xs us Q I r h;obtain⟨i,rfl,hz,q⟩:=h;obtain⟨u,rfl,t,rfl⟩:=jmp r;exact PySem.P.str_of_int hz ⟨.str _,H,I.tok _,⟨_,rfl⟩,q⟩
end
structure ObjM(h:Heap)(x dx C:Addr)(mA:qa):Prop where
 obj:h.get? x=some (W.instObj C dx)
 ns:h.Ns1 dx mA
 ne:dx≠x
def jye{h:Heap}(n:h.Ns1 dx mA):∃ od,h.get? dx=some od/\∀ name,W.lookIn name od=some (mA name):=by
 obtain⟨o,es,ep,ho,hd,hk,_,hm⟩:=n;refine⟨o,ho,fun name=>?_⟩;have e:=hm name;unfold nsFind findBy at e;rw[<- Array.find?_toList] at e;unfold W.lookIn;rw[hd];dsimp only
 split
 .rename_i y q;rw[q] at e;exact congrArg _ e
 .rename_i q;rw[q] at e;have a:es.toList.any (·.refKey)=false:=by
   rw[List.any_eq_false];intro y hy;obtain⟨z,t,hkey⟩:=hk y (Array.mem_toList_iff.mp hy);simp[DictEntry.refKey,hkey]
  rw[if_neg (by rw[a];exact Bool.false_ne_true)];exact congrArg _ e
def ObjM.look(I:ObjM h x dx C mA):∃ od,W.InstAt h x (W.instObj C dx) C (some od)/\∀ name,W.lookIn name od=some (mA name) :=
 let ⟨od,ho,hl⟩:=jye I.ns
 ⟨od,⟨I.obj,rfl,rfl,ho⟩,hl⟩
section
variable {prog:Program}{w:World}{A:Around}{E:qc}{s:Shared}{K:W.Frag}{x dx C f:Addr}{mA:qa}{name:Str}{v:Value}
def jIk{expr:Bool}{Q:qc}(X:K.In s.heap)(I:ObjM s.heap x dx C mA)(hg:W.plainGet K C name=true)(hh:W.hasDictIn K C=true)
  (ha:W.findIn K (.ref C) name=some none) (hv:mA name=some v) (hv':W.handedIn v=true) (h:Q v { s with toks:=s.toks+1 }) :
  wpAny (model prog w) A (getAttr (.ref x) name expr) Q E s:=by
 obtain⟨od,Jq,hl⟩:=I.look;exact W.get_value X Jq (W.plainGet_of hg).1 (W.findObj_own hh ha rfl (by rw[hl,hv])) hv' h
def jCh{pl:Sem Bool}{Q:Value×List Value->Shared->Prop}(X:K.In s.heap)(I:ObjM s.heap x dx C mA)(hg:W.plainGet K C name=true)
  (hf:W.findIn K (.ref C) name=some (some (.ref f))) (ht:W.isFn K (.ref f)=true) (hv:mA name=none) (h:Q (.ref f,[.ref x]) s) :
  wpAny (model prog w) A (getMethod (.ref x) name pl) Q E s:=by
 obtain⟨od,Jq,hl⟩:=I.look;exact W.method_fn X Jq (W.plainGet_of hg).1 (W.plainGet_of hg).2 hf (beq_iff_eq.mp ht) (by show (W.lookIn _ od).map _=some _;grind) h
def jK3{ns:List Str}{Q:Unit->Shared->Prop}(X:K.In s.heap)(I:ObjM s.heap x dx C mA)
  (hs:W.findIn K (.ref C) "__setattr__"=some (some (.builtin "object.__setattr__"))) (hp:W.plainOver K C=true) (ht:W.takerIn K C name=some none) (hh:W.hasDictIn K C=true)
  (hw:PySem.Within mA ns) (hsz:ns.length<=sizeLine)
  (h:∀ h',ObjM h' x dx C (fun y=>if y=name then some v else mA y)->Heap.SameBut dx s.heap h'->Q () { s with heap:=h',toks:=s.toks+2 }) :
  wpAny (model prog w) A (setAttr (.ref x) name v) Q E s:=by
 obtain⟨od,Jq,hl⟩:=I.look;refine W.set_plain X Jq hs (W.osa_open X Jq hp ht fun b=>?_);obtain⟨cd,hc,hd'⟩:=W.any_some hh;refine zay (zab (zay (zay (wpAny_loadPart I.obj (zay (W.Looks.here (W.looks_clsIn X hc) ?_))))));rw[hd'];refine zab (zay (zab (zay ?_)));refine wpAny_nsSet1 I.ns fun h' hn2 hs2=>?_
 obtain⟨oD,esD,epD,hoD,hdD,hcD⟩:=hn2.count (PySem.Within.cons _ v hw);exact zay (wpAny_lookBehind hoD (by rw[hdD];exact pastItsLine_dict (zdz hcD (by grind))) (zab (h _ ⟨(hs2.2 _ (Ne.symm I.ne)).trans I.obj,hn2,I.ne⟩ hs2)))
def jCz(X:K.In s.heap)(hm:W.makesIn K C=true)
  (hi:W.findIn K (.ref C) "__init__"=some (some (.ref f))) (hf:W.typeIn K (.ref f)=some (.type "function"))
  (h:codeAny (model prog w) (A.under (.builtin "type.__call__" ⟨.ref C::vs,kw⟩)) (.call (.ref f) ⟨.ref (s.heap.objs.size+1)::vs,kw⟩) (W.InitBack (s.heap.objs.size+1) R)
   { s with heap:=(s.heap.push W.emptyDict).push (W.instObj C s.heap.objs.size) }) :
  codeAny (model prog w) A (.call (.ref C) ⟨vs,kw⟩) R s:=W.make_core (W.makes_of X hm) (W.looks_findIn X hi) (fun self=>W.bind_fn X _ hf) (.inl rfl) h
end
def putF(f:Str)(v:V):List (Str×V)->List (Str×V)
 | []=>[(f,v)]
 | (g,x)::r=>if g=f then (g,v)::r else (g,x)::putF f v r
theorem jlp(f g:Str)(v:V):∀ fs:List (Str×V),(putF f v fs).lookup g=if g=f then some v else fs.lookup g
 | []=>by
  show List.lookup g [(f,v)]=_
  by_cases h:g=f
  .simp only[List.lookup,(beq_iff_eq.mpr h),if_pos h]
  .simp only[List.lookup,(beq_eq_false_iff_ne.mpr h),if_neg h]
 | (k,x)::r=>by
  rw[show putF f v _=(if k=f then (k,v)::r else (k,x)::putF f v r) from rfl]
  by_cases hk:k=f
  .rw[if_pos hk]
   by_cases h:g=k
   .simp only[List.lookup,(beq_iff_eq.mpr h),if_pos (h.trans hk)]
   .simp only[List.lookup,(beq_eq_false_iff_ne.mpr h),if_neg (fun e:g=f=>h (e.trans hk.symm))]
  .rw[if_neg hk]
   by_cases h:g=k
   .simp only[List.lookup,(beq_iff_eq.mpr h),if_neg (fun e=>hk (h.symm.trans e))]
   .simp only[List.lookup,(beq_eq_false_iff_ne.mpr h)];exact (jlp f g v r)
theorem jlk(f:Str)(v:V):∀ fs:List (Str×V),f∈(putF f v fs).map (·.1)/\∀ g,g∈fs.map (·.1)->g∈(putF f v fs).map (·.1)
 | []=>⟨by simp[putF],fun g h=>by simp at h⟩
 | (k,x)::r=>by
  obtain⟨i1,i2⟩:=jlk f v r;rw[show putF f v _=(if k=f then (k,v)::r else (k,x)::putF f v r) from rfl]
  by_cases hk:k=f
  .subst hk;exact⟨by simp,fun g h=>by simpa using h⟩
  .rw[if_neg hk];refine⟨(zaw _ i1),fun g h=>?_⟩
   .rcases List.mem_cons.mp h with e|e
    .exact List.mem_cons.mpr (.inl e)
    .exact zaw _ (i2 g e)
theorem jll(f:Str)(v:V):∀ fs:List (Str×V),(putF f v fs).length<=fs.length+1
 | []=>by simp[putF]
 | (k,x)::r=>by
  have ih:=jll f v r;rw[show putF f v _=(if k=f then (k,v)::r else (k,x)::putF f v r) from rfl]
  grind
def RelO.some_of(r:RelO (some v) o):∃ u,o=some u/\RelV v u:=by
 cases o with
 | none=>exact (r).elim
 | some u=>exact⟨u,rfl,r⟩
def RelO.none_of(r:RelO none o):o=none:=by
 cases o with
 | none=>rfl
 | some u=>exact (r).elim
def jxm(r:RelV v u):W.handedIn u=true:=by
 cases v with
 | non=>cases (r);rfl
 | bl b=>cases (r);rfl
 | int i=>obtain⟨t,e⟩:=(r);cases e;rfl
 | str x=>obtain⟨t,e⟩:=(r);cases e;rfl
 | byt b=>obtain⟨t,e⟩:=(r);cases e;rfl
 | flt b=>obtain⟨t,e⟩:=(r);cases e;rfl
 | ref a=>cases (r);rfl
 | ty n=>cases (r);rfl
section
variable {P:Program}{w:World}{H:Hp}{h:Heap}{a C dx:Addr}{fs:List (Str×V)}
def jrn(hok:HOk P w H h)(e:H a=some (.ins C dx fs)):∃ mA,ObjM h a dx C mA/\(∀ f,RelO (fs.lookup f) (mA f))/\PySem.Within mA (fs.map (·.1))/\fs.length<=1000/\H dx=some (.own a):=by
 obtain⟨d,z,ne,ob,mA,n,r,q⟩:=(hok a _ e)
 exact⟨mA,⟨ob,n,ne⟩,r,q,z,d⟩
end
structure Cls(K:W.Frag)(C:Addr):Prop where
 pg:W.plainGet K C Str.empty=true
 hd:W.hasDictIn K C=true
 po:W.plainOver K C=true
 sa:W.findIn K (.ref C) "__setattr__"=some (some (.builtin "object.__setattr__"))
def Cls.get{K:W.Frag}(c:Cls K C)(f:Str):W.plainGet K C f=true:=c.pg
def NoAttr(K:W.Frag)(C:Addr)(f:Str):Prop:=W.findIn K (.ref C) f=some none
def NoAttr.taker{K:W.Frag}(n:NoAttr K C f):W.takerIn K C f=some none:=by
 unfold W.takerIn;rw[n];rfl
structure Meth(K:W.Frag)(C:Addr)(m:Str)(f:Addr):Prop where
 at_:W.findIn K (.ref C) m=some (some (.ref f))
 fn:W.isFn K (.ref f)=true
 kp:W.keepIn K (.ref f)=true
section
variable {X:Cx}{U:qb}{Z:St}{H:Hp}{s:Shared}{a C dx:Addr}{fs:List (Str×V)}{f:Str}{v:V}{A:Around}{E:qc}
def ju4(I:Inv X U Z H s)(e:H a=some (.ins C dx fs))(c:Cls X.K C)(n:NoAttr X.K C f)(l:fs.lookup f=some v)
  (h:∀ u s',Inv X U Z H s'->RelV v u->Q u s'):wpAny (model X.prog X.w) A (getAttr (.ref a) f b) Q E s:=by
 obtain⟨mA,O,r,_,_,_⟩:=jrn I.hok e;obtain⟨u,hu,ru⟩:=RelO.some_of (by rw[<- l];exact r f);exact jIk I.kIn O (c.get f) c.hd n hu (jxm ru) (h u _ (I.tok _) ru)
def jmv{m:Str}{g:Addr}{pl:Sem Bool}{Q:Value×List Value->Shared->Prop}(I:Inv X U Z H s)(e:H a=some (.ins C dx fs))(c:Cls X.K C)(k:Meth X.K C m g)(l:fs.lookup m=none)
  (h:Q (.ref g,[.ref a]) s):wpAny (model X.prog X.w) A (getMethod (.ref a) m pl) Q E s:=by
 obtain⟨mA,O,r,_,_,_⟩:=jrn I.hok e;exact jCh I.kIn O (c.get m) k.at_ k.fn (RelO.none_of (by grind)) h
def jvv{y:V}{u:Value}{Q:Unit->Shared->Prop}(I:Inv X U Z H s)(e:H a=some (.ins C dx fs))(c:Cls X.K C)(n:NoAttr X.K C f)(hl:fs.length<1000)(ry:RelV y u)
  (h:∀ s',Inv X U Z (upd H a (.ins C dx (putF f y fs))) s'->Q () s'):wpAny (model X.prog X.w) A (setAttr (.ref a) f u) Q E s:=by
 obtain⟨mA,O,r,wi,_,ho⟩:=jrn I.hok e;refine jK3 I.kIn O c.sa c.po n.taker c.hd wi (by rw[zav,sizeLine_eq];lia) fun h' O' sb=>h _ ?_
 refine I.write (by rw[e];exact True.intro) (.inr ho) (fun b q hb z=>(sb.2 b hb).trans z) (let ⟨o,_,_,e',_⟩:=O'.ns;⟨o,e'⟩) ?_;refine⟨by grind [jam],?_,O.ne,O'.obj,_,O'.ns,fun g=>?_,fun g hg=>?_⟩
 .have:=jll f y fs;lia
 .rw[jlp]
  by_cases q:g=f
  .rw[if_pos q,if_pos q];exact ry
  grind
 .by_cases q:g=f
  .rw[q];exact (jlk f y fs).1
  .refine (jlk f y fs).2 g (wi g fun z=>hg ?_)
   grind
def Inv.made(I:Inv X U Z H s):Inv X U Z (upd (upd H s.heap.objs.size (.own (s.heap.objs.size+1))) (s.heap.objs.size+1) (.ins C s.heap.objs.size []))
  { s with heap:=(s.heap.push W.emptyDict).push (W.instObj C s.heap.objs.size) }:=by
 have e1:(s.heap.push W.emptyDict).get? _=some _:=zbz _ rfl;have e2:=by
  have:=zbz (s.heap.push W.emptyDict) (o:=W.instObj C s.heap.objs.size) rfl
  rwa [Heap.size_push] at this
 refine (I.laid (o:=.own (s.heap.objs.size+1)) (t':=s.toks) (fun b u q=>zaz _ q) (zac _) ⟨_,e1⟩).laid (fun b u q=>zaz _ q) (Nat.le_of_eq (Heap.size_push _ _)) ?_;have ne:s.heap.objs.size≠s.heap.objs.size+1:=zcw (Nat.lt_succ_self _);refine⟨by rw[jam ne,jaj],Nat.zero_le _,ne,e2,_,(Heap.Ns1.of_empty (⟨_,#[],_,e1,rfl,(fun e he=>absurd he (by simp)),fun _=>rfl⟩)).at fun o q=>zaz _ q,fun _=>True.intro,fun y hy=>absurd rfl hy⟩
def jG0(hb:attributeBase e f env (eval e env)=eval e env)
  (h:wpAny (model prog w) A (eval e env) (fun o s₁=>wpAny (model prog w) A (getAttr o f true) Q E s₁) E s):wpAny (model prog w) A (eval (.Attribute e f pos) env) Q E s :=
 Attribute_any_ h (by rw[arm_eval_Attribute,hb])
end
def tFld(K:W.Frag)(ta:TE)(f:Str):TE:=fun Z H Q=>ta Z H fun x H1=>∃ a C dx fs v,x=.ref a/\H1 a=some (.ins C dx fs)/\Cls K C/\NoAttr K C f/\fs.lookup f=some v/\Q v H1
def sFld(K:W.Frag)(ta tv:TE)(f:Str):TS:=fun D Z H=>tv Z H fun y H1=>ta Z H1 fun x H2=>∃ a C dx fs,x=.ref a/\H2 a=some (.ins C dx fs)/\Cls K C/\NoAttr K C f/\fs.length<1000 /\
 D.nx Z (upd H2 a (.ins C dx (putF f y fs)))
section
variable {X:Cx}{o e value:Expr}{f:Str}{pos pos':Pos}{ta tv:TE}
def jOm(he:PE X e ta)(hb:attributeBase e f X.env (eval e X.env)=eval e X.env):PE X (.Attribute e f pos) (tFld X.K ta f):=by
 intro U s Z H Q I h;refine jG0 hb (thn (he _ s Z H _ I h) fun u s1 hzz=>?_);obtain⟨x,H1,I1,rx,a,C,dx,fs,v,ex,ea,c,n,l,q⟩:=hzz;subst ex;obtain rfl:u=Value.ref a:=rx;exact ju4 I1 ea c n l fun u' s2 I2 ru=>⟨v,H1,I2,ru,q⟩
def jOz(ha:PE X o ta)(hv:PE X value tv)(hs:swapsWith value (some (.Attribute o f pos')) pos.line X.env=pure false):PS X (.Assign [.Attribute o f pos'] value pos) (sFld X.K ta tv f):=by
 intro U s Z H D I h;refine plainObj_wpAny_Assign_Attribute (thn (hv _ s Z H _ I h) fun u s1 ⟨y,H1,I1,ry,q⟩=>thn (ha _ s1 Z H1 _ I1 q) fun ov s2 hzz=>?_) hs;obtain⟨x,H2,I2,rx,a,C,dx,fs,ex,ea,c,n,l,q2⟩:=hzz;subst ex;obtain rfl:ov=Value.ref a:=rx;exact jvv I2 ea c n l ry fun s3 I3=>⟨Z,_,I3,q2⟩
end
structure Room(k:Nat)(A:Around):Prop where
 hd:A.handled=none
 dp:A.depth+3*k+5<recursionLimit
 un:A.units+16*k+200<cLine
def Room.mono(r:Room k A)(h:j<=k):Room j A:=⟨r.hd,by have:=r.dp;lia,by have:=r.un;lia⟩
def Room.m{j k:Nat}{A:Around}(r:Room k A)(h:Nat.ble j k=true):Room j A:=r.mono (Nat.le_of_ble_eq_true h)
def Room.deeper(r:Room (k+1) A)(env:Env):Room k (A.deeper env) :=
 ⟨r.hd,by have:=r.dp;show A.depth+1+3*k+5<_;lia,by have:=r.un;show A.units+3+16*k+200<_;lia⟩
def jve{A:Around}:(A.under (.builtin "type.__call__" ⟨.ref C::us,kw⟩)).depth=A.depth+1:=by
 first|rfl|simp[guardIds]
def jvf{A:Around}:(A.under (.builtin "type.__call__" ⟨.ref C::us,kw⟩)).units=A.units+1:=by
 first|rfl|simp[Code.cUnits]
def Room.make(r:Room (k+1) A)(C:Addr)(us:List Value)(kw:List (Str×Value)):Room k (A.under (.builtin "type.__call__" ⟨.ref C::us,kw⟩)) :=
 ⟨r.hd,by have:=r.dp;rw[jve];lia,by have:=r.un;rw[jvf];lia⟩
def Room.depth(r:Room k A):A.depth<recursionLimit:=by have:=r.dp;lia
def Room.units(r:Room k A):A.units+64<cLine:=by have:=r.un;lia
def tNil:TA:=fun _ H Q=>Q [] H
def jPu(ta:TE)(tr:TA):TA:=fun Z H Q=>ta Z H fun x H1=>tr Z H1 fun xs H2=>Q (x::xs) H2
section
variable {X:Cx}{e:Expr}{es:List Expr}{te:TE}{t:TA}{pos:Pos}
def jht:PA X [] tNil:=fun _ _ _ _ H Q I h=>Calls.spliced_nil ⟨[],H,I,.nil,h⟩
def jet(ha:PE X e te)(hr:PA X es t)(hs:zsE e es X.env):PA X (e::es) (jPu te t):=by
 intro pos U s Z H Q I h;rw[hs];exact Calls.spliced_cons (thn (ha _ s Z H _ I h) fun u s1 ⟨x,H1,I1,r1,q1⟩=>(thn (hr pos _ s1 Z H1 _ I1 q1) fun us s2 ⟨xs,H2,I2,r2,q2⟩=>⟨_,H2,I2,.cons r1 r2,q2⟩))
def tTup(t:TA):TE:=fun Z H Q=>t Z H fun xs H1=>xs.length<=sizeLine/\∀ p,H1 p=none->Q (.ref p) (upd H1 p (.tup xs))
def tLst(t:TA):TE:=fun Z H Q=>t Z H fun xs H1=>xs.length<=sizeLine/\∀ p,H1 p=none->Q (.ref p) (upd H1 p (.lst xs))
def jGa(h:PA X es t):PE X (.Tuple es x1 pos) (tTup t):=by
 intro U s Z H Q I hq;refine wpAny_Tuple_spliced (thn (h pos _ s Z H _ I hq) fun us s1 ⟨xs,H1,I1,r,z,q⟩=>⟨by rw[<- r.length];exact z,?_⟩);refine⟨.ref _,_,I1.laid (fun b u e=>zaz _ e) (zac _) ?_,rfl,q _ (I1.hok.fresh (zac _))⟩;exact⟨z,us,r,⟨_,zbz _ rfl,rfl,_,rfl⟩⟩
def jp9(h:PA X es t):PE X (.List es pos) (tLst t):=by
 intro U s Z H Q I hq;refine wpAny_List_spliced (thn (h pos _ s Z H _ I hq) fun us s1 ⟨xs,H1,I1,r,z,q⟩=>⟨by rw[<- r.length];exact z,?_⟩);refine⟨.ref _,_,I1.laid (fun b u e=>zaz _ e) (zac _) ?_,rfl,q _ (I1.hok.fresh (zac _))⟩;exact⟨z,us,0,r,zbz _ rfl⟩
end
abbrev Sp:=List V->Hp->VK->XK->Prop
abbrev CXT:=List Env->Hp->Shared->XK->qc
structure Env0(P:Program)(w:World)(K:W.Frag)(mg:qa)(base:Heap)(A:Around)(outer:List Env)(s:Shared)(H:Hp):Prop where
 frames:A.frames=some outer
 mod:Mod K mg base
 bs:∀ b o,base.get? b=some o->s.heap.get? b=some o/\H b=none
 bsz:base.objs.size<=s.heap.objs.size
 funs:s.heap.FunFrames base outer
 frf:∀ b∈frs outer,H b=none
 hok:HOk P w H s.heap
 bare:AllBare s.gens
def CE(outer:List Env)(P:Program)(w:World)(H:Hp)(s:Shared)(Q:VK)(u:Value)(s':Shared):Prop :=
 ∃ v H',s'.os=s.os/\AllBare s'.gens/\Un (frs outer) [] H H' s.heap s'.heap/\HOk P w H' s'.heap/\RelV v u/\Q v H'
def CR(CX:CXT)(outer:List Env)(P:Program)(w:World)(H:Hp)(s:Shared)(Q:VK)(E:XK)(r:Result)(s':Shared):Prop :=
 match r with
 | .ok (.ret u)=>CE outer P w H s Q u s'
 | .ok _=>False
 | .error e=>CX outer H s E e s'
structure FnOk(P:Program)(w:World)(K:W.Frag)(mg:qa)(base:Heap)(CX:CXT)(k:Nat)(f:Addr)(fd:FuncData)(ps:List Str)(sp:Sp):Prop where
 len:∀ vs H Q E,sp vs H Q E->vs.length=ps.length
 run:∀ (A:Around) (outer:List Env) (s:Shared) (H:Hp) (args:Args) (us:List Value) (vs:List V) (Q:VK) (E:XK),Room k A->Env0 P w K mg base A outer s H->BindsTo s fd args (ps.zip us)->Vals vs us->sp vs H Q E ->
  codeAny (model P w) A (.call (.ref f) args) (CR CX outer P w H s Q E) s
def FnOk.imp{K:W.Frag}(F:FnOk P w K mg base CX k f fd ps sp)
  (h:∀ vs H Q E,sp' vs H Q E->sp vs H Q E):FnOk P w K mg base CX k f fd ps sp' :=
 ⟨fun vs H Q E q=>F.len vs H Q E (h _ _ _ _ q),fun A outer s H args us vs Q E hr he hb hv hs=>F.run A _ s H _ us vs Q E hr he hb hv (h _ _ _ _ hs)⟩
def Env0.make{K:W.Frag}(e:Env0 P w K mg base A outer s H)(C:Addr)(us:List Value)(kw:List (Str×Value)) :
  Env0 P w K mg base (A.under (.builtin "type.__call__" ⟨.ref C::us,kw⟩)) outer s H:=⟨by first|exact e.frames|(simpa[pushEnvs] using e.frames),e.mod,e.bs,e.bsz,e.funs,e.frf,e.hok,e.bare⟩
section
variable {X:Cx}{U:qb}{Z:St}{H:Hp}{s s':Shared}
def Inv.env0(I:Inv X U Z H s):Env0 X.prog X.w X.K X.mg X.base X.A X.stack s H :=
 ⟨I.ok.frames,I.ok.mod,I.bs,zdz I.ok.bsz I.sz,I.stack,I.stkFree,I.hok,I.bare⟩
def Inv.after(I:Inv X U Z H s)(h:CE X.stack X.prog X.w H s Q u s'):EP X U Z Q u s':=by
 obtain⟨v,H',os,bare,un,hok,r,q⟩:=h;obtain⟨hh,g,d,t,os'⟩:=s';obtain rfl:os'=s.os:=os;exact⟨v,H',I.call un hok bare (fun b z=>absurd z (by simp)),r,q⟩
end
def jSb(sp:Sp)(dvs:List V)(E:XK)(t:TA):TE:=fun Z H Q=>t Z H fun vs H1=>sp (vs++dvs) H1 Q E
def jPx(C:Addr)(m:Str)(sp:Sp)(dvs:List V)(E:XK)(ta:TE)(t:TA):TE:=fun Z H Q=>ta Z H fun x H1=>∃ a dx fs,x=.ref a/\H1 a=some (.ins C dx fs)/\fs.lookup m=none /\
 t Z H1 fun vs H2=>sp (x::(vs++dvs)) H2 Q E
def jSd(C:Addr)(sp:Sp)(dvs:List V)(E:XK)(t:TA):TE:=fun Z H Q=>t Z H fun vs H1=>∀ x dx,H1 x=none->H1 dx=none->dx≠x ->
 sp (.ref x::(vs++dvs)) (upd (upd H1 dx (.own x)) x (.ins C dx [])) (fun v H2=>v=.non/\Q (.ref x) H2) E
def Binds(K:W.Frag)(fd:FuncData)(ps:List Str)(ds:List Value):Prop :=
 ∀ (s:Shared) (us:List Value),K.In s.heap->(us++ds).length=ps.length->BindsTo s fd ⟨us,[]⟩ (ps.zip (us++ds))
def Binds.all{K:W.Frag}(h:∀ us:List Value,us.length=ps.length->bindArgs fd ⟨us,[]⟩=pure (ps.zip us)):Binds K fd ps []:=fun s us _ hl=>by
 rw[List.append_nil] at hl |-
 exact .of_eq (h us hl)
def jmq(CX:CXT)(X:Cx)(E:XK):Prop:=∀ (U:qb) (Z:St) (H:Hp) (s:Shared) (e:Value) (s':Shared),Inv X U Z H s->CX X.stack H s E e s'->X.xe e s'
section
variable {X:Cx}{CX:CXT}{k:Nat}{f C:Addr}{fd:FuncData}{ps:List Str}{sp:Sp}{dvs:List V}{ds:List Value}{E:XK}{x m:Str}{p pos apos:Pos}{e o:Expr}{es:List Expr}{ta:TE}{t:TA}
def jz6(F:FnOk X.prog X.w X.K X.mg X.base CX k f fd ps sp)(hr:Room k X.A)(hb:Binds X.K fd ps ds)(hd:Vals dvs ds)(hx:jmq CX X E)
  (I:Inv X U Z H s) (r:Vals vs us) (h:sp (vs++dvs) H Q E):wpAny (model X.prog X.w) X.A (call (.ref f) us) (EP X U Z Q) X.xe s:=by
 have r2:=r.append hd;refine wpAny_call (codeAny_mono (F.run X.A _ s H _ _ _ Q E hr I.env0 (hb s us I.kIn (by rw[<- r2.length];exact F.len _ _ _ _ h)) r2 h) fun r s' hq=>?_)
 cases r with
 | error e=>exact hx _ Z H s e s' I hq
 | ok fl =>
  cases fl with
  | ret u=>exact I.after hq
  | next=>exact False.elim hq
  | brk=>exact False.elim hq
  | cont=>exact False.elim hq
def jsa(F:FnOk X.prog X.w X.K X.mg X.base CX k f fd ps sp)(hr:Room k X.A)(hg:Gl X x)(hm:X.mg x=some (.ref f))(hk:W.keepIn X.K (.ref f)=true)(hb:Binds X.K fd ps ds)(hd:Vals dvs ds)(hx:jmq CX X E)
  (ha:PA X (e::es) t) (hdb:(x == ("__debug__":Str))=false) (he:zsE e es X.env) (hpl:zbT pos es X.env) :
  PE X (.Call (.Name x p) (e::es) [] pos) (jSb sp dvs E t):=fun U s Z H Q I h=>wpAny_Call_Name_kw (jrs I hg hm (W.callWith_K I.ok.mod.kin hk (thn (ha pos _ s Z H _ I h) fun us s1 ⟨vs,H1,I1,r,q⟩=>⟨I1.kIn,(jz6 F hr hb hd hx I1 r q)⟩) he hpl) hdb)
def jKa(he:PE X o ta)(c:Cls X.K C)(hm:Meth X.K C m f)(F:FnOk X.prog X.w X.K X.mg X.base CX k f fd ps sp)(hr:Room k X.A)(hb:Binds X.K fd ps ds)(hd:Vals dvs ds)(hx:jmq CX X E)(ha:PA X (e::es) t)
  (hst:zsE e es X.env) (hpl:zbT pos es X.env)
  (ht:eval (.Call (.Attribute o m apos) (e::es) [] pos) X.env=(do
   let ov <- eval o X.env
   standAt apos.atName
   let (f,first) <- holding [ov] (getMethod ov m pl)
   callWith pos f first (backTo pos (starEach (e::es) X.env)) (backToKw pos (keywordEach [] X.env)))) :
  PE X (.Call (.Attribute o m apos) (e::es) [] pos) (jPx C m sp dvs E ta t):=by
 intro U s Z H Q I h;refine W.methodCall_KW (thn (he _ s Z H _ I h) fun u s1 hzz=>?_) ht;obtain⟨x,H1,I1,rx,a,dx,fs,ex,ea,l,q⟩:=hzz;subst ex;obtain rfl:u=Value.ref a:=rx;exact jmv I1 ea c hm l (W.callWith_K I.ok.mod.kin hm.kp (thn (ha pos _ s1 Z H1 _ I1 q) fun us s2 ⟨vs,H2,I2,r,q2⟩=>⟨I2.kIn,(jz6 (vs:=.ref a::vs) F hr hb hd hx I2 (.cons rfl r) q2)⟩) hst hpl)
def jDm(he:PE X o ta)(c:Cls X.K C)(hm:Meth X.K C m f)(F:FnOk X.prog X.w X.K X.mg X.base CX k f fd ps sp)(hr:Room k X.A)(hb:Binds X.K fd ps ds)(hd:Vals dvs ds)(hx:jmq CX X E)
  (ht:eval (.Call (.Attribute o m apos) [] [] pos) X.env=(do
   let ov <- eval o X.env
   standAt apos.atName
   let (f,first) <- holding [ov] (getMethod ov m pl)
   callWith pos f first (backTo pos (starEach [] X.env)) (backToKw pos (keywordEach [] X.env)))) :
  PE X (.Call (.Attribute o m apos) [] [] pos) (jPx C m sp dvs E ta tNil):=by
 intro U s Z H Q I h;refine W.methodCall_KW (thn (he _ s Z H _ I h) fun u s1 hzz=>?_) ht;obtain⟨x,H1,I1,rx,a,dx,fs,ex,ea,l,q⟩:=hzz;subst ex;obtain rfl:u=Value.ref a:=rx;exact jmv I1 ea c hm l (W.callWith_K0 I1.kIn hm.kp (jz6 (vs:=[.ref a]) F hr hb hd hx I1 (.cons rfl .nil) q))
structure Mk(K:W.Frag)(C f:Addr):Prop where
 makes:W.makesIn K C=true
 init:W.findIn K (.ref C) "__init__"=some (some (.ref f))
 fn:W.isFn K (.ref f)=true
 kp:W.keepIn K (.ref C)=true
def jD4{U:qb}{Z:St}{H:Hp}{s:Shared}{Q:VK}{us:List Value}{vs:List V}(M:Mk X.K C f)(F:FnOk X.prog X.w X.K X.mg X.base CX k f fd ps sp)(hr:Room (k+1) X.A)(hb:Binds X.K fd ps ds)(hd:Vals dvs ds)
  (hx:jmq CX X E) (I:Inv X U Z H s) (r:Vals vs us)
  (h:∀ x dx,H x=none->H dx=none->dx≠x->sp (.ref x::(vs++dvs)) (upd (upd H dx (.own x)) x (.ins C dx [])) (fun v H2=>v=.non/\Q (.ref x) H2) E) :
  wpAny (model X.prog X.w) X.A (call (.ref C) us) (EP X U Z Q) X.xe s:=by
 have hq:=h _ _ (I.hok.fresh (Nat.le_succ _)) (I.hok.fresh (zac _)) (zcw (Nat.lt_succ_self _));have I2:=Inv.made (C:=C) I;have r2:Vals (V.ref (s.heap.objs.size+1)::(vs++dvs)) _:=.cons rfl (r.append hd);have hl:=by
  have e:=r2.length;rw[F.len _ _ _ _ hq] at e;exact e.symm
 refine wpAny_call (jCz I.kIn M.makes M.init (beq_iff_eq.mp M.fn) (codeAny_mono (F.run _ _ _ _ _ _ _ _ E (hr.make C us [])
  (I2.env0.make C us []) (hb _ _ I2.kIn hl) r2 hq) fun r s' hq'=>?_))
 cases r with
 | error e=>exact hx _ Z _ _ e s' I2 hq'
 | ok fl =>
  cases fl with
  | ret u =>
   obtain⟨v,H',I3,rv,ev,q3⟩:=I2.after hq';subst ev;exact⟨rv,⟨V.ref _,H',I3,rfl,q3⟩⟩
  | next=>exact False.elim hq'
  | brk=>exact False.elim hq'
  | cont=>exact False.elim hq'
def jJ9(M:Mk X.K C f)(F:FnOk X.prog X.w X.K X.mg X.base CX k f fd ps sp)(hr:Room (k+1) X.A)(hg:Gl X x)(hm:X.mg x=some (.ref C))(hb:Binds X.K fd ps ds)(hd:Vals dvs ds)(hx:jmq CX X E)
  (ha:PA X (e::es) t) (hdb:(x == ("__debug__":Str))=false) (he:zsE e es X.env) (hpl:zbT pos es X.env) :
  PE X (.Call (.Name x p) (e::es) [] pos) (jSd C sp dvs E t):=fun U s Z H Q I h=>wpAny_Call_Name_kw (jrs I hg hm (W.callWith_K I.ok.mod.kin M.kp (thn (ha pos _ s Z H _ I h) fun us s1 ⟨vs,H1,I1,r,q⟩=>⟨I1.kIn,(jD4 M F hr hb hd hx I1 r q)⟩) he hpl) hdb)
end
structure FnScope(N P:List Str)(sc:Scope):Prop where
 kind:sc.kind=.function
 co:sc.isCoroutine=false
 gen:sc.isGenerator=false
 nd:N.Nodup
 pre:N.take P.length=P
 par:∀ x∈P,sc.names.lookup x=some .local\/sc.names.lookup x=some .cell
 nofree:∀ y∈sc.names,y.2≠.free
theorem joz{kindOf:Str->Option NameKind}:∀ {binds:List (Str×Value)} {m:qa},(∀ v,(x,v)∉binds)->bindL kindOf binds m x=m x
 | [],_,_=>rfl
 | (n,v)::r,m,h=>by
  unfold bindL;rw[joz fun w hw=>h w (zaw _ hw)]
  split<;>grind
theorem jox{kindOf:Str->Option NameKind}:∀ {binds:List (Str×Value)} {m:qa},(∀ v,(x,v)∉binds)->bindC kindOf binds m x=m x
 | [],_,_=>rfl
 | (n,v)::r,m,h=>by
  unfold bindC;rw[jox fun w hw=>h w (zaw _ hw)]
  split<;>grind
theorem joy{kindOf:Str->Option NameKind}{x:Str}{v:Value}:∀ {P:List Str} {vs:List Value} {i:Nat} {m:qa},P.Nodup->P[i]? = some x->vs[i]? = some v->kindOf x=some .local ->
  bindL kindOf (P.zip vs) m x=some v
 | [],_,_,_,_,h,_,_=>by simp at h
 | _::_,[],_,_,_,_,h,_=>by simp at h
 | p::P,w::vs,0,m,nd,h1,h2,hk=>by
  simp at h1 h2;subst h1;subst h2
  show bindL _ ((p,w)::P.zip vs) m p=_;unfold bindL;rw[joz fun v hv=>(List.nodup_cons.mp nd).1 (zca hv).1,if_pos hk];simp
 | p::P,w::vs,i+1,m,nd,h1,h2,hk=>by
  unfold bindL;exact joy (List.nodup_cons.mp nd).2 (by simpa using h1) (by simpa using h2) hk
theorem jow{kindOf:Str->Option NameKind}{x:Str}{v:Value}:∀ {P:List Str} {vs:List Value} {i:Nat} {m:qa},P.Nodup->P[i]? = some x->vs[i]? = some v->kindOf x≠some .local ->
  bindC kindOf (P.zip vs) m x=some v
 | [],_,_,_,_,h,_,_=>by simp at h
 | _::_,[],_,_,_,_,h,_=>by simp at h
 | p::P,w::vs,0,m,nd,h1,h2,hk=>by
  simp at h1 h2;subst h1;subst h2
  show bindC _ ((p,w)::P.zip vs) m p=_;unfold bindC;rw[jox fun v hv=>(List.nodup_cons.mp nd).1 (zca hv).1,if_neg hk];simp
 | p::P,w::vs,i+1,m,nd,h1,h2,hk=>by
  unfold bindC;exact jow (List.nodup_cons.mp nd).2 (by simpa using h1) (by simpa using h2) hk
def start(N:List Str)(vs:List V):St:=vs.map some++List.replicate (N.length-vs.length) none
noncomputable def cxOf(CX:CXT)(P:Program)(w:World)(K:W.Frag)(mg:qa)(base:Heap)(N:List Str)(qual:Str)(scope:Scope)(f:Addr)(cd:Value)(A:Around)(outer:List Env)(s:Shared)(H:Hp)(E:XK):Cx where
 prog:=P
 w:=w
 K:=K
 mg:=mg
 base:=base
 A:=A.deeper (envOfC qual scope s.heap.objs.size f cd)
 N:=N
 s₀:=s
 Hz:=H
 env:=envOfC qual scope s.heap.objs.size f cd
 outer:=outer
 stack:=envOfC qual scope s.heap.objs.size f cd::outer
 ex:=[]
 calm:=true
 fn:=fun _=>true
 pn:=[]
 xe:=fun e s'=>wpAny (model P w) (A.deeper (envOfC qual scope s.heap.objs.size f cd)) (leaving (envOfC qual scope s.heap.objs.size f cd) e) (fun _ s''=>CX outer H s E e s'') (fun e' s''=>CX outer H s E e' s'') s'
def js0{sc:Scope}(h:sc.names.lookup x=some .cell):∃ c,(cellsFrom n sc.names []).lookup x=some c:=Option.isSome_iff_exists.mp (W.cellsFrom_some _ n [] (.inl h))
def jxu{K:W.Frag}
  (S:FnScope N ps scope) (hd:A.handled=none) (e0:Env0 P w K mg base A outer s H) (hl:vs.length=ps.length) (r:Vals vs us)
  (x:InCallC s s.heap.objs.size (bindL (envOfC qual scope s.heap.objs.size f cd).kindOf (ps.zip us) fun _=>none) (cellsFrom (s.heap.objs.size+1) scope.names []) (bindC (envOfC qual scope s.heap.objs.size f cd).kindOf (ps.zip us) fun _=>none) s1) :
  Inv (cxOf CX P w K mg base N qual scope f cd A outer s H E) [] (start N vs) H s1:=by
 have hpl:=by have:=congrArg List.length S.pre;rw[List.length_take] at this;omega
 obtain⟨h1,tk,rfl,hk⟩:=x.done;have noA:∀ b,b∉(cxOf CX P w K mg base N qual scope f cd A outer s H E).ex:=fun b z=>absurd (show b∈([]) from z) (by simp)
 refine⟨⟨e0.mod,S.kind,rfl,rfl,zac _,fun y z c h1 h2=>(name_of_addr x.apart (PySem.mem_of_lookup h1) (PySem.mem_of_lookup h2)),fun y hy=>?_,fun y c _ h=>(Nat.le_of_lt (x.above y c (PySem.mem_of_lookup h))),fun _=>hd,Around.frames_deeper e0.frames,.inr ⟨rfl,rfl⟩,fun b z=>absurd z (noA b),e0.bs,e0.bsz,fun b _ _=>noA b,fun b z=>absurd z (noA b),e0.funs,e0.frf⟩,
  rfl,e0.bare,Un.kept hk,⟨_,x.toInCall.ns,fun i y v h1 h2 h3=>?_⟩,fun y c h=>⟨_,x.cell y c h⟩,e0.hok.fresh (zac _),fun y c h=>(e0.hok.fresh (Nat.le_of_lt (x.above y c (PySem.mem_of_lookup h)))),fun p hp=>absurd (show p∈([]) from hp) (by simp),e0.hok.kept hk,?_⟩
 .rcases hy with hy|hy
  .exact js0 hy
  .exact absurd rfl (S.nofree _ (PySem.mem_of_lookup hy))
 .have hi:i<vs.length:=by
   unfold start at h2
   by_cases hi:i<vs.length
   .exact hi
   .grind
  have ha:vs[i]? = some v:=by
   unfold start at h2;rw[List.getElem?_append_left (by grind),zba] at h2
   cases e:vs[i]? with
   | none=>grind
   | some a=>grind
  obtain⟨u,hu,rv⟩:=r.get ha;have hp:ps[i]? = some y:=by
   rw[<- S.pre,List.getElem?_take_of_lt (by lia)];exact h1
  have ndP:ps.Nodup:=by rw[<- S.pre];exact S.nd.sublist (List.take_sublist _ _)
  refine⟨u,rv,?_⟩;rcases S.par y (List.mem_of_getElem? hp) with k|k
  .exact .inl ⟨k,joy ndP hp hu k⟩
  .obtain⟨c,e⟩:=js0 k;refine .inr ⟨.inl k,c,e,?_⟩;have q:=x.cell y c e;rw[jow ndP hp hu (by show scope.names.lookup y≠_;grind)] at q;exact q
 .unfold start;show _=N.length
  grind
def jQ7{K:W.Frag}{dV kV doc pm cdv ct oc:Value}
  (lk:K.lookup f=some ⟨oc,od,.func (W.fnOf name qual params body scope dV kV doc pm an cdv ct),osl⟩) (hcd:W.codeIn K cdv qual=true) (S:FnScope N ps scope)
  (len:∀ vs H Q E,sp vs H Q E->vs.length=ps.length)
  (hbody:∀ (A:Around) (outer:List Env) (s:Shared) (H:Hp) (vs:List V) (Q:VK) (E:XK),Room k (A.deeper (envOfC qual scope s.heap.objs.size f cdv))->sp vs H Q E ->
   ∃ t,PSs (cxOf CX P w K mg base N qual scope f cdv A outer s H E) body t/\t { nx:=fun _ H'=>Q .non H',rt:=Q } (start N vs) H) :
  FnOk P w K mg base CX (k+1) f (W.fnOf name qual params body scope dV kV doc pm an cdv ct) ps sp:=by
 refine⟨len,fun A outer s H args us vs Q E hr e0 hb r hsp=>?_⟩;have KX:=e0.mod.kin.keeps fun b o e=>(e0.bs b o e).1
 have hkind:∀ y∈ps.zip us,scope.names.lookup y.1=some _\/(scope.names.lookup y.1=some _/\((cellsFrom (s.heap.objs.size+1) _ []).lookup y.1).isSome=true):=fun ⟨n,v⟩ hy=>by
  rcases S.par n (zca hy).1 with q|q
  .exact .inl q
  .exact .inr ⟨q,W.cellsFrom_some _ _ _ (.inl q)⟩
 refine codeAny_call_function hr.depth (KX _ _ lk) rfl S.co S.gen rfl (W.codeRec_of KX hcd) (hb _ _ _ _ ?_);refine wpAny_newFunctionEnv_cells S.kind hkind fun env he s1 x=>?_
 subst he;refine⟨(e0.mod.nolimit.keeps fun b o e=>(e0.bs b o e).1).keeps x.toInCall.keep,codeAny_func ?_⟩;obtain⟨t,ht,hq⟩:=hbody A _ s H vs Q E (hr.deeper _) hsp;refine wpAny_mono (ht [] s1 _ H _ (jxu S hr.hd e0 (len _ _ _ _ hsp) r x) hq) (fun fl s' hs=>?_) fun e s' hs=>hs
 have fin:∀ {Z':St} {H':Hp} {v:V} {u:Value},Inv (cxOf CX P w K mg base N qual scope f cdv A _ s H E) [] Z' H' s'->RelV v u->Q v H'->CE outer P w H s Q u s' :=
  fun {Z' H' v u} Jq rv q=>⟨v,H',Jq.os,Jq.bare,Jq.base,Jq.hok,rv,q⟩
 cases fl with
 | ret u =>
  obtain⟨v,Z',H',Jq,rv,q⟩:=hs;exact fin Jq rv q
 | next =>
  obtain⟨Z',H',Jq,q⟩:=hs;exact fin (v:=V.non) Jq rfl q
 | brk =>
  obtain⟨_,_,_,q⟩:=hs;exact False.elim q
 | cont =>
  obtain⟨_,_,_,q⟩:=hs;exact False.elim q
section
variable {X:Cx}{x:Str}{p pos:Pos}{e:Expr}{es:List Expr}{t:TA}{id T:String}{r:List V->Hp->VK->Prop}
def tCB(r:List V->Hp->VK->Prop)(t:TA):TE:=fun Z H Q=>t Z H fun vs H1=>r vs H1 Q
def job(hc:CallR X (.builtin id) r)(hg:Gl X x)(hm:X.mg x=none)(hv:bootBuiltins x=some (.builtin id))(ha:PA X (e::es) t)(hn:x≠"__name__")(hdb:(x == ("__debug__":Str))=false)
  (he:zsE e es X.env) (hpl:zbT pos es X.env):PE X (.Call (.Name x p) (e::es) [] pos) (tCB r t):=fun U s Z H Q I h=>wpAny_Call_Name_kw (jj5 I hg hm hv (PyProof.Rows.callWith_builtin1 (thn (ha pos _ s Z H _ I h) fun us s1 ⟨vs,H1,I1,r1,q1⟩=>hc _ s1 Z H1 vs us Q I1 r1 q1) he hpl) hn hdb)
def jl0(hc:CallR X (.type T) r)(hg:Gl X x)(hm:X.mg x=none)(hv:bootBuiltins x=some (.type T))(ha:PA X (e::es) t)(hn:x≠"__name__")(hdb:(x == ("__debug__":Str))=false)
  (he:zsE e es X.env) (hpl:zbT pos es X.env):PE X (.Call (.Name x p) (e::es) [] pos) (tCB r t):=fun U s Z H Q I h=>wpAny_Call_Name_kw (jj5 I hg hm hv (PyProof.Rows.callWith_type1 (thn (ha pos _ s Z H _ I h) fun us s1 ⟨vs,H1,I1,r1,q1⟩=>hc _ s1 Z H1 vs us Q I1 r1 q1) he hpl) hn hdb)
end
end L2
namespace HT
open PySem PyProof.Rows
section
open PySem.SeqAt
open PySem.AutoSeq1 (wpAny_loadPart')
open PySem.MeetsSeq PySem.MeetsSeq2 PySem.MeetsSeq3
end
section
variable {prog:Program}{w:World}{A:Around}{E:qc}{s:Shared}
def cat_tup{t b:Addr}{vs ws:List Value}{Q:qc}(ht:IsTup s.heap t vs.toArray)(hb:IsTup s.heap b ws.toArray)(hv:vs≠[])
  (h1:ws=[]->Q (.ref t) s) (h2:ws≠[]->Q (.ref s.heap.objs.size) { s with heap:=s.heap.push { cls:=.type "tuple",data:=.seq (vs++ws).toArray } })
  (hsz:vs.length+ws.length<=sizeLine):wpAny (model prog w) A (binaryOp .Add (.ref t) (.ref b)) Q E s:=by
 obtain⟨⟨cls,dd,data,sl⟩,ho,hc,n,hd⟩:=id ht;obtain⟨⟨cls2,dd2,data2,sl2⟩,ho2,hc2,n2,hd2⟩:=id hb;subst hc hd hc2 hd2;have e:vs.toArray++ws.toArray=(vs++ws).toArray:=by simp
 by_cases hw:ws=[]
 .exact concat_meets ⟨_,ho,rfl⟩ ⟨_,ho2,rfl⟩ noFill_tuple_add seq_tuple_add PySem.F.slot_tuple_add PySem.F.entry_tuple_add (PySem.F.args_tuple_add_2 _ _)
   (tuple_addW1 t b _ _ n n2 dd dd2 sl sl2 (by simpa using hv) (by simp[hw])) ⟨ho,ho2,h1 hw⟩
 .refine concat_meets ⟨_,ho,rfl⟩ ⟨_,ho2,rfl⟩ noFill_tuple_add seq_tuple_add PySem.F.slot_tuple_add PySem.F.entry_tuple_add (PySem.F.args_tuple_add_2 _ _)
   (tuple_addW2 t b _ _ n n2 dd dd2 sl sl2 (by simpa using hv) (by grind) (hsz)) ⟨ho,ho2,?_⟩
  grind
def sIx(n d:Nat):Option Int->Nat
 | none=>d
 | some v=>if v<0 then (v+(n:Int)).toNat else min v.toNat n
theorem sIx_none(n d:Nat):sIx n d none=d:=rfl
theorem sIx_nat(n d k:Nat):sIx n d (some (k:Int))=min k n:=by
 show (if (k)<0 then ((k)+(n:Int)).toNat else min _ n)=min k n
 grind
def jwy(v:Int)(n d:Nat):(if v<0 then max (v+(n:Int)) 0 else min v (n:Int))=((sIx n d (some v):Nat):Int):=by
 show (if v<0 then max _ 0 else min v _)=(((if v<0 then (v+(n)).toNat else min _ n)))
 grind
def juu(lo hi:Option Int)(n:Nat):Builtin.Slice.sliceAdjust lo hi 1 (n:Int)=(((sIx n 0 lo:Nat):Int),((sIx n n hi:Nat):Int)):=by
 refine Prod.ext ?_ ?_
 .cases lo with
  | none=>rfl
  | some v=>exact jwy v n 0
 .cases hi with
  | none=>rfl
  | some v=>exact jwy v n n
def jvm(i j:Nat):Builtin.Slice.slicePlaces (i:Int) (j:Int) 1=j-i:=by
 unfold Builtin.Slice.slicePlaces
 split<;>lia
def jm7{v:Value}{o:Option Int}{Q:Option Int->Shared->Prop}(p:IsPart v o)(h:Q o s):wpAny (model prog w) A (Builtin.Slice.slicePartIndex v) Q E s:=by
 cases p<;>simp_all [slicePart_none,slicePart_int]
def jkj{sl:Addr}{vl vu:Value}{lo hi:Option Int}{n:Nat}{Q:Int×Int×Nat->Shared->Prop}(hs:s.heap.IsSliceOf sl vl vu .none)(pl:IsPart vl lo)(pu:IsPart vu hi)
  (h:Q (((sIx n 0 lo:Nat):Int),1,sIx n n hi-sIx n 0 lo) s):wpAny (model prog w) A (Builtin.Slice.sliceApplied (.ref sl) (pure (n:Int))) Q E s:=by
 obtain⟨os,hos,hcs,hds⟩:=id hs;refine zay (zay (wpAny_field hos hds rfl (zay (wpAny_field hos hds rfl (zay (wpAny_field hos hds rfl (zab ?_)))))));refine zay (slicePart_none ?_);refine zay (jm7 pl (zay (jm7 pu (zay (zab ?_)))));show wpAny _ _ (match Builtin.Slice.sliceAdjust lo hi 1 _ with|(lo,hi)=>pure (lo,(1:Int),Builtin.Slice.slicePlaces lo hi 1)) _ _ s;rw[juu lo hi n];show wpAny _ _ (pure _) _ _ s;rw[jvm];exact zab h
def jDq(xs:Array Value)(i k:Nat):((List.range k).filterMap fun (m:Nat)=>xs[((i:Int)+(m:Int)*1).toNat]?).toArray=((xs.toList.drop i).take k).toArray:=by
 have e:(fun (m:Nat)=>xs[((i)+(m:Int)*1).toNat]?)=fun m=>xs[i+m]?:=by
  funext m
  have:((i)+(m:Int)*1).toNat=i+m:=by lia
  rw[this]
 rw[e];have:=pick_run xs i k;rw[List.filterMap_map] at this;have e2:((fun x=>xs[x]?) ∘ fun x=>i+x)=fun m=>xs[i+m]?:=rfl
 grind
def getItem_tuple_cut{t sl:Addr}{items:Array Value}{vl vu:Value}{lo hi:Option Int}{Q:qc}(ht:IsTup s.heap t items)(hs:s.heap.IsSliceOf sl vl vu .none)(pl:IsPart vl lo)(pu:IsPart vu hi)
  (hw:¬ (sIx items.size 0 lo=0/\sIx items.size items.size hi=items.size))
  (h:Q (.ref s.heap.objs.size) { s with heap:=s.heap.push { cls:=.type "tuple",data:=.seq ((items.toList.drop (sIx items.size 0 lo)).take (sIx items.size items.size hi-sIx items.size 0 lo)).toArray } })
  (hsz:items.size<=sizeLine):wpAny (model prog w) A (getItem (.ref t) (.ref sl)) Q E s:=by
 have htake:=by
  show ((items.toList.drop (sIx items.size 0 lo)).take (sIx items.size items.size hi-sIx items.size 0 lo)).toArray.size<=sizeLine;rw[zbx,List.length_take,List.length_drop,Array.length_toList]
  lia
 obtain⟨os,hos,hcs,hds⟩:=id hs;unfold getItem
 try with_reducible refine wpAny_holding ?_
 refine zay (wpAny_sequenceKey ht.typeIs rfl ?_);refine zay (wpAny_callSpecial?_slot ht.typeIs PyProof.Rows.slot_tuple_getitem
  (wpAny_call_entry PyProof.Rows.slot_tuple_getitem ht.typeIs entry_tuple_getitem ?_ (args_tuple_getitem _ _)))
 show wpAny _ _ (Builtin.Tuple.tupleItemsOf _ >>= _) _ _ s;refine zay (tupleItemsOf_ ht ?_);refine zay (wpAny_typeOf (⟨os,hos,hcs⟩) ?_);refine zay (jkj hs pl pu ?_);have hno:¬ ((((sIx items.size 0 lo):Int) == 0&&(1:Int) == 1&&(sIx items.size items.size hi-sIx items.size 0 lo) == items.size)=true):=by
  intro q;rw[Bool.and_eq_true,Bool.and_eq_true] at q;have q1:=eq_of_beq q.1.1;have q2:=eq_of_beq q.2;exact hw ⟨by lia,by lia⟩
 show wpAny _ _ (if (((sIx _ 0 lo):Int) == 0&&(1) == 1&&(sIx items.size items.size hi-sIx items.size 0 lo) == items.size)=true then _ else _) _ _ s;rw[if_neg hno,jDq]
 first
  | exact zay (wpAny_newObj_type (zab ⟨_,rfl,zab h⟩) htake)
  | exact zay _
  | exact zay _
  | exact zay _
end
end HT
namespace L2
open PyProof.Rows
abbrev TO:=St->Hp->(Option Int->Hp->Prop)->Prop
def PO(X:Cx)(e:Option Expr)(t:TO):Prop :=
 ∀ (U:qb) (s:Shared) (Z:St) (H:Hp) (Q:Option Int->Hp->Prop),Inv X U Z H s->t Z H Q ->
  wpAny (model X.prog X.w) X.A (evalPart e X.env) (fun u s'=>∃ o H',Inv X U Z H' s'/\IsPart u o/\Q o H') X.xe s
def jLc:TO:=fun _ H Q=>Q none H
def jSg(t:TE):TO:=fun Z H Q=>t Z H fun x H1=>∃ i,x=.int i/\Q (some i) H1
section
variable {X:Cx}{e:Expr}{te:TE}{lo hi:Option Expr}{tl th:TO}{pos p2:Pos}
def jKe:PO X none jLc:=fun U s Z H Q I h=>zab ⟨_,H,I,.none,h⟩
def jKf(h:PE X e te):PO X (some e) (jSg te):=by
 intro U s Z H Q I hw;refine thn (h _ s Z H _ I hw) fun u s1 hzz=>?_
 obtain⟨x,H1,I1,r1,q1⟩:=hzz;obtain⟨i,rfl,q⟩:=q1;obtain⟨t,rfl⟩:=r1;exact⟨_,H1,I1,.int i t,q⟩
def SlR(X:Cx)(r:V->Option Int->Option Int->Hp->VK->Prop):Prop :=
 ∀ (U:qb) (s:Shared) (Z:St) (H:Hp) (x:V) (v vl vu:Value) (lo hi:Option Int) (sl:Addr) (Q:VK),Inv X U Z H s->RelV x v->s.heap.IsSliceOf sl vl vu .none->IsPart vl lo->IsPart vu hi->r x lo hi H Q ->
  ∃ T id,typeLookup (.type T) "__getitem__"=pure (some (.builtin id))/\s.TypeIs v T/\wpAny (model X.prog X.w) X.A (getItem v (.ref sl)) (EP X U Z Q) X.xe s
def SlR.or(h:SlR X r)(h':SlR X r'):SlR X (fun x lo hi H Q=>r x lo hi H Q\/r' x lo hi H Q):=by
 intro U s Z H x v vl vu lo hi sl Q I rx hs pl pu q;rcases q with q|q
 .exact h _ s Z H x v vl vu lo hi sl Q I rx hs pl pu q
 .exact h' _ s Z H x v vl vu lo hi sl Q I rx hs pl pu q
def tSl(r:V->Option Int->Option Int->Hp->VK->Prop)(te:TE)(tl th:TO):TE:=fun Z H Q=>te Z H fun x H1=>tl Z H1 fun l H2=>th Z H2 fun u H3=>r x l u H3 Q
def jDn(hr:SlR X r)(he:PE X e te)(hl:PO X lo tl)(hu:PO X hi th):PE X (.Subscript e (.Slice lo hi none p2) pos) (tSl r te tl th):=by
 intro U s Z H Q I h;refine Subscript_ (thn (he _ s Z H _ I h) fun v s1 hzz=>?_);obtain⟨x,H1,I1,r1,q1⟩:=hzz;refine wpAny_Slice (thn (hl _ s1 Z H1 _ I1 q1) fun vl s2 ⟨l,H2,I2,pl,q2⟩=>thn (hu _ s2 Z H2 _ I2 q2) fun vu s3 hzz=>?_);obtain⟨u,H3,I3,pu,q3⟩:=hzz;refine zab ?_;obtain⟨T,id,hT,ht,hg⟩:=hr _ _ Z H3 x v vl vu l u _ Q (I3.kept fun b ob q=>zaz _ q) r1 (Heap.IsSliceOf.new ..) pl pu q3;exact tail_any ht hT hg (by with_unfolding_all rfl)
def cutV(xs:List V)(lo hi:Option Int):List V:=(xs.drop (HT.sIx xs.length 0 lo)).take (HT.sIx xs.length xs.length hi-HT.sIx xs.length 0 lo)
def jk6(xs:List V)(lo hi:Option Int):(cutV xs lo hi).length<=xs.length:=by
 grind [cutV,List.length_take,List.length_drop]
def rSlT(K:W.Frag):V->Option Int->Option Int->Hp->VK->Prop:=fun x lo hi H Q=>∃ a xs,x=.ref a/\SqT K H a xs /\
 ¬ (HT.sIx xs.length 0 lo=0/\HT.sIx xs.length xs.length hi=xs.length)/\∀ p,H p=none->Q (.ref p) (upd H p (.tup (cutV xs lo hi)))
def sl_tup:SlR X (rSlT X.K):=by
 intro U s Z H x v vl vu lo hi sl Q I rx hs pl pu h;obtain⟨a,xs,rfl,hx,hw,q⟩:=h;cases rx;obtain⟨its,r,ht,hz⟩:=I.tuple hx;have hlen:its.toArray.size=xs.length:=r.length.symm;refine⟨_,_,PyProof.Rows.slot_tuple_getitem.lookup,ht.typeIs,?_⟩;refine HT.getItem_tuple_cut ht hs pl pu (by grind) ?_ (by lia);rw[hlen];refine⟨.ref _,_,I.laid (fun b ob q=>zaz _ q) (zac _) ?_,rfl,q _ (I.hok.fresh (zac _))⟩;exact⟨zdz (jk6 xs lo hi) hz,_,(r.drop _).take _,IsTup.new _ _⟩
def jzz(K:W.Frag):R2:=fun x y H Q=>∃ a b xs ys,x=.ref a/\y=.ref b/\SqT K H a xs/\SqT K H b ys/\xs≠[]/\xs.length+ys.length<=sizeLine /\
 (ys=[]->Q (.ref a) H)/\(ys≠[]->∀ p,H p=none->Q (.ref p) (upd H p (.tup (xs++ys))))
def Vals.nil_iff(r:Vals xs us):us=[]↔xs=[]:=by
 cases r<;>grind
def jy5:OpR X (binaryOp .Add) (jzz X.K):=by
 intro U s Z H x y v u Q I rx ry h;obtain⟨a,b,xs,ys,rfl,rfl,ha,hb,hx,hz,q1,q2⟩:=h;cases rx;cases ry;obtain⟨its,r1,p1,_⟩:=I.tuple ha;obtain⟨its2,r2,p2,_⟩:=I.tuple hb;refine HT.cat_tup p1 p2 (fun z=>hx (r1.nil_iff.mp z)) (fun z=>⟨.ref a,H,I,rfl,q1 (r2.nil_iff.mp z)⟩) (fun z=>?_) (by rw[<- r1.length,<- r2.length];exact hz);refine⟨.ref _,_,I.laid (fun b ob q=>zaz _ q) (zac _) ?_,rfl,q2 (fun w=>z (r2.nil_iff.mpr w)) _ (I.hok.fresh (zac _))⟩;exact⟨by grind,_,r1.append r2,IsTup.new _ _⟩
end
def ixN(n:Nat)(i:Int):Option Nat:=if 0<=i then (if i<n then some i.toNat else none) else if -(n:Int)<=i then some (i+n).toNat else none
def atI{α:Type}(xs:List α)(i:Int):Option α:=(ixN xs.length i).bind fun j=>xs[j]?
def jxz(h:ixN n i=some j):seqIndex? i n=some j/\j<n/\-(n:Int)<=i/\i<n:=by
 unfold ixN at h
 by_cases h0:0<=i
 .rw[if_pos h0] at h
  by_cases h1:i<n
  .rw[if_pos h1] at h;have e:=zby h;exact⟨by rw[seqIndex_of h0 h1,e],by lia,by lia,h1⟩
  .rw[if_neg h1] at h;cases h
 .rw[if_neg h0] at h
  by_cases h1:-(n)<=i
  .rw[if_pos h1] at h;have e:=zby h;exact⟨by rw[seqIndex_neg (by lia) h1,e],by lia,h1,by lia⟩
  .rw[if_neg h1] at h;cases h
def atI_get(h:atI xs i=some v):∃ j,seqIndex? i xs.length=some j/\xs[j]? = some v/\j<xs.length/\-(xs.length:Int)<=i/\i<xs.length:=by
 unfold atI at h
 cases e:ixN _ i with
 | none=>rw[e] at h;cases h
 | some j =>
  rw[e] at h;obtain⟨h1,h2,h3,h4⟩:=jxz e;exact⟨j,h1,h,h2,h3,h4⟩
def ji4(b:Expr):Prop:=∀ o i,subscripted b false o i=operate [o,i] (getItem o i)
def IxR(X:Cx)(r:R2):Prop :=
 ∀ (value slice:Expr) (U:qb) (s:Shared) (Z:St) (H:Hp) (x y:V) (v u:Value) (Q:VK),Inv X U Z H s->RelV x v->RelV y u->r x y H Q ->
  subscripted slice false v u=operate [v,u] (getItem v u)->wpAny (model X.prog X.w) X.A (subscriptTail value slice v u) (EP X U Z Q) X.xe s
def MtR(X:Cx)(id:String)(r:V->List V->Hp->VK->Prop):Prop :=
 ∀ (U:qb) (s:Shared) (Z:St) (H:Hp) (x:V) (xs:List V) (v:Value) (us:List Value) (Q:VK),Inv X U Z H s->RelV x v->Vals xs us->r x xs H Q ->
  wpAny (model X.prog X.w) X.A (call (.builtin id) (v::us)) (EP X U Z Q) X.xe s
section
variable {X:Cx}{a b:Expr}{ta tb:TE}{pos:Pos}
def IxR.or(h:IxR X r)(h':IxR X r'):IxR X (fun x y H Q=>r x y H Q\/r' x y H Q):=by
 intro value slice U s Z H x y v u Q I rx ry q hs;rcases q with q|q
 .exact h _ _ _ s Z H x y v u Q I rx ry q hs
 .exact h' _ _ _ s Z H x y v u Q I rx ry q hs
def jDl(hr:IxR X r)(ha:PE X a ta)(hb:PE X b tb)(hs:ji4 b):PE X (.Subscript a b pos) (tOp r ta tb):=fun U s Z H Q I h=>Subscript_ (binT ha hb I h fun v u s2 x y H2 I2 rx ry q=>hr a b _ s2 Z H2 x y v u Q I2 rx ry q (hs _ _))
def rIxL(K:W.Frag):R2:=fun x y H Q=>∃ p xs i v,x=.ref p/\y=.int i/\SqL K H p xs/\atI xs i=some v/\Q v H
def rIxT(K:W.Frag):R2:=fun x y H Q=>∃ p xs i v,x=.ref p/\y=.int i/\SqT K H p xs/\atI xs i=some v/\Q v H
def rIxS:R2:=fun x y H Q=>∃ z i c,x=.str z/\y=.int i/\z.length<=sizeLine/\atI z.cps.toList i=some c/\Q (.str ⟨#[c]⟩) H
def ix_list:IxR X (rIxL X.K):=by
 intro value slice U s Z H x y v u Q I rx ry h hs;obtain⟨p,xs,i,z,rfl,rfl,hq,he,q⟩:=h;cases rx;obtain⟨t,rfl⟩:=ry;obtain⟨its,r,pl,hz⟩:=I.list hq;obtain⟨j,h1,h2,h3,h4,h5⟩:=atI_get he;obtain⟨w,ew,rw'⟩:=r.get h2;have hl:=r.length;have hn:=jm2;have fin:EP X _ Z Q w s:=⟨z,H,I,rw',q⟩
 by_cases h0:0<=i
 .have hj:=by
   rw[seqIndex_of h0 h5] at h1;exact zby h1
  exact item_listR pl.isList h0 (by lia) (by rw[hj];simpa using ew) fin hs
 .have hj:(i+(its.toArray.size)).toNat=j:=by
   rw[seqIndex_neg (by lia) h4] at h1;rw[zbx,<- hl];exact zby h1
  exact subscriptTail_builtinR pl.isList.typeIs slot_list_getitem.lookup
   (wpAny_getItem_list_neg pl.isList (by lia) (by grind) (by lia) (by rw[hj];simpa using ew) ⟨rfl,fin⟩) hs
def ix_tup:IxR X (rIxT X.K):=by
 intro value slice U s Z H x y v u Q I rx ry h hs;obtain⟨p,xs,i,z,rfl,rfl,hq,he,q⟩:=h;cases rx;obtain⟨t,rfl⟩:=ry;obtain⟨its,r,pl,hz⟩:=I.tuple hq;obtain⟨j,h1,h2,h3,h4,h5⟩:=atI_get he;obtain⟨w,ew,rw'⟩:=r.get h2;have hn:=jm2;exact subscriptTail_builtinR pl.typeIs slot_tuple_getitem.lookup
  (getItem_tuple pl (by lia) (by lia) (by rw[zbx,<- r.length];exact h1) (by grind) ⟨rfl,(⟨z,H,I,rw',q⟩)⟩) hs
def jNd:IxR X rIxS:=by
 intro value slice U s Z H x y v u Q I rx ry h hs;obtain⟨z,i,c,rfl,rfl,hz,he,q⟩:=h;obtain⟨t,rfl⟩:=rx;obtain⟨t',rfl⟩:=ry;obtain⟨j,h1,h2,h3,h4,h5⟩:=atI_get he;have hl:z.cps.toList.length=z.length:=by simp[Str.length]
 rw[hl] at h1 h4 h5;have hn:=jm2;exact tail_any (typeIs_str s z t) slot_str_getitem.lookup (getItem_str (by
  rw[(decide_eq_false (by lia)),(decide_eq_false (by lia)),Bool.or_false]) (by grind) ⟨.str _,H,I.tok _,⟨_,rfl⟩,q⟩) hs
def rIx(K:W.Frag):R2:=fun x y H Q=>rIxL K x y H Q\/rIxT K x y H Q\/rIxS x y H Q
def jhp:IxR X (rIx X.K):=ix_list.or (ix_tup.or jNd)
def jvg(its:List Value)(n j:Nat)(u:Value):Obj.mapSeq (·.setIfInBounds j u) { cls:=.type "list",data:=.seq its.toArray n }={ cls:=.type "list",data:=.seq (its.set j u).toArray n }:=by
 simp[Obj.mapSeq]
def Inv.lst(I:Inv X U Z H s)(h:H p=some (.lst xs)) :
  ∃ (its:List Value) (n:Nat),Vals xs its/\s.heap.get? p=some { cls:=.type "list",data:=.seq its.toArray n }/\xs.length<=sizeLine:=by
 obtain⟨z,its,n,r,e⟩:=I.hok p _ h
 grind
def Inv.lstUpd{U:qb}{Z:St}{H:Hp}{s:Shared}{p:Addr}{xs ys:List V}{its its':List Value}{n n':Nat}{f:Obj->Obj}(I:Inv X U Z H s)(h:H p=some (.lst xs))
  (ho:s.heap.get? p=some { cls:=.type "list",data:=.seq its.toArray n }) (hf:f { cls:=.type "list",data:=.seq its.toArray n }={ cls:=.type "list",data:=.seq its'.toArray n' }) (r:Vals ys its') (hz:ys.length<=sizeLine) (t:Nat) :
  Inv X U Z (upd H p (.lst ys)) { s with heap:=s.heap.update p f,toks:=t }:=by
 have e:(s.heap.update p f).get? p=some { cls:=.type "list",data:=.seq its'.toArray n' }:=by
  rw[Heap.get?_update_self f ho (by rw[hf]<;>rfl),hf]
 exact I.write (by rw[h];trivial) (.inl rfl) (fun b u hb q=>(Heap.get?_update_other _ _ (Ne.symm hb)).trans q) ⟨_,e⟩ ⟨hz,_,n',r,e⟩
def jR2:V->V->V->Hp->(Hp->Prop)->Prop:=fun o i v H Q=>∃ p xs k j,o=.ref p/\i=.int k/\H p=some (.lst xs)/\ixN xs.length k=some j/\Q (upd H p (.lst (xs.set j v)))
def jEb:PSet X jR2:=by
 intro U s Z H o i v ov iv u Q I ro ri rv h;obtain⟨p,xs,k,j,rfl,rfl,hp,hj,q⟩:=h;cases ro;obtain⟨t,rfl⟩:=ri;obtain⟨its,n,r,ho,hz⟩:=I.lst hp;obtain⟨h1,h2,h3,h4⟩:=jxz hj;have hl:=r.length;have hn:=jm2;have I' :=
  I.lstUpd hp ho (jvg its n j u) (r.set rv j) (by grind) s.toks
 by_cases h0:0<=k
 .have hk:=by
   rw[seqIndex_of h0 h4] at h1;exact zby h1
  exact W.ki_setAt ho h0 (by lia) (by grind) (by rw[hk];exact⟨_,I',q⟩)
 .have hk:(k+(its.toArray.size)).toNat=j:=by
   rw[seqIndex_neg (by lia) h3] at h1;rw[zbx,<- hl];exact zby h1
  exact W.ki_setBack ho (by lia) (by grind) (by lia) (by rw[hk];exact⟨_,I',q⟩)
def jqk(lo hi:Option Int)(n:Nat):(sliceBounds lo hi none n).1=((HT.sIx n 0 lo:Nat):Int)/\(sliceBounds lo hi none n).2.1=((HT.sIx n n hi:Nat):Int)/\(sliceBounds lo hi none n).2.2=1:=by
 refine⟨?_,?_,rfl⟩
 .cases lo with
  | none=>simp[sliceBounds,HT.sIx]
  | some i =>
   simp only[sliceBounds,HT.sIx,Option.getD_none]
   by_cases h:i<0
   .simp only[h,if_true]<;>lia
   .simp only[h,if_false]<;>lia
 .cases hi with
  | none=>simp[sliceBounds,HT.sIx]
  | some i =>
   simp only[sliceBounds,HT.sIx,Option.getD_none]
   by_cases h:i<0
   .simp only[h,if_true]<;>lia
   .simp only[h,if_false]<;>lia
def jok(its:List Value)(lo hi:Option Int):slicePick its.toArray lo hi none=((its.drop (HT.sIx its.length 0 lo)).take (HT.sIx its.length its.length hi-HT.sIx its.length 0 lo)).toArray:=by
 obtain⟨h1,h2,h3⟩:=jqk lo hi _;unfold slicePick;rw[h1,h2,h3];simp only[sliceRange_one,pick_run]<;>rfl
def rSlL(K:W.Frag):V->Option Int->Option Int->Hp->VK->Prop:=fun x lo hi H Q=>∃ a xs,x=.ref a/\SqL K H a xs/\∀ p,H p=none->Q (.ref p) (upd H p (.lst (cutV xs lo hi)))
def sl_list:SlR X (rSlL X.K):=by
 intro U s Z H x v vl vu lo hi sl Q I rx hs pl pu h;obtain⟨a,xs,rfl,hx,q⟩:=h;cases rx;obtain⟨its,r,ht,hz⟩:=I.list hx;have hlen:=r.length;refine⟨_,_,slot_list_getitem.lookup,ht.isList.typeIs,?_⟩;refine wpAny_getItem_list_slice ht.isList hs pl pu .none (by simp) ?_ (by grind);rw[jok,<- hlen];refine⟨.ref _,_,I.laid (fun b ob q=>zaz _ q) (zac _) ?_,rfl,q _ (I.hok.fresh (zac _))⟩;exact⟨zdz (jk6 xs lo hi) hz,_,0,(r.drop _).take _,zbz _ rfl⟩
def jmi:V->Bool
 | .non=>true
 | .bl _=>true
 | .int _=>true
 | .str _=>true
 | _=>false
noncomputable def eqV:V->V->Bool
 | .non,.non=>true
 | .bl a,.bl b=>a == b
 | .bl a,.int b=>(if a then 1 else 0) == b
 | .int a,.bl b=>a == (if b then 1 else 0)
 | .int a,.int b=>a == b
 | .str a,.str b=>a == b
 | _,_=>false
def jM2(ry:RelV y u)(rx:RelV x v)(fy:jmi y=true)(fx:jmi x=true):SeqAt.EqAt A s u v (eqV y x):=by
 cases y with
 | non =>
  cases ry
  cases x with
  | non=>cases rx;exact SeqAt.EqAt.same _
  | bl b=>cases rx;exact SeqAt.EqAt.none_bool b
  | int b=>obtain⟨t,rfl⟩:=rx;exact SeqAt.EqAt.none_int b t
  | str b=>obtain⟨t,rfl⟩:=rx;exact SeqAt.EqAt.none_str b t
  | _=>exact absurd (fx) Bool.false_ne_true
 | bl a =>
  cases ry
  cases x with
  | non=>cases rx;exact SeqAt.EqAt.bool_none a
  | bl b=>cases rx;exact SeqAt.EqAt.bool_bool a b
  | int b=>obtain⟨t,rfl⟩:=rx;exact SeqAt.EqAt.bool_int a b t
  | str b=>obtain⟨t,rfl⟩:=rx;exact SeqAt.EqAt.bool_str a b t
  | _=>exact absurd (fx) Bool.false_ne_true
 | int a =>
  obtain⟨t',rfl⟩:=ry
  cases x with
  | non=>cases rx;exact SeqAt.EqAt.int_none a t'
  | bl b=>cases rx;exact SeqAt.EqAt.int_bool a t' b
  | int b=>obtain⟨t,rfl⟩:=rx;exact SeqAt.EqAt.int_int a t' b t
  | str b=>obtain⟨t,rfl⟩:=rx;exact SeqAt.EqAt.int_str a t' b t
  | _=>exact absurd (fx) Bool.false_ne_true
 | str a =>
  obtain⟨t',rfl⟩:=ry
  cases x with
  | non=>cases rx;exact SeqAt.EqAt.str_none a t'
  | bl b=>cases rx;exact SeqAt.EqAt.str_bool a t' b
  | int b=>obtain⟨t,rfl⟩:=rx;exact SeqAt.EqAt.str_int a t' b t
  | str b=>obtain⟨t,rfl⟩:=rx;exact SeqAt.EqAt.str_str a t' b t
  | _=>exact absurd (fx) Bool.false_ne_true
 | _=>exact absurd (fy) Bool.false_ne_true
def eqU(x:V)(u:Value):Bool:=match u with
 | .none=>eqV .non x
 | .bool b=>eqV (.bl b) x
 | .int i _=>eqV (.int i) x
 | .str z _=>eqV (.str z) x
 | _=>false
def jFg(r:RelV y u)(f:jmi y=true):eqU x u=eqV y x:=by
 cases y with
 | non=>cases r;rfl
 | bl b=>cases r;rfl
 | int i=>obtain⟨t,rfl⟩:=r;rfl
 | str z=>obtain⟨t,rfl⟩:=r;rfl
 | _=>exact absurd (f) Bool.false_ne_true
theorem jk1:∀ {xs:List V} {us:List Value},Vals xs us->xs.all jmi=true->us.any (eqU x)=xs.any fun y=>eqV y x
 | _,_,.nil,_=>rfl
 | y::xs,u::us,.cons r t,f=>by
  rw[List.all_cons,Bool.and_eq_true] at f;rw[List.any_cons,List.any_cons,jFg r f.1,jk1 t f.2]
theorem jix(rx:RelV x v)(fx:jmi x=true):∀ {xs:List V} {us:List Value},Vals xs us->xs.all jmi=true->∀ u∈us,SeqAt.EqAt A s u v (eqU x u)
 | _,_,.nil,_=>fun u hu=>by cases hu
 | y::xs,u::us,.cons r t,f=>fun u' hu=>by
  rw[List.all_cons,Bool.and_eq_true] at f;rcases List.mem_cons.mp hu with rfl|hu
  .rw[jFg r f.1];exact jM2 r rx f.1 fx
  .exact jix rx fx t f.2 u' hu
def inV(x:V)(xs:List V):Bool:=xs.any fun y=>eqV y x
def rIn(K:W.Frag)(neg:Bool):R2:=fun x y H Q=>∃ p xs,y=.ref p/\(SqL K H p xs\/SqT K H p xs)/\jmi x=true/\xs.all jmi=true/\Q (.bl (if neg then !inV x xs else inV x xs)) H
def jy6:OpR X (compareOp .In) (rIn X.K false):=by
 intro U s Z H x y v u Q I rx ry h;obtain⟨p,xs,rfl,hq,fx,fs,q⟩:=h;cases ry;rcases hq with hq|hq
 .obtain⟨its,r,pl,hz⟩:=I.list hq;refine SeqAt.in_listAt _ pl.isList (fun w hw=>jix rx fx r fs w (by simpa using hw)) ⟨.bl _,H,I,rfl,?_⟩;rw[show its.toArray.any _=its.any (eqU x) by simp,jk1 r fs];exact q
 .obtain⟨its,r,pl,hz⟩:=I.tuple hq;refine SeqAt.in_tupleAt _ pl (fun w hw=>jix rx fx r fs w (by simpa using hw)) ⟨.bl _,H,I,rfl,?_⟩;rw[show its.toArray.any _=its.any (eqU x) by simp,jk1 r fs];exact q
def jp8:OpR X (compareOp .NotIn) (rIn X.K true):=by
 intro U s Z H x y v u Q I rx ry h;obtain⟨p,xs,rfl,hq,fx,fs,q⟩:=h;cases ry;rcases hq with hq|hq
 .obtain⟨its,r,pl,hz⟩:=I.list hq;refine SeqAt.notIn_listAt _ pl.isList (fun w hw=>jix rx fx r fs w (by simpa using hw)) ⟨.bl _,H,I,rfl,?_⟩;rw[show its.toArray.any _=its.any (eqU x) by simp,jk1 r fs];exact q
 .obtain⟨its,r,pl,hz⟩:=I.tuple hq;refine SeqAt.notIn_tupleAt _ pl (fun w hw=>jix rx fx r fs w (by simpa using hw)) ⟨.bl _,H,I,rfl,?_⟩;rw[show its.toArray.any _=its.any (eqU x) by simp,jk1 r fs];exact q
def call_len_seq:CallR X (.builtin "len") (fun xs H Q=>∃ p ys,xs=[.ref p]/\(SqL X.K H p ys\/SqT X.K H p ys)/\Q (.int ys.length) H):=by
 intro U s Z H xs us Q I r h;obtain⟨p,ys,rfl,hq,q⟩:=h;obtain⟨u,rfl,rx⟩:=jmp r;cases rx;have hn:=jm2;rcases hq with hq|hq
 .obtain⟨its,r',pl,hz⟩:=I.list hq;have hlen:=r'.length;exact Calls.call_len_list pl.isList (by simp only[zbx]<;>lia) ⟨.int _,H,I.tok _,⟨_,by rw[zbx,hlen]⟩,q⟩
 .obtain⟨its,r',pl,hz⟩:=I.tuple hq;have hlen:=r'.length;exact len_tuple pl (by simp only[zbx]<;>lia) ⟨.int _,H,I.tok _,⟨_,by rw[zbx,hlen]⟩,q⟩
def jo4:CallR X (.builtin "len") (fun xs H Q=>∃ z,xs=[.str z]/\z.length<=sizeLine/\Q (.int z.length) H):=by
 intro U s Z H xs us Q I r h;obtain⟨z,rfl,hz,q⟩:=h;obtain⟨u,rfl,t,rfl⟩:=jmp r;have hn:=jm2;exact len_str (by lia) ⟨.int _,H,I.tok _,⟨_,rfl⟩,q⟩
def CallR.or(h:CallR X f r)(h':CallR X f r'):CallR X f (fun xs H Q=>r xs H Q\/r' xs H Q):=by
 intro U s Z H xs us Q I rs q;rcases q with q|q
 .exact h _ s Z H xs us Q I rs q
 .exact h' _ s Z H xs us Q I rs q
def jo5:CallR X (.type "list") (fun xs H Q=>∃ p ys,xs=[.ref p]/\(SqL X.K H p ys\/SqT X.K H p ys)/\∀ l,H l=none->Q (.ref l) (upd H l (.lst ys))):=by
 intro U s Z H xs us Q I r h;obtain⟨p,ys,rfl,hq,q⟩:=h;obtain⟨u,rfl,rx⟩:=jmp r;cases rx;have fin:∀ (its:List _),Vals ys its->ys.length<=sizeLine->∀ (h':Heap) (c':Nat),(∀ b o',s.heap.get? b=some o'->h'.get? b=some o') ->
   h'.get? _=some _->EP X _ Z Q _ _:=fun its r' hz h' c' kp e =>
  ⟨.ref _,_,I.laid (t':=s.toks) kp (zac _) (show ObjOk _ X.w _ h' _ (.lst ys) from ⟨hz,its,c',r',e⟩),rfl,q _ (I.hok.fresh (zac _))⟩
 rcases hq with hq|hq
 .obtain⟨its,r',pl,hz⟩:=I.list hq;have hlen:=r'.length;obtain⟨o,ho,hc,n,hd⟩:=pl.isList;exact call_list_seq p (.inl rfl) ho hc hd (fun h' c' kp e=>fin its r' hz h' c' kp e) (by simp only[zbx]<;>lia)
 .obtain⟨its,r',pl,hz⟩:=I.tuple hq;have hlen:=r'.length;obtain⟨o,ho,hc,n,hd⟩:=pl;exact call_list_seq p (.inr rfl) ho hc hd (fun h' c' kp e=>fin its r' hz h' c' kp e) (by simp only[zbx]<;>lia)
def jio:CallR X (.type "tuple") (fun xs H Q=>∃ p ys,xs=[.ref p]/\((SqL X.K H p ys/\∀ l,H l=none->Q (.ref l) (upd H l (.tup ys)))\/(SqT X.K H p ys/\Q (.ref p) H))):=by
 intro U s Z H xs us Q I r h;obtain⟨p,ys,rfl,h⟩:=h;obtain⟨u,rfl,rx⟩:=jmp r;cases rx;rcases h with ⟨hq,q⟩|⟨hq,q⟩
 .obtain⟨its,r',pl,hz⟩:=I.list hq;have hlen:=r'.length;refine call_tuple_list pl.isList (fun h' kp=>?_) (by grind);have I1:=I.kept (t':=s.toks) kp;exact⟨.ref _,_,(I1.laid (fun b o e=>zaz _ e) (zac _) (show ObjOk _ X.w _ _ _ (.tup ys) from ⟨hz,its,r',IsTup.new _ _⟩)),rfl,q _ (I1.hok.fresh (zac _))⟩
 .obtain⟨its,r',pl,hz⟩:=I.tuple hq;exact call_tuple_same pl ⟨.ref p,H,I,rfl,q⟩
def tyV(K:W.Frag)(T:String)(x:V)(H:Hp):Prop:=match x with
 | .str _=>T="str"
 | .int _=>T="int"
 | .ref p=>(T="list"/\∃ xs,SqL K H p xs)\/(T="tuple"/\∃ o,K.lookup p=some o/\o.cls=.type "tuple"/\o.dict=none) \/
   (T="dict"/\((∃ kvs,H p=some (.dK kvs))\/∃ kvs,H p=some (.dT kvs)))\/(T="set"/\∃ S n,H p=some (.set S n))
 | _=>False
def jGq(I:Inv X U Z H s)(r:RelV x v)(ty:tyV X.K T x H) :
  s.TypeIs v T/\∀ a,v=.ref a->∃ ob,s.heap.get? a=some ob/\ob.dict=none:=by
 cases x with
 | str z =>
  obtain⟨t,rfl⟩:=r;cases (ty)
  grind [typeIs_str]
 | int i =>
  obtain⟨t,rfl⟩:=r;cases (ty)
  grind [typeIs_int]
 | ref p =>
  cases r;rcases ty with ⟨rfl,xs,hq⟩|⟨rfl,o,hk,hc,hd⟩|⟨rfl,hk⟩|⟨rfl,S,n,hk⟩
  .obtain⟨its,_,pl,_⟩:=I.list hq;refine⟨pl.isList.typeIs,fun a e=>?_⟩;cases e;obtain⟨o,n,e,c,hd,_⟩:=pl
   grind
  .refine⟨⟨o,I.kIn p o hk,hc⟩,fun a e=>?_⟩;cases e;exact⟨o,I.kIn _ o hk,hd⟩
  .have z:∃ o,s.heap.get? p=some o/\o.ExactDict:=by
    rcases hk with ⟨kvs,hk⟩|⟨kvs,hk⟩
    .obtain⟨_,_,_,_,o,_,_,e,ex,_⟩:=I.hok p _ hk;exact⟨o,e,ex⟩
    .obtain⟨_,_,_,_,o,_,_,e,ex,_⟩:=I.hok p _ hk;exact⟨o,e,ex⟩
   obtain⟨o,e,ex⟩:=z;refine⟨⟨o,e,ex.1⟩,fun a e2=>?_⟩;cases e2;exact⟨o,e,ex.2.1⟩
  .obtain⟨o,_,_,_,e,ex,_⟩:=I.hok p _ hk;refine⟨⟨o,e,ex.1⟩,fun a e2=>?_⟩;cases e2;exact⟨o,e,ex.2.1⟩
 | _=>exact False.elim ty
def tBM0(K:W.Frag)(T:String)(r:V->List V->Hp->VK->Prop)(to:TE):TE:=fun Z H Q=>to Z H fun x H1=>tyV K T x H1/\r x [] H1 Q
def tBM(K:W.Frag)(T:String)(r:V->List V->Hp->VK->Prop)(to:TE)(t:TA):TE:=fun Z H Q=>to Z H fun x H1=>tyV K T x H1/\t Z H1 fun xs H2=>r x xs H2 Q
variable {o e:Expr}{es:List Expr}{to:TE}{t:TA}{name:Str}{apos cpos:Pos}{T id:String}{r:V->List V->Hp->VK->Prop}
def jF8(pa:PlainAttrs T)(slot:Slot T name id)(hty:typeOf (.builtin id)=pure (.type "method_descriptor"))(hm:MtR X id r)(ho:PE X o to)
  (hbase:attributeBase o name X.env (eval o X.env)=eval o X.env) (hline:(apos.endLine == cpos.line)=true):PE X (.Call (.Attribute o name apos) [] [] cpos) (tBM0 X.K T r to):=by
 intro U s Z H Q I h;refine wpAny_Call_method0_late hbase hline (thn (ho _ s Z H _ I h) fun v s1 hzz=>?_);obtain⟨x,H1,I1,r1,ty,q1⟩:=hzz;obtain⟨h1,h2⟩:=jGq I1 r1 ty;exact⟨T,id,pa,slot,hty,h1,h2,Calls.callWith_builtin rfl (PySem.evalArgs_none (hm _ s1 Z H1 x [] v [] Q I1 r1 .nil q1))⟩
def jvl(pa:PlainAttrs T)(slot:Slot T name id)(hty:typeOf (.builtin id)=pure (.type "method_descriptor"))(hm:MtR X id r)(ho:PE X o to)(ha:PA X (e::es) t)
  (hbase:attributeBase o name X.env (eval o X.env)=eval o X.env)
  (hfew:((backTo cpos (starEach (e::es) X.env)).all (fun x=>!x.1)&&(backToKw cpos (keywordEach [] X.env)).all (fun x=>x.1.isSome)
   && decide ((e::es).length+([]:List Keyword).length+(if ([]:List Keyword).isEmpty then 0 else 1)<30))=true)
  (hline:(apos.endLine == cpos.line)=true) (hs:zsE e es X.env) (hplain:(backTo cpos (starEach es X.env)).any (·.1)=false) :
  PE X (.Call (.Attribute o name apos) (e::es) [] cpos) (tBM X.K T r to t):=by
 intro U s Z H Q I h;refine wpAny_Call_method_late hbase hfew hline rfl (thn (ho _ s Z H _ I h) fun v s1 hzz=>?_);obtain⟨x,H1,I1,r1,ty,q1⟩:=hzz;obtain⟨h1,h2⟩:=jGq I1 r1 ty;refine⟨T,id,pa,slot,hty,h1,h2,?_⟩;have hA:=ha cpos _ s1 Z H1 _ I1 q1;rw[hs] at hA |-
 exact Calls.callWith_builtin (by show (false || (backTo _ _).any _)=false;rw[hplain]<;>rfl) (Calls.evalArgs_plain (thn hA fun us s2 ⟨vs,H2,I2,r2,q2⟩=>hm _ s2 Z H2 x vs v us Q I2 r1 r2 q2))
end
def MtM(X:Cx)(id:String)(r:V->List V->Hp->VK->Prop):Prop :=
 ∀ (U:qb) (s:Shared) (Z:St) (H:Hp) (x:V) (xs:List V) (v:Value) (us:List Value) (Q:VK),Inv X U Z H s->RelV x v->Vals xs us->r x xs H Q ->
  wpAny (model X.prog X.w) X.A (call (.builtin id) (v::us)) (EP X U Z Q) X.xe s
def Vals.one:∀ {x:V} {us:List Value},Vals [x] us->∃ u,us=[u]/\RelV x u
 | _,_,.cons r .nil=>⟨_,rfl,r⟩
def Vals.two:∀ {x y:V} {us:List Value},Vals [x,y] us->∃ u v,us=[u,v]/\RelV x u/\RelV y v
 | _,_,_,.cons r (.cons q .nil)=>⟨_,_,rfl,r,q⟩
def Vals.zero:∀ {us:List Value},Vals [] us->us=[]
 | _,.nil=>rfl
theorem Vals.dropLast(h:Vals xs us):Vals xs.dropLast us.dropLast:=by
 induction h with
 | nil=>exact .nil
 | cons r t ih =>
  cases t with
  | nil=>exact .nil
  | cons q t'=>exact .cons r ih
theorem Vals.rep(h:Vals xs us):∀ k:Nat,Vals (List.replicate k xs).flatten (List.replicate k us).flatten
 | 0=>.nil
 | k+1=>Vals.append h (Vals.rep h k)
def ju1{α:Type}(l:List α):l.eraseIdx (l.length-1)=l.dropLast:=by
 grind
theorem jla(its:List Value):∀ (k:Nat) (acc:List Value),
  List.foldl (fun x1 x2=>x1++x2) acc.toArray (List.replicate k its.toArray)=(acc++(List.replicate k its).flatten).toArray
 | 0,acc=>by simp
 | k+1,acc=>by
  have e:acc.toArray++its.toArray=(acc++its).toArray:=by simp
  have e2:(acc++its)++(List.replicate k its).flatten=acc++(List.replicate (k+1) its).flatten:=by
   rw[List.replicate_succ,List.flatten_cons,List.append_assoc]
  rw[<- e2,<- jla its k _,<- e,List.replicate_succ,List.foldl_cons]
section
variable {X:Cx}{U:qb}{Z:St}{H:Hp}{s:Shared}{l:Addr}{xs ys:List V}
def Inv.lset{its its':List Value}{n:Nat}{f:Array Value->Array Value}{t':Nat}(I:Inv X U Z H s)(hH:H l=some (.lst xs))
  (e:s.heap.get? l=some { cls:=.type "list",data:=.seq its.toArray n }) (hf:f its.toArray=its'.toArray) (hv:Vals ys its') (hz:ys.length<=sizeLine) :
  Inv X U Z (upd H l (.lst ys)) { s with heap:=s.heap.update l (Obj.mapSeq f),toks:=t' }:=by
 have q:=PySem.IsL.update e f;rw[hf] at q;exact I.write (by rw[hH];exact trivial) (.inl rfl) (fun b' u hb hu=>(Heap.get?_update_other _ _ (Ne.symm hb)).trans hu) ⟨_,q⟩ ⟨hz,_,_,hv,q⟩
def Inv.lnew(I:Inv X U Z H s)(hv:Vals ys its)(hz:ys.length<=sizeLine) :
  Inv X U Z (upd H s.heap.objs.size (.lst ys)) { s with heap:=s.heap.push { cls:=.type "list",data:=.seq its.toArray },toks:=t' } :=
 I.laid (fun _ _ q=>zaz _ q) (zac _) ⟨hz,its,0,hv,zbz _ rfl⟩
theorem Inv.fresh(I:Inv X U Z H s):H s.heap.objs.size=none:=I.hok.fresh (zac _)
def Inv.lstM(I:Inv X U Z H s)(hH:H l=some (.lst xs)):xs.length<=sizeLine/\∃ (its:List Value) (n:Nat),Vals xs its/\xs.length=its.length/\s.heap.get? l=some { cls:=.type "list",data:=.seq its.toArray n }:=by
 obtain⟨z,its,n,r,e⟩:=I.hok l _ hH;exact⟨z,its,n,r,r.length,e⟩
def jt7(h:n<=sizeLine):Builtin.List.listTooLong n=false:=decide_eq_false (by lia)
end
section
variable {X:Cx}
def jKl:V->List V->Hp->VK->Prop:=fun x vs H Q=>∃ l xs y,x=.ref l/\vs=[y]/\H l=some (.lst xs)/\xs.length<sizeLine/\Q .non (upd H l (.lst (xs++[y])))
def jiy:MtM X "list.append" jKl:=by
 intro U s Z H x vs v us Q I rx rv h;obtain⟨l,xs,y,rfl,rfl,hH,hz,q⟩:=h;cases rx;obtain⟨u,rfl,ru⟩:=rv.one;obtain⟨z,its,n,r,hl,e⟩:=I.lstM hH;refine call_meets F.slot_list_append ⟨_,e,rfl⟩ F.entry_list_append (F.args_list_append_2 _ _) (PySem.list_append l _ n u (by grind)) ⟨e,?_⟩;refine⟨.non,_,I.lset hH e (by simp) (r.append (.cons ru .nil)) ?_,rfl,q⟩
 grind
def rPop:V->List V->Hp->VK->Prop:=fun x vs H Q=>∃ l xs y,x=.ref l/\vs=[]/\H l=some (.lst xs)/\xs[xs.length-1]? = some y/\Q y (upd H l (.lst xs.dropLast))
def jN3:MtM X "list.pop" rPop:=by
 intro U s Z H x vs v us Q I rx rv h;obtain⟨l,xs,y,rfl,rfl,hH,hy,q⟩:=h;cases rx;have hus:=rv.zero;subst hus;obtain⟨z,its,n,r,hl,e⟩:=I.lstM hH;obtain⟨u,hu,ru⟩:=r.get hy;have hy':=by
  show its.toArray[its.length-1]? = some u;rw[<- Array.getElem?_toList,<- hl];exact hu
 refine call_meets F.slot_list_pop ⟨_,e,rfl⟩ F.entry_list_pop (F.args_list_pop_1 _) (MeetsSeq.list_pop_last l _ n u hy' (by grind)) ⟨e,?_⟩;refine⟨y,_,I.lset hH e ?_ r.dropLast ?_,ru,q⟩
 .rw[zbx,List.eraseIdxIfInBounds_toArray,ju1]
 .rw[List.length_dropLast]
  lia
def jO5:V->List V->Hp->VK->Prop:=fun x vs H Q=>∃ l xs,x=.ref l/\vs=[]/\H l=some (.lst xs)/\Q .non (upd H l (.lst []))
def jC4:MtM X "list.clear" jO5:=by
 intro U s Z H x vs v us Q I rx rv h;obtain⟨l,xs,rfl,rfl,hH,q⟩:=h;cases rx;have hus:=rv.zero;subst hus;obtain⟨z,its,n,r,hl,e⟩:=I.lstM hH;exact call_meets F.slot_list_clear ⟨_,e,rfl⟩ F.entry_list_clear (F.args_list_clear_1 _) (AutoSeq1.list_clear_list_0 l _ n (by grind)) ⟨e,(⟨.non,_,I.lset hH e rfl .nil (Nat.zero_le _),rfl,q⟩)⟩
def rRep:R2:=fun x y H Q=>∃ l k xs,x=.ref l/\y=.int k/\H l=some (.lst xs)/\-(2 ^ 63)<=k/\k<2 ^ 63/\xs.length*k.toNat<=sizeLine /\
 ∀ p,H p=none->Q (.ref p) (upd H p (.lst (List.replicate k.toNat xs).flatten))
def jx9{α:Type}(xs:List α)(k:Nat):(List.replicate k xs).flatten.length=k*xs.length:=by
 simp_all
def jOf:OpR X (binaryOp .Mult) rRep:=by
 intro U s Z H x y v u Q I rx ry h;obtain⟨l,k,xs,rfl,rfl,hH,h1,h2,hz,q⟩:=h;cases rx;obtain⟨t,rfl⟩:=ry;obtain⟨z,its,n,r,hl,e⟩:=I.lstM hH;have hlen:its.toArray.size*k.toNat<=sizeLine:=by rw[zbx,<- hl];exact hz
 have hcap:¬ its.toArray.size*k.toNat > (2 ^ 63-1) / 8:=by
  have:(sizeLine)<=(2 ^ 63-1) / 8:=by decide
  lia
 have hfit:¬ (!Builtin.List.listFitsIndex k)=true:=by
  rw[fitsIndex_both h1 h2];exact Bool.false_ne_true
 have hlong:¬ Builtin.List.listTooLong (its.toArray.size*k.toNat)=true:=by
  rw[jt7 hlen];exact Bool.false_ne_true
 have hnew:List.foldl (fun x1 x2=>x1++x2) #[] (List.replicate (if its.toArray.isEmpty=true then 0 else k.toNat) its.toArray)=(List.replicate k.toNat its).flatten.toArray:=by
  have f0:=fun m=>by
   have:=jla its m [];rw[List.nil_append] at this;exact this
  rw[f0]
  cases its with
  | nil=>simp
  | cons a r'=>rw[if_neg (by simp)]
 refine wpAny_binaryOp_repeat_ref rfl ⟨_,e,rfl⟩ (fun s'=>typeIs_int s' k t) noFill_list_mul F.fills_int_mul F.slot_int_rmul repeat_list F.slot_int_index.lookup
  (call_meets F.slot_int_rmul (typeIs_int s k t) F.entry_int_rmul (F.args_int_rmul_2 _ _) (int___rmul___int_list k t l _ n)
   ⟨e,rfl,⟨_,e,rfl⟩,call_meets F.slot_list_mul ⟨_,e,rfl⟩ F.entry_list_mul (F.args_list_mul_2 _ _) (AutoListH.list___mul___list_int_3 l _ n k t hfit hcap hlong) ⟨e,?_⟩⟩)
 rw[hnew];exact⟨.ref _,_,I.lnew (r.rep _) (by rw[jx9,Nat.mul_comm];exact hz),rfl,q _ I.fresh⟩
end
end L2
namespace Att
open PySem PySem.W PySem.Calls PyProof.Rows
def jli:∀ (ns:List Int) (vs:List Value),WellAll P h vs (ns.map WData.int)->IntsAre vs ns:=by
 intro ns
 induction ns with
 | nil =>
  intro vs w;cases w;exact .nil
 | cons n ns ih =>
  intro vs w
  cases w with
  | cons a b =>
   cases a;exact .cons _ _ (ih _ b)
def jAf{l:OpenLaw}(hn:l.most=some n)
  (hpre:l.row.toRowW.claim.pre args=true) (hwl:WellAll P h vals args) :
  ∃ a vs ns,vals=[Value.ref a]/\args=[WData.list (ns.map WData.int)]/\h.get? a=some { cls:=.type "list",data:=.seq vs.toArray }/\IntsAre vs ns/\ns.length<=n:=by
 obtain⟨d,r,rfl,h1,h2⟩:=hasAllW_cons ((pre_splitW hpre).1);obtain rfl:=hasAllW_nil h2;obtain⟨xs,rfl,h3⟩:=hasW_list h1;obtain⟨ns,rfl⟩:=items_int h3;have hlen:=by
  have h4:=by
   have h4:=(holds_andW ((pre_splitW hpre).2)).1;rw[hn] at h4;exact h4
  have h5:=condW_of h4 (w_not (w_lt w_lit (w_len_list (w_arg rfl))))
  first
   | (exact absurd h5 _)
   | (simp at h5;omega)
 cases hwl with
 | cons w1 w2 =>
  cases w2
  cases w1 with
  | list ho hall=>exact⟨_,_,ns,rfl,rfl,ho,jli ns _ hall,hlen⟩
def jzp(l:OpenLaw)(args:List WData):l.row.toRowW.claim.post args (.bool true) args=true :=
 postW_of
  (show WShape.has [] _ _=true by first|rfl|decide|simp[WShape.has])
  (w_eq_bool (w_res rfl) w_lit) rfl
def attach_call{l:OpenLaw}{n:Nat}{q:Program}{loose:List Str}{XP:(qa)->Heap->Prop}{YP:World->Heap->Prop}{d:DefRec}
  (hn:l.most=some n) (hdf:d.params.defaults=[])
  (call:∀ (w:World) (s₀ s₁:Shared) (mg mb:qa) (fa:Addr) (o:Obj) (pm cd doc:Value) (a:Addr) (vs:List Value) (ns:List Int),
   Ground q loose [] XP w s₀ mg mb s₁.heap->YP w s₁.heap ->
   s₁.heap.get? fa=some o->o.data=.func (docDef d.name d.params d.body d.scope pm cd doc)->s₁.heap.CodeRec cd d.name->mg d.name=some (.ref fa) ->
   s₁.heap.get? a=some { cls:=.type "list",data:=.seq vs.toArray }->IntsAre vs ns->ns.length<=n->s₁.gens=#[] ->
   codeAny (model l.prog w) callerA (.call (.ref fa) ⟨[.ref a],[]⟩) (fun r s'=>r=.ok (.ret (.bool true))/\OldK s₁.heap s'.heap/\s'.os=s₁.os/\AllBare s'.gens) s₁) :
  WalkO q loose XP YP l.row.toRowW d [] (fun f vs=>PySem.call f vs):=by
 intro w s₀ s₁ mg mb G Yq fa o pm cd doc dV kV ho hd hcd hD hmg hg args vals as hpre hlay hrd hwl hlo;obtain rfl:dV=.none:=Dflts.none hD hdf;obtain rfl:kV=.none:=Dflts.noKw hD;obtain⟨a,vs,ns,rfl,rfl,hobj,hints,hlen⟩:=jAf hn hpre hwl;refine enter_call (codeAny_mono (call w _ _ mg mb fa o pm cd doc a vs ns G Yq ho (fd_plain hd) hcd hmg hobj hints hlen hg) fun r s' hq=>?_);obtain⟨rfl,h2,h3,h4⟩:=hq;exact⟨.inl ⟨_,_,[],rfl,fun _=>rfl,.bool _,jzp l _,fun _=>⟨List.Pairwise.nil,fun _ hm=>(nomatch hm)⟩⟩,h2,h3,h4⟩
end Att
namespace L2
open PyProof.Rows
theorem jqw:∀ {vs:List Value} {ns:List Int},IntsAre vs ns->Vals (ns.map V.int) vs
 | _,_,.nil=>.nil
 | _,_,.cons n t h=>.cons ⟨t,rfl⟩ (jqw h)
def Only(H:Hp):Prop:=∀ b,H b=none\/∃ o xs,H b=some (.frz o (.lst xs))
def jCs{K:W.Frag}
  (KX:K.In s₁.heap) (hns:s₁.heap.Ns mainGlobals mg) (hb:s₁.heap.Ns builtinsNs mb) (hbb:∀ x:Str,x≠"__name__"->mb x=bootBuiltins x) (hlim:s₁.heap.NoLimit) (hg:s₁.gens=#[])
  (ha:s₁.heap.get? a=some { cls:=.type "list",data:=.seq vs.toArray }) (hi:IntsAre vs ns) (hl:ns.length<=sizeLine) (hr:Room k callerA)
  (F:∀ base:Heap,K.In base->base.Ns mainGlobals mg->FnOk P w K mg base CX k fa fd [x] sp) (hbind:∀ (s:Shared) (u:Value),BindsTo s fd ⟨[u],[]⟩ [(x,u)])
  (hsp:∀ H:Hp,Only H->SqL K H a (ns.map V.int)->sp [.ref a] H (fun v _=>v=.bl true) fun _ _ _=>False)
  (hCX:∀ H e s',CX [] H s₁ (fun _ _ _=>False) e s'->False) :
  codeAny (model P w) callerA (.call (.ref fa) ⟨[.ref a],[]⟩) (fun r s'=>r=.ok (.ret (.bool true))/\OldK s₁.heap s'.heap/\s'.os=s₁.os/\AllBare s'.gens) s₁:=by
 have rv:=jqw hi;have core:∀ H,Only H->SqL K H a (ns.map V.int)->HOk P w H s₁.heap->(∀ b,H b≠none->b=a)->(H a≠none->K.lookup a=none) ->
   codeAny (model P w) callerA (.call (.ref fa) ⟨[.ref a],[]⟩) (fun r s'=>r=.ok (.ret (.bool true))/\OldK s₁.heap s'.heap/\s'.os=s₁.os/\AllBare s'.gens) s₁:=by
  intro H hO hS hok hA hK;have base_of:∀ {b:Addr} {o:Obj},s₁.heap.get? b=some o->H b=none->(hidT _ H).get? b=some o:=fun e n=>jCj e n
  have noA:∀ {b:Addr} {o:Obj} {es:Array _} {ep:Nat},s₁.heap.get? b=some o->o.data=.dict es ep->H b=none:=fun {b o es ep} e d=>by
   cases q:H b with
   | none=>rfl
   | some u =>
    have e':=hA b (by rw[q];simp);subst e';rw[ha] at e;cases e
    cases d
  have nsK:∀ {b:Addr} {m:Str->Option _},s₁.heap.Ns b m->(hidT _ H).Ns b m:=fun {b m} ⟨o,es,ep,e,d,r⟩=>⟨o,es,ep,base_of e (noA e d),d,r⟩
  have hKb:=fun b o e=>base_of (KX b o e) (by
   cases q:H b with
   | none=>rfl
   | some u =>
    have e':=hA b (by rw[q];simp);subst e';rw[hK (by rw[q];simp)] at e;cases e)
  refine codeAny_mono ((F _ hKb (nsK hns)).run _ [] _ H _ _ [.ref a] _ _ hr (⟨rfl,(⟨hKb,nsK hns,⟨mb,nsK hb,hbb⟩,let ⟨mc,h1,h2⟩:=hlim;⟨mc,nsK h1,h2⟩⟩),fun b o e=>jJr e,Nat.le_of_eq (jxn _ _),trivial,fun b hb=>absurd (show b∈([]) from hb) (by simp),hok,.of_eq hg⟩) (hbind _ _) (.cons rfl .nil) (hsp H hO hS)) fun r s' h=>?_
  cases r with
  | error e=>exact (hCX H e s' h).elim
  | ok fl =>
   cases fl with
   | next=>exact False.elim h
   | brk=>exact False.elim h
   | cont=>exact False.elim h
   | ret u =>
    obtain⟨v,H',os,bare,un,hok',r',q⟩:=h;subst q;obtain rfl:u=Value.bool _:=r';refine⟨rfl,OldK.of_keep fun b o e=>?_,os,bare⟩
    cases q:H b with
    | none=>exact un.keep b o e q (fun z=>absurd (show b∈([]) from z) (by simp)) (by simp)
    | some u =>
     rcases hO b with z|⟨ob,xs,z⟩
     .grind
     .obtain⟨e1,_⟩:=hok b _ z;obtain⟨e2,_⟩:=hok' b _ (un.frzs b ob _ z)
      grind
 cases hk:K.lookup a with
 | some o =>
  have e:=KX a o hk;rw[ha] at e;cases e;refine core _ (fun _=>.inl rfl) (.inr ⟨_,_,_,hk,rfl,rfl,rfl,by rw[zbx,hi.length];exact hl,by lia⟩) (fun b u z=>by cases z) (fun b z=>absurd rfl z) fun z=>absurd rfl z
 | none =>
  refine core (fun b=>if b=a then some _ else none) (fun b=>?_) (.inl (.inr ⟨{ cls:=.type "list",data:=.seq vs.toArray },if_pos rfl⟩)) (fun b u z=>?_) (fun b z=>?_) fun _=>hk
  .grind
  .by_cases hb:b=a
   .cases ((if_pos hb).symm.trans z);subst hb;exact⟨ha,by grind,vs,_,rv,ha⟩
   .cases ((if_neg hb).symm.trans z)
  grind
def walk_of{l:W.OpenLaw}{n k:Nat}{q:Program}{loose:List Str}{XP:(qa)->Heap->Prop}{YP:World->Heap->Prop}{d:DefRec}{K:Params->W.Frag}{CX:World->CXT}{sp:World->Sp}{x:Str}
  (hn:l.most=some n) (hn2:n<=sizeLine) (hdf:d.params.defaults=[]) (hr:Room k callerA)
  (hY:∀ (w:World) (h:Heap),YP w h->(K w.params).In h)
  (F:∀ (w:World) (mg:qa) (fa:Addr) (h:Heap),(K w.params).In h->h.Ns mainGlobals mg->mg d.name=some (.ref fa) ->
   ∃ fd:FuncData,(∀ (s:Shared) (u:Value),BindsTo s fd ⟨[u],[]⟩ [(x,u)]) /\
    ∀ base:Heap,(K w.params).In base->base.Ns mainGlobals mg->FnOk l.prog w (K w.params) mg base (CX w) k fa fd [x] (sp w))
  (hsp:∀ (w:World) (H:Hp) (a:Addr) (ns:List Int),ns.length<=n->Only H->SqL (K w.params) H a (ns.map V.int)->sp w [.ref a] H (fun v _=>v=.bl true) fun _ _ _=>False)
  (hCX:∀ (w:World) (H:Hp) (s:Shared) (e:Value) (s':Shared),CX w [] H s (fun _ _ _=>False) e s'->False) :
  W.WalkO q loose XP YP l.row.toRowW d [] (fun f vs=>PySem.call f vs):=by
 refine Att.attach_call hn hdf fun w s₀ s₁ mg mb fa o pm cd doc a vs ns G Yq ho hd hcd hmg hobj hints hlen hg=>?_
 have KX:=hY w _ Yq;obtain⟨fd,hb,hF⟩:=F w mg fa _ KX G.T.g hmg;exact jCs KX G.T.g G.T.b G.T.builtins G.T.nolimit hg hobj hints (zdz hlen hn2) hr hF hb (fun H hO hS=>hsp w H a ns hlen hO hS) fun H e s'=>hCX w H _ e s'
def jb4(s:Stmt):Arguments:=match s with
 | .FunctionDef _ a _ _ _ _ _ _ _ _=>a
 | _=>{ posonlyargs:=[],args:=[],vararg:=none,kwonlyargs:=[],kw_defaults:=[],kwarg:=none,defaults:=[] }
def jaw(s:Stmt):List Stmt:=match s with
 | .FunctionDef _ _ b _ _ _ _ _ _ _=>b
 | _=>[]
def jab(s:Stmt):Scope:=match s with
 | .FunctionDef _ _ _ _ _ _ sc _ _ _=>sc
 | _=>{ kind:=.function,names:=[],isGenerator:=false,isCoroutine:=false }
abbrev CX0:CXT:=fun _ _ _ _ _ _=>False
abbrev E0:XK:=fun _ _ _=>False
structure Fun(K:W.Frag)(x qual:Str)(st:Stmt)(f:Addr)(fd:FuncData):Prop where
 ex:∃ (oc:Value) (od:Option Addr) (kV doc pm:Value) (an:Option Addr) (cdv ct:Value) (osl:qe),
  fd=W.fnOf x qual (jb4 st) (jaw st) (jab st) .none kV doc pm an cdv ct/\K.lookup f=some ⟨oc,od,.func fd,osl⟩/\W.codeIn K cdv qual=true
 kp:W.keepIn K (.ref f)=true
section
variable {P:Program}{w:World}{K:W.Frag}{mg:qa}{base:Heap}
def Fun.ok{st:Stmt}(F:Fun K x qual st f fd)(S:FnScope N ps (jab st))(len:∀ vs H Q E,sp vs H Q E->vs.length=ps.length)
  (hbody:∀ (cdv:Value) (A:Around) (outer:List Env) (s:Shared) (H:Hp) (vs:List V) (Q:VK) (E:XK),Room k (A.deeper (envOfC qual (jab st) s.heap.objs.size f cdv))->sp vs H Q E ->
   ∃ t,PSs (cxOf CX0 P w K mg base N qual (jab st) f cdv A outer s H E).nox (jaw st) t/\t { nx:=fun _ H'=>Q .non H',rt:=Q } (start N vs) H):FnOk P w K mg base CX0 (k+1) f fd ps sp:=by
 obtain⟨oc,od,kV,doc,pm,an,cdv,ct,osl,rfl,lk,hcd⟩:=F.ex;refine jQ7 lk hcd S len fun A outer s H vs Q E hr hsp=>?_
 obtain⟨t,h,q⟩:=hbody cdv A _ s H vs Q E hr hsp;exact⟨t,h.nox,q⟩
def Fun.binds{st:Stmt}(F:Fun K x qual st f fd)
  (h:∀ (kV doc pm:Value) (an:Option Addr) (cdv ct:Value) (us:List Value),us.length=ps.length->bindArgs (W.fnOf x qual (jb4 st) (jaw st) (jab st) .none kV doc pm an cdv ct) ⟨us,[]⟩=pure (ps.zip us)):Binds K fd ps []:=by
 obtain⟨oc,od,kV,doc,pm,an,cdv,ct,osl,rfl,lk,hcd⟩:=F.ex;exact .all (h kV doc pm an cdv ct)
def jxj{st:Stmt}{kV doc pm cdv ct:Value}(l:K.lookup f=some ⟨oc,od,.func (W.fnOf x qual (jb4 st) (jaw st) (jab st) .none kV doc pm an cdv ct),osl⟩)
  (c:W.codeIn K cdv qual=true) (k:W.keepIn K (.ref f)=true):Fun K x qual st f (W.fnOf x qual (jb4 st) (jaw st) (jab st) .none kV doc pm an cdv ct):=⟨⟨oc,od,kV,doc,pm,an,cdv,ct,osl,rfl,l,c⟩,k⟩
end
def iteF{A B:Prop}(h:B):if false=true then A else B:=h
def iteT{A B:Prop}(h:A):if true=true then A else B:=h
def Same(H H':Hp):Prop:=∀ b o,H b=some o->H' b=some o
theorem Same.refl(H:Hp):Same H H:=fun _ _ h=>h
def Same.trans(a:Same H H1)(b:Same H1 H2):Same H H2:=fun c o h=>b c o (a c o h)
end L2
set_option maxHeartbeats 4000000
namespace L2
open PyProof.Rows
def ffk:(NameKind.free == NameKind.free)=true:=by decide
def clOf(cells:List (Str×Addr)):List (Str×NameKind)->List (Str×Addr)->List (Str×Addr)
 | [],acc=>acc
 | (n,k)::r,acc=>clOf cells r (if k == .free then (n,(cells.lookup n).getD 0)::acc else acc)
theorem jwz:∀ (ns:List (Str×NameKind)) (acc:List (Str×Addr)),(∀ p∈ns,p.2=.free->∃ c,env.cells.lookup p.1=some c) ->
  (forIn ns acc fun p cs=>(if p.2 == NameKind.free then (do let a <- cellOf env p.1;pure (ForInStep.yield ((p.1,a)::cs))) else pure (ForInStep.yield cs):Sem (ForInStep (List (Str×Addr)))))=pure (clOf env.cells ns acc)
 | [],acc,_=>by rfl
 | (n,k)::r,acc,h=>by
  rw[List.forIn_cons]
  by_cases hk:k=.free
  .subst hk;obtain⟨c,hc⟩:=h _ zaa rfl;have e1:cellOf env n=pure c:=by unfold cellOf;rw[hc]
   rw[e1];show (forIn r _ _:Sem _)=_;rw[jwz r _ fun p hp=>h p (zaw _ hp)];show _=pure (clOf _ r _);rw[if_pos ffk,hc];rfl
  .have e2:(k == NameKind.free)=false:=by simpa using hk
   rw[if_neg (by rw[e2];decide)];show (forIn r acc _:Sem _)=_;rw[jwz r _ fun p hp=>h p (zaw _ hp)];show _=pure (clOf _ r _);rw[if_neg (by rw[e2];decide)]
def jux(h:∀ p∈scope.names,p.2=.free->∃ c,env.cells.lookup p.1=some c):closureFor scope env=pure (clOf env.cells scope.names []):=by
 show (forIn _ _ _ >>= fun r=>pure r)=_;exact (by rw[(jwz _ [] h)];rfl)
theorem js3:∀ (ns:List (Str×NameKind)) (acc:List (Str×Addr)),(clOf cells ns acc).lookup x=some c->acc.lookup x=some c\/((x,NameKind.free)∈ns/\c=(cells.lookup x).getD 0)
 | [],acc,h=>.inl h
 | (n,k)::r,acc,h=>by
  rcases js3 r _ h with e|⟨e1,e2⟩
  .by_cases hk:k=.free
   .subst hk;rw[if_pos ffk,List.lookup_cons] at e
    cases hx:x == n with
    | true =>
     rw[hx] at e;have:=by simpa using hx
     subst this;exact .inr ⟨zaa,(zby e).symm⟩
    | false=>rw[hx] at e;exact .inl e
   .rw[if_neg (by simpa using hk)] at e;exact .inl e
  .exact .inr ⟨zaw _ e1,e2⟩
theorem js2:∀ (ns:List (Str×NameKind)) (acc:List (Str×Addr)),acc.lookup x=some ((cells.lookup x).getD 0)->(clOf cells ns acc).lookup x=some ((cells.lookup x).getD 0)
 | [],acc,h=>h
 | (n,k)::r,acc,h=>by
  refine js2 r _ ?_
  by_cases hk:k=.free
  .subst hk;rw[if_pos ffk,List.lookup_cons]
   cases hx:x == n with
   | true =>
    have:=by simpa using hx
    subst this;rfl
   | false=>exact h
  .rw[if_neg (by simpa using hk)];exact h
theorem jnf:∀ (ns:List (Str×NameKind)) (acc:List (Str×Addr)),(x,NameKind.free)∈ns->(clOf cells ns acc).lookup x=some ((cells.lookup x).getD 0)
 | [],acc,h=>by cases h
 | (n,k)::r,acc,h=>by
  rcases List.mem_cons.mp h with e|e
  .cases e;refine js2 r _ ?_;simp
  .exact jnf r _ e
noncomputable def jch(X:Cx)(scope:Scope)(N:List Str)(C:Addr)(s0:Shared)(H0:Hp)(ex:List Addr):Cx where
 prog:=X.prog
 w:=X.w
 K:=X.K
 mg:=X.mg
 base:=X.base
 A:=X.A
 N:=N
 s₀:=s0
 Hz:=H0
 env:=compEnvC scope (clOf X.env.cells scope.names []) C X.env
 outer:=X.stack
 stack:=X.stack
 ex:=ex
 fn:=fun _=>false
 calm:=X.calm
 pn:=[]
 xe:=fun _ _=>False
def jsz(N:List Str)(out:List (Str×NameKind))(inn:List (Str×NameKind))(caps:qf):Bool :=
 inn.all (fun p=>p.2 != .cell)&&inn.all (fun p=>p.2 != .local || inn.lookup p.1 == some .local) &&
 inn.all (fun p=>p.2 != .free || (out.lookup p.1 == some .cell || out.lookup p.1 == some .free)) &&
 caps.all (fun p=>N[p.2]? == some p.1&&inn.lookup p.1 == some .free)
structure CapsOk(X:Cx)(scope:Scope)(caps:qf):Prop where
 kind:scope.kind=.function
 nocell:∀ x∈scope.names,x.2≠.cell
 loc:∀ x∈scope.names,x.2=.local->scope.names.lookup x.1=some .local
 fre:∀ p∈scope.names,p.2=.free->X.env.kindOf p.1=some .cell\/X.env.kindOf p.1=some .free
 cap:∀ p∈caps,X.N[p.2]? = some p.1/\scope.names.lookup p.1=some .free
def jk5(hN:X.N=N)(ho:X.env.scope=osc)(hk:scope.kind=.function)(h:jsz N osc.names scope.names caps=true):CapsOk X scope caps:=by
 unfold jsz at h;simp only[Bool.and_eq_true,List.all_eq_true] at h;obtain⟨⟨⟨h1,h2⟩,h3⟩,h4⟩:=h;refine⟨hk,fun x hx=>by grind,fun x hx hl=>?_,fun p hp hf=>?_,fun p hp=>?_⟩
 .grind
 .have:=h3 p hp;rw[hf] at this;show X.env.scope.names.lookup p.1=_\/X.env.scope.names.lookup p.1=_
  grind
 grind
def jdc(own:Nat)(caps:qf)(Z:St):St:=List.replicate own none++caps.map fun p=>(Z[p.2]?).join
def jAw(own:Nat)(caps:qf)(wi:TI)(g:TG)(tc:TT)(te:TE):TE:=fun Z H Q=>wi Z H fun Jq H1=>∀ D,H1 D=none ->
 ∃ W:Nat->Nat->St->Hp->Prop,(∃ m,W 0 m (jdc own caps Z) (upd H1 D (.lst [])))/\∀ i m Z' H',W i m Z' H' ->
  (Jq.stop i H'/\Q (.ref D) H')\/(Jq.go i H'/\∃ N:St->Hp->Prop,(∀ Z2 H2,N Z2 H2->∃ m',m'<m/\W (i+1) m' Z2 H2) /\
   ∀ x H2,Jq.yld i H' x H2->g x Z' H2 fun Z3 H3=>tc Z3 H3 fun b H4=>if b=true then te Z3 H4 fun v H5=>∃ ys,H5 D=some (.lst ys)/\ys.length<sizeLine/\N Z3 (upd H5 D (.lst (ys++[v]))) else N Z3 H4)
theorem jg3{scope:Scope}{env:Env}{x:Str}{k:NameKind}:∀ {ns:List (Str×NameKind)},(ns.map fun (n,k)=>if (k == NameKind.free&&env.scope.kind == .function&&env.kindOf n == some .cell) then (n,NameKind.cell) else (n,k)).lookup x=some k ->
  ∃ k',ns.lookup x=some k'/\(k=k'\/(k'=.free/\k=.cell))
 | [],h=>by simp at h
 | (n,k0)::r,h=>by
  rw[List.map_cons] at h
  by_cases hc:(k0 == NameKind.free&&env.scope.kind == .function&&env.kindOf n == some .cell)=true
  .simp only[if_pos hc,List.lookup_cons] at h
   cases hx:x == n with
   | true =>
    grind
   | false =>
    rw[hx] at h;obtain⟨k',e,q⟩:=jg3 (scope:=scope) h;exact⟨k',by simp only[List.lookup_cons,hx];exact e,q⟩
  .simp only[if_neg hc,List.lookup_cons] at h
   cases hx:x == n with
   | true =>
    grind
   | false =>
    rw[hx] at h;obtain⟨k',e,q⟩:=jg3 (scope:=scope) h;exact⟨k',by simp only[List.lookup_cons,hx];exact e,q⟩
theorem jg2{env:Env}:∀ {ns:List (Str×NameKind)},ns.lookup x=some .free ->
  (ns.map fun (n,k)=>if (k == NameKind.free&&env.scope.kind == .function&&env.kindOf n == some .cell) then (n,NameKind.cell) else (n,k)).lookup x=some .cell \/
  (ns.map fun (n,k)=>if (k == NameKind.free&&env.scope.kind == .function&&env.kindOf n == some .cell) then (n,NameKind.cell) else (n,k)).lookup x=some .free
 | [],h=>by simp at h
 | (n,k0)::r,h=>by
  rw[List.map_cons];simp only[List.lookup_cons] at h
  by_cases hc:(k0 == NameKind.free&&env.scope.kind == .function&&env.kindOf n == some .cell)=true
  .simp only[if_pos hc,List.lookup_cons]
   cases hx:x == n with
   | true=>grind
   | false=>rw[hx] at h;exact jg2 h
  .simp only[if_neg hc,List.lookup_cons]
   cases hx:x == n with
   | true=>grind
   | false=>rw[hx] at h;exact jg2 h
def jxs(h:(jdc own caps Z)[i]? = some (some v)):∃ p,caps[i-own]? = some p/\own<=i/\Z[p.2]? = some (some v):=by
 unfold jdc at h
 by_cases hi:i<own
 .rw[List.getElem?_append_left (by simpa using hi),List.getElem?_replicate,if_pos hi] at h;cases h
 .rw[List.getElem?_append_right (by simpa using hi),List.length_replicate,zba] at h
  cases e:caps[i-own]? with
  | none=>rw[e] at h;cases h
  | some p =>
   rw[e] at h;refine⟨p,rfl,by lia,?_⟩;have h':(Z[p.2]?).join=some v:=zby h
   cases q:Z[p.2]? with
   | none=>rw[q] at h';cases h'
   | some o=>rw[q] at h';exact congrArg _ h'
section
variable {X:Cx}
def jCm(I:Inv X U Z H s)(ck:CapsOk X scope caps)
  (hf:∀ b∈fp,FpOk X U H b) (hb:∀ b∈fp,b<s.heap.objs.size) (ns:h'.Ns s.heap.objs.size fun x=>([]:List (Str×Value)).reverse.lookup x)
  (sb:Heap.SameBut s.heap.objs.size (s.heap.push { cls:=.type "dict",data:=.dict #[] }) h') :
  Inv (jch X scope (own++caps.map (·.1)) s.heap.objs.size s H fp) [] (jdc own.length caps Z) H { s with heap:=h',toks:=t' }:=by
 have up:=fun b o e=>sb.extBut b o (zcw (zbv e)) (zaz _ e)
 have stk:∀ b∈fp,b∉frs _:=fun b hb' z=>by
  obtain⟨_,f1,f2,_⟩:=hf b hb';rcases List.mem_cons.mp (I.stkSub b z) with q|q<;>grind
 have clc:∀ x c,(clOf _ _ []).lookup x=some c->X.env.cells.lookup x=some c:=fun x c h=>by
  rcases js3 _ _ h with e|⟨e1,e2⟩
  .cases e
  .obtain⟨c',hc'⟩:=I.ok.has x (ck.fre _ e1 rfl);rw[hc'] at e2 |-
   exact congrArg _ e2.symm
 have cell:=fun x c h=>I.cell x c (clc x c h)
 have okk:(jch X scope (own++caps.map (·.1)) s.heap.objs.size s H fp).Ok:=by
  refine⟨I.ok.mod,ck.kind,I.ok.glob,I.ok.blt,zac _,fun x y c h1 h2=>I.ok.inj x y c (clc x c h1) (clc y c h2),fun x hx=>?_,fun x c hfn=>?_,I.ok.hd,I.ok.frames,.inl rfl,fun b z=>⟨(zcw (hb b z)),fun x c h=>((hf b z).2.2.2.2.1 x c (clc x c h))⟩,I.bs,
   zdz I.ok.bsz I.sz,fun b o e z=>?_,stk,I.stack,I.stkFree⟩
  .have hx':∃ k,(scope.names.map fun (n,k)=>if (k == NameKind.free&&X.env.scope.kind == .function&&X.env.kindOf n == some .cell) then (n,NameKind.cell) else (n,k)).lookup x=some k/\(k=.cell\/k=.free):=by
    rcases hx with q|q
    .exact⟨_,q,.inl rfl⟩
    .exact⟨_,q,.inr rfl⟩
   obtain⟨k,q,hk⟩:=hx';obtain⟨k',e,r⟩:=jg3 (scope:=scope) q;have m:=PySem.mem_of_lookup e;have hfree:k'=.free:=by
    rcases r with r|r
    .rcases hk with hk|hk
     .exact absurd (r.symm.trans hk) (ck.nocell _ m)
     grind
    .exact r.1
   subst hfree;exact⟨_,jnf _ _ m⟩
  .cases hfn
  .rcases (hf b z).2.2.2.1 with q|q
   .exact I.ok.noex b o e q
   .exact absurd (zcx (zbv e) (zdz I.ok.bsz q)) (Nat.lt_irrefl _)
 refine⟨okk,rfl,I.bare,Un.kept up,⟨_,ns,fun i x v h1 h2 h3=>?_⟩,fun x c h=>?_,I.hok.fresh (zac _),fun x c h=>I.freeC x c (clc x c h),fun p hp=>absurd (show p∈([]) from hp) (by simp),I.hok.kept up,?_⟩
 .obtain⟨p,hp,hi,hv⟩:=jxs h2;have hx:=by
   have h1':(own++caps.map _)[i]? = some x:=h1;rw[List.getElem?_append_right hi,zba,hp] at h1';exact zby h1'
  subst hx;obtain⟨cN,cf⟩:=ck.cap p (List.mem_of_getElem? hp);have mem:=PySem.mem_of_lookup cf;obtain⟨m,hn,hl⟩:=I.loc;have kf:=ck.fre _ mem rfl;obtain⟨u,r,l⟩:=hl p.2 p.1 v cN hv (by rcases kf with q|q;exact .inr (.inl q);exact .inr (.inr q));refine⟨u,r,.inr ?_⟩;rcases l with ⟨k,_⟩|⟨k,c,e,z⟩
  .grind
  .refine⟨jg2 cf,c,?_,z.keeps up⟩;show (clOf _ _ []).lookup p.1=some c
   grind [jnf]
 .obtain⟨v,z⟩:=cell x c h;exact⟨v,z.keeps up⟩
 .show (jdc _ _ Z).length=(own++caps.map _).length;simp[jdc]
end
abbrev NoX:qc:=fun _ _=>False
def jC5(h:wpAny M A t Q NoX s):wpAny M A t Q E s:=wpAny_mono h (fun _ _ q=>q) fun _ _ q=>q.elim
abbrev jA0(ifs:List Expr)(env:Env):Sem Bool:=forIn ifs true fun c r=>if r=true then do let ok <- isTrue c env (eval c env);pure (ForInStep.yield ok) else pure (ForInStep.yield r)
def jo7{elt target iter:Expr}{ifs:List Expr}{scope:Scope}{pos:Pos}{it acc:Value}{env:Env}(Jq:Nat->Shared->Prop)
  (turn:∀ n s,Jq n s->wpAny (model prog w) A (pyNext it) (fun r s1=>match r with
   | none=>R (.ok .next) s1
   | some v=>wpAny (model prog w) A (letOwnedTupleGo target it v) (fun _ s2=>wpAny (model prog w) A (assign target env v) (fun _ s3=>wpAny (model prog w) A (jA0 ifs env) (fun ok s4 =>
     if ok=true then wpAny (model prog w) A (eval elt env) (fun x s5=>wpAny (model prog w) A (call (.builtin "list.append") [acc,x]) (fun _ s6=>∃ m,m<n/\Jq m s6) NoX s5) NoX s4
     else ∃ m,m<n/\Jq m s4) NoX s3) NoX s2) NoX s1) NoX s)
  (n:Nat) (h:Jq n s):codeAny (model prog w) A (.compLoop (.ListComp elt [⟨target,iter,ifs,0⟩] scope pos) 0 it acc env) R s:=by
 refine codeAny_loop rfl Jq (fun n s hJ=>?_) n h;refine wpAny_noted (jC5 ?_);refine zay (wpAny_standAt (zay (thn (turn n s hJ) fun r s1 h1=>?_)))
 cases r with
 | none=>exact zab h1
 | some v =>
  refine zay (thn h1 fun _ s2 h2=>zay (thn h2 fun _ s3 h3=>zay (thn h3 fun ok s4 h4=>?_)))
  cases ok with
  | false =>
   first
    | exact zab ⟨rfl,h4⟩
    | exact zay _
  | true =>
   first
    | exact zay (zay (thn h4 fun x s5 h5=>zay (thn h5 fun _ s6 h6=>zab (zab ⟨rfl,h6⟩))))
    | exact zay _
section
variable {X:Cx}
def PC0(X:Cx)(ifs:List Expr)(t:TT):Prop :=
 ∀ (U:qb) (s:Shared) (Z:St) (H:Hp) (Q:Bool->Hp->Prop),Inv X U Z H s->t Z H Q->wpAny (model X.prog X.w) X.A (jA0 ifs X.env) (TP X U Z Q) X.xe s
def jLd:TT:=fun _ H Q=>Q true H
def jzg:PC0 X [] jLd:=fun U s Z H Q I h=>wpAny_tests_nil ⟨H,I,h⟩
def jOk(h:PT X c t):PC0 X [c] t:=fun U s Z H Q I hw=>wpAny_tests_one (h _ s Z H Q I hw)
def jP4(u:Un fs ex H H' h h1)(hC:h.objs.size<=C)(sb:Heap.SameBut C h1 h2):Un fs ex H H' h h2:=by
 have ne:∀ b o,h.get? b=some o->b≠C:=fun b o e=>zcw (zcx (zbv e) hC)
 refine⟨fun b o e n a c=>(sb.2 b (ne b o e)).trans (u.keep b o e n a c),fun b o e n a c=>?_,u.free,fun b o e c=>?_,u.tups,u.frzs,u.tbls⟩
 .obtain⟨sl,q⟩:=u.slot b o e n a c;exact⟨sl,(sb.2 b (ne b o e)).trans q⟩
 .obtain⟨o',q⟩:=u.there b o e c;exact⟨o',(sb.2 b (ne b o e)).trans q⟩
inductive CpInv(X:Cx)(tn:Nat->Heap->Prop)(fp:List Addr)(W:Nat->Nat->St->Hp->Prop)(n:Nat)(s:Shared):Prop
 | mk (i:Nat) (Z:St) (H:Hp) (hI:Inv X [] Z H s) (ht:tn i s.heap) (hf:∀ b∈fp,H b=none) (hw:W i n Z H)
def jo8(hc:X.calm=true)(ck:CapsOk X scope caps)
  (hi:PI X tg iter wi) (hg:∀ C s0 H0 ex,PG (jch X scope (own++caps.map (·.1)) C s0 H0 ex) tg g) (ht:∀ C s0 H0 ex,PC0 (jch X scope (own++caps.map (·.1)) C s0 H0 ex) ifs tc)
  (he:∀ C s0 H0 ex,PE (jch X scope (own++caps.map (·.1)) C s0 H0 ex) elt te) (hs:∀ x,foldedSetIterable iter X.env x=pure x)
  (I:Inv X U Z H s) (h:jAw own.length caps wi g tc te Z H Q)
  (fin:∀ D H5 C s6 r,Inv X U Z H5 s6->FpOk X U H5 C->(∃ m,s6.heap.Ns C m)->Q (.ref D) H5->compPost (model X.prog X.w) X.A X.xe use QS (.ref D) C (.ok r) s6) :
  wpAny (model X.prog X.w) X.A (comprehension (.ListComp elt [⟨tg,iter,ifs,0⟩] scope pos) scope X.env p0 (newList []) false (eval iter X.env) use) QS X.xe s:=by
 refine wpAny_comprehension_free rfl hs (jux fun p hp hf=>I.ok.has p.1 (ck.fre p hp hf)) ck.kind ck.loc (thn (hi _ s Z H _ I h) fun v s1 h1=>thn h1 fun itv s2 h2=>?_);obtain⟨it,fp,tn,Jq,H2,e,I2,T,st2,f2,hw⟩:=h2;subst e;obtain⟨W,⟨m0,w0⟩,turn⟩:=hw _ (I2.hok.fresh (zac _));refine wpAny_newObj_type ?_;have I3:Inv X _ Z (upd H2 _ (.lst [])) _ :=
  I2.laid (t':=s2.toks) (fun b u e=>zaz _ e) (zac _) ⟨Nat.zero_le _,[],0,.nil,zbz _ rfl⟩
 have hlt:∀ b∈fp,b<s2.heap.objs.size:=fun b hb=>by obtain⟨o,e,_⟩:=T.obj _ _ st2 b hb;exact zbv e
 have f3:∀ b∈fp,FpOk X _ (upd H2 _ (.lst [])) b:=fun b hb=>⟨by rw[jam (zcw (hlt b hb))];exact (f2 b hb).1,(f2 b hb).2⟩
 refine wpAny_newFunctionEnv ck.nocell (by grind) (fun h' hns hsb=>?_) ck.kind;generalize hS3:({ s2 with heap:=s2.heap.push _ })=S3 at I3 hns hsb |-
 have hlt3':∀ b∈fp,b<S3.heap.objs.size:=by rw[<- hS3];exact (fun b hb=>by rw[Heap.size_push];grind)
 have I4:=jCm (own:=own) (t':=S3.toks+([]:List (Str×Value)).length) I3 ck f3 hlt3' hns hsb;have st4:=T.keep _ _ _ st2 fun b hb o e=>hsb.extBut b o (zcw (hlt3' b hb)) (zaz _ (by grind [PySem.Heap.get?_push_of_some]))
 have hsz:s2.heap.objs.size<S3.heap.objs.size:=by rw[<- hS3,Heap.size_push];exact Nat.lt_succ_self _
 generalize hCC:S3.heap.objs.size=C at I4 hsb hns hsz
 let Yq:=jch X scope (own++caps.map (·.1)) C S3 (upd H2 s2.heap.objs.size (.lst [])) fp
 have loop:codeAny (model X.prog X.w) X.A (.compLoop (.ListComp elt [⟨tg,iter,ifs,0⟩] scope pos) 0 (.ref it) (.ref s2.heap.objs.size) (compEnvC scope (clOf X.env.cells scope.names []) C X.env))
   (compPost (model X.prog X.w) X.A X.xe use QS (.ref s2.heap.objs.size) C) { S3 with heap:=h',toks:=S3.toks+([]:List (Str×Value)).length }:=by
  have xf:∀ {H':Hp},(∀ b∈fp,H' b=none)->∀ b∈fp,FpOk Yq [] H' b:=fun hn b hb=>⟨hn b hb,((I4.ok.exf b hb).1),(I4.ok.exfs b hb),.inl hb,fun x c e=>(I4.ok.exf b hb).2 x c e,fun p hp=>absurd (show p∈([]) from hp) (by simp)⟩
  refine jo7 (CpInv Yq tn fp W) ?_ m0
   ⟨0,_,_,I4,st4,fun b hb=>(f3 b hb).1,w0⟩
  rintro n s5 ⟨i,Z5,H5,I5,st5,fr5,w5⟩;rcases turn i n Z5 H5 w5 with ⟨stop,qn⟩|⟨go,N,hN,step⟩
  .refine thn (T.done Yq rfl rfl rfl hc i [] s5 Z5 H5 NoX I5 (xf fr5) st5 stop) fun r s6 hzz=>?_
   obtain⟨hr,I6⟩:=hzz;subst hr;obtain⟨m6,n6,_⟩:=id I6.loc;have C3:=Nat.le_of_eq hCC;have I7:=I3.call' I6.os (jP4 I6.base C3 (Heap.SameBut.refl _ _)) I6.hok I6.bare fun b hb=>by
    obtain⟨_,q1,_,q3,q4,q5⟩:=f3 b hb
    grind
   exact fin _ _ _ _ _ I7 (I3.fpOk C3 I6.free) ⟨m6,n6⟩ qn
  .refine thn (T.item Yq rfl rfl rfl hc i [] s5 Z5 H5 NoX I5 (xf fr5) st5 go) fun r s6 hzz=>?_
   obtain⟨u,hr,h6⟩:=hzz;subst hr;refine thn h6 fun _ s7 hzz=>?_
   obtain⟨x,H7,I7,r7,y7,st7,fr7⟩:=hzz;refine thn (hg _ _ _ _ _ s7 Z5 H7 x u _ (I7.pinned (xf fr7) (T.obj _ _ st7)) r7 (step x H7 y7)) fun _ s8 hzz=>?_
   obtain⟨Z8,H8,I8,q8⟩:=hzz;refine thn (ht _ _ _ _ _ s8 Z8 H8 _ I8 q8) fun ok s9 hzz=>?_
   obtain⟨H9,I9,q9⟩:=hzz;have again:∀ {s':Shared} {Z':St} {H':Hp},Inv Yq _ Z' H' s'->N Z' H'->∃ m,m<n/\CpInv Yq tn fp W m s':=fun {s' Z' H'} Ia na=>by
    obtain⟨m',hm,wa⟩:=hN Z' H' na;refine⟨m',hm,_,Z',H',Ia.unpinned,T.keep _ _ _ st7 fun b hb o e=>(Ia.pin _ (zcy _ (zcy _ (jhf hb e)))).1,fun b hb=>?_,wa⟩;obtain⟨o,e,d⟩:=T.obj _ _ st7 b hb;exact (Ia.pin _ (zcy _ (zcy _ (jhf hb e)))).2.1
   cases ok with
   | false =>
    grind
   | true =>
    refine thn (he _ _ _ _ _ s9 Z8 H9 _ I9 q9) fun y s10 hzz=>?_
    obtain⟨vy,H10,I10,r10,ys,hys,hlen,q10⟩:=hzz;refine thn (jiy _ s10 Z8 H10 (.ref _) _ _ [y] (fun _ H'=>N Z8 H') I10 rfl (.cons r10 .nil) ⟨_,ys,vy,rfl,rfl,hys,hlen,q10⟩) fun _ s11 hzz=>?_
    obtain⟨_,H11,I11,_,q11⟩:=hzz
    grind
 exact codeAny_compStart_list loop (T.self _ 0 _ _ _ st4 loop)
def jsb(hc:X.calm=true)(ck:CapsOk X scope caps)
  (hi:PI X tg iter wi) (hg:∀ C s0 H0 ex,PG (jch X scope (own++caps.map (·.1)) C s0 H0 ex) tg g) (ht:∀ C s0 H0 ex,PC0 (jch X scope (own++caps.map (·.1)) C s0 H0 ex) ifs tc)
  (he:∀ C s0 H0 ex,PE (jch X scope (own++caps.map (·.1)) C s0 H0 ex) elt te) (hs:∀ x,foldedSetIterable iter X.env x=pure x) :
  PE X (.ListComp elt [⟨tg,iter,ifs,0⟩] scope pos) (jAw own.length caps wi g tc te):=fun U s Z H Q I h=>jo8 hc ck hi hg ht he hs I h fun D H5 C s6 r I6 ⟨f1,f2,f3,f4,f5,f6⟩ ⟨m6,n6⟩ qn=>⟨m6,n6,fun h8 sb8=>⟨.ref D,H5,I6.turned (fun b o hb e=>(sb8.2 b hb).trans e) f1 f2 f4 f5 f6,rfl,qn⟩⟩
end
end L2
namespace DL
open L2
inductive D where
 | non|bl (b:Bool)|int (i:Int)|str (x:Str)|ty (n:String)|obj (i:Nat)|tup (xs:List D)|lst (xs:List D)
structure XD where
 cls:Str
 fs:List (Str×D)
abbrev M(α:Type):=Option (Except XD α)
noncomputable def M.b{α β:Type}(m:M α)(f:α->M β):M β:=match m with
 | none=>none
 | some (.error x)=>some (.error x)
 | some (.ok a)=>f a
noncomputable def M.p{α:Type}(a:α):M α:=some (.ok a)
noncomputable def M.o{α:Type}:Option α->M α
 | none=>none
 | some a=>some (.ok a)
inductive M.BInv{α β:Type}(m:M α)(f:α->M β)(r:Except XD β):Prop
 | ok (a:α) (h1:m=some (.ok a)) (h2:f a=some r)
 | err (x:XD) (h1:m=some (.error x)) (h2:r=.error x)
def M.b_inv(h:m.b f=some r):M.BInv m f r:=by
 cases m with
 | none=>cases h
 | some e =>
  cases e with
  | error x=>exact .err x rfl (zby h).symm
  | ok a=>exact .ok a rfl h
def M.b_b{α β γ:Type}{m:M α}{f:α->M β}{g:β->M γ}{r:M γ}(h:(m.b f).b g=r):m.b (fun x=>(f x).b g)=r:=by
 rw[<- h];rcases m with _|_|_<;>rfl
theorem M.o_inv(h:M.o m=some r):∃ a,m=some a/\r=.ok a:=by
 cases m with
 | none=>cases h
 | some a=>exact⟨a,rfl,(zby h).symm⟩
@[simp] theorem M.b_ok(a:α)(f:α->M β):M.b (some (.ok a)) f=f a:=rfl
@[simp] theorem M.b_p(a:α)(f:α->M β):M.b (M.p a) f=f a:=rfl
@[simp] theorem M.b_err(x:XD)(f:α->M β):M.b (some (.error x)) f=some (.error x):=rfl
@[simp] theorem M.o_some(a:α):M.o (some a)=M.p a:=rfl
abbrev Rho:=Nat->Option Addr
mutual
def Rep(J:Rho)(K:W.Frag)(H:Hp):D->V->Prop
 | .non,v=>v=.non
 | .bl b,v=>v=.bl b
 | .int i,v=>v=.int i
 | .str x,v=>v=.str x
 | .ty n,v=>v=.ty n
 | .obj i,v=>∃ a,J i=some a/\v=.ref a
 | .tup ds,v=>∃ a xs,v=.ref a/\SqT K H a xs/\Reps J K H ds xs
 | .lst ds,v=>∃ a xs,v=.ref a/\SqL K H a xs/\Reps J K H ds xs
def Reps(J:Rho)(K:W.Frag)(H:Hp):List D->List V->Prop
 | [],xs=>xs=[]
 | d::ds,xs=>∃ v vs,xs=v::vs/\Rep J K H d v/\Reps J K H ds vs
end
def jAe(e:Same H H')(h:Rd H a u):Rd H' a u:=by
 rcases h with h|⟨o,h⟩
 .exact .inl (e a _ h)
 .exact .inr ⟨o,e a _ h⟩
def jcj(e:Same H H')(h:SqL K H a xs):SqL K H' a xs:=h.imp (jAe e) id
def jcb(e:Same H H')(h:SqT K H a xs):SqT K H' a xs:=h.imp (jAe e) id
mutual
def Rep.mono(e:Same H H'):∀ {d:D} {v:V},Rep J K H d v->Rep J K H' d v
 | .non,_,h=>by unfold Rep at h |-;exact h
 | .bl _,_,h=>by unfold Rep at h |-;exact h
 | .int _,_,h=>by unfold Rep at h |-;exact h
 | .str _,_,h=>by unfold Rep at h |-;exact h
 | .ty _,_,h=>by unfold Rep at h |-;exact h
 | .obj _,_,h=>by unfold Rep at h |-;exact h
 | .tup _,_,h=>by
  unfold Rep at h |-
  obtain⟨a,xs,q1,q2,q3⟩:=h;exact⟨a,xs,q1,jcb e q2,Reps.mono e q3⟩
 | .lst _,_,h=>by
  unfold Rep at h |-
  obtain⟨a,xs,q1,q2,q3⟩:=h;exact⟨a,xs,q1,jcj e q2,Reps.mono e q3⟩
def Reps.mono(e:Same H H'):∀ {ds:List D} {vs:List V},Reps J K H ds vs->Reps J K H' ds vs
 | [],_,h=>by unfold Reps at h |-;exact h
 | _::_,_,h=>by
  unfold Reps at h |-
  obtain⟨v,vs,q1,q2,q3⟩:=h;exact⟨v,vs,q1,Rep.mono e q2,Reps.mono e q3⟩
end
def reps_nil:Reps J K H [] vs↔vs=[]:=Iff.rfl
def reps_cons:Reps J K H (d::ds) vs↔∃ v r,vs=v::r/\Rep J K H d v/\Reps J K H ds r:=by
 grind [Reps]
def Reps.cons(h:Rep J K H d v)(t:Reps J K H ds vs):Reps J K H (d::ds) (v::vs):=reps_cons.mpr ⟨v,vs,rfl,h,t⟩
def Reps.nil:Reps J K H [] []:=reps_nil.mpr rfl
theorem Reps.length:∀ {ds:List D} {vs:List V},Reps J K H ds vs->vs.length=ds.length
 | [],_,h=>by rw[reps_nil.mp h];rfl
 | _::_,_,h=>by
  obtain⟨v,r,rfl,_,t⟩:=reps_cons.mp h;simp[Reps.length t]
theorem Reps.get:∀ {ds:List D} {vs:List V} {i:Nat} {d:D},Reps J K H ds vs->ds[i]? = some d->∃ v,vs[i]? = some v/\Rep J K H d v
 | [],_,_,_,_,e=>by simp at e
 | _::_,_,0,_,h,e=>by
  obtain⟨v,r,rfl,q,_⟩:=reps_cons.mp h
  grind
 | _::_,_,i+1,_,h,e=>by
  obtain⟨v,r,rfl,_,t⟩:=reps_cons.mp h;obtain⟨u,q1,q2⟩:=Reps.get t (by simpa using e)
  grind
theorem Reps.append:∀ {ds es:List D} {vs us:List V},Reps J K H ds vs->Reps J K H es us->Reps J K H (ds++es) (vs++us)
 | [],_,_,_,h,k=>by rw[reps_nil.mp h];exact k
 | _::_,_,_,_,h,k=>by
  obtain⟨v,r,rfl,q,t⟩:=reps_cons.mp h;exact Reps.cons q (Reps.append t k)
def rep_int:Rep J K H (.int i) v↔v=.int i:=Iff.rfl
def rep_str:Rep J K H (.str x) v↔v=.str x:=Iff.rfl
def rep_ty:Rep J K H (.ty n) v↔v=.ty n:=Iff.rfl
def rep_obj:Rep J K H (.obj i) v↔∃ a,J i=some a/\v=.ref a:=Iff.rfl
def rep_bl:Rep J K H (.bl b) v↔v=.bl b:=Iff.rfl
def rep_non:Rep J K H .non v↔v=.non:=Iff.rfl
def rep_tup:Rep J K H (.tup ds) v↔∃ a xs,v=.ref a/\SqT K H a xs/\Reps J K H ds xs:=by grind [Rep]
def rep_lst:Rep J K H (.lst ds) v↔∃ a xs,v=.ref a/\SqL K H a xs/\Reps J K H ds xs:=by grind [Rep]
theorem reps_ints:∀ {ns:List Int} {vs:List V},Reps J K H (ns.map .int) vs↔vs=ns.map V.int
 | [],vs=>reps_nil
 | n::ns,vs=>by
  constructor
  .rintro⟨v,r,rfl,h1,h2⟩;rw[rep_int.mp h1,reps_ints.mp h2];rfl
  .rintro rfl;exact⟨_,_,rfl,rep_int.mpr rfl,reps_ints.mpr rfl⟩
def hid(H:Hp)(G:qd):Hp:=fun b=>if G b=true then none else H b
def hid_some:hid H G b=some o↔G b=false/\H b=some o:=by
 grind [hid]
theorem jad(e:Same H H'):Same (hid H G) (hid H' G):=fun b o h=>by
 obtain⟨q1,q2⟩:=hid_some.mp h;exact hid_some.mpr ⟨q1,e b o q2⟩
def jc4(h:∀ b,G' b=true->G b=true):Same (hid H G) (hid H G'):=fun b o q=>by
 obtain⟨q1,q2⟩:=hid_some.mp q;refine hid_some.mpr ⟨?_,q2⟩
 grind
def jaf:Same (hid H G) H:=fun b o q=>(hid_some.mp q).2
def jdr{G:qd}{a:Addr}{o:HO}(h:G a=true):hid (upd H a o) G=hid H G:=by
 funext b
 unfold hid upd
 grind
def jal{p:Addr}{o:HO}(h:H p=none):Same H (upd H p o):=fun b u e=>by rw[jam (jau e h)];exact e
def jl7(e:Same Hz H)(h:Hz p=none):Same Hz (upd H p o):=fun b u q=>by rw[jam (jau q h)];exact e b u q
abbrev DSt:=List (Option D)
def jKp:Option (Option V)->Option Addr
 | some (some (.ref a))=>some a
 | _=>none
def jvp:jKp o=some a↔o=some (some (.ref a)):=by
 constructor
 .intro h;unfold jKp at h
  grind
 .rintro rfl;rfl
def ownA(Z:St):List Nat->List Addr
 | []=>[]
 | i::O=>(jKp Z[i]?).toList++ownA Z O
def jC1:a∈ownA Z O↔∃ i∈O,Z[i]? = some (some (.ref a)):=by
 induction O with
 | nil=>simp[ownA]
 | cons j O ih =>
  unfold ownA;rw[zdy,ih,Option.mem_toList,jvp]
  grind
def fob(F:qd)(Z:St)(O:List Nat):qd:=fun b=>F b || (ownA Z O).contains b
def fob_t:fob F Z O b=true↔F b=true\/∃ i∈O,Z[i]? = some (some (.ref b)):=by
 unfold fob;rw[Bool.or_eq_true,zbc,jC1]
theorem jcg:fob F Z []=F:=by
 unfold fob ownA;simp
structure RS(J:Rho)(K:W.Frag)(Hz H:Hp)(F:qd)(O:List Nat)(Z:St)(Y:DSt):Prop where
 len:Z.length=Y.length
 same:Same Hz H
 fin:∀ b,F b=true->H b≠none
 val:∀ (i:Nat) d,Y[i]? = some (some d)->i∉O->∃ v,Z[i]? = some (some v)/\Rep J K (hid H (fob F Z O)) d v
 own:∀ i∈O,∃ (a:Addr) (xs:List V) (ds:List D),Y[i]? = some (some (.lst ds))/\Z[i]? = some (some (.ref a))/\H a=some (.lst xs)/\(Hz a=none/\F a=false)/\Reps J K (hid H (fob F Z O)) ds xs
 nd:∀ i∈O,∀ j∈O,∀ a,Z[i]? = some (some (.ref a))->Z[j]? = some (some (.ref a))->i=j
section
variable {Hz:Hp}{F:qd}{O:List Nat}{Z:St}{Y:DSt}
def jKy(e:Same H H')(h:H b≠none):H' b≠none:=fun z=>by
 cases q:H b with
 | none=>exact h q
 | some o=>rw[e b o q] at z;cases z
def jkf{b p:Addr}{o:HO}(h:H b≠none):upd H p o b≠none:=by
 grind [jaj,jam]
def RS.mono(R:RS J K Hz H F O Z Y)(e:Same H H'):RS J K Hz H' F O Z Y :=
 ⟨R.len,R.same.trans e,fun b hb=>jKy e (R.fin b hb),fun i d h ho=>let ⟨v,q1,q2⟩:=R.val i d h ho;⟨v,q1,q2.mono (jad e)⟩,
  fun i hi=>let ⟨a,xs,ds,q1,q2,q3,q4,q5⟩:=R.own i hi;⟨a,xs,ds,q1,q2,e a _ q3,q4,q5.mono (jad e)⟩,R.nd⟩
theorem RS.fresh(R:RS J K Hz H F O Z Y)(h:H p=none):fob F Z O p=false:=by
 cases e:fob F Z O p with
 | false=>rfl
 | true =>
  rcases fob_t.mp e with q|⟨i,hi,q⟩
  .exact absurd h (R.fin p q)
  .obtain⟨a,xs,ds,_,q2,q3,_⟩:=R.own i hi
   grind
def RS.fresh0(R:RS J K Hz H F O Z Y)(h:H p=none):Hz p=none:=by
 cases e0:Hz p with
 | none=>rfl
 | some o=>rw[R.same p o e0] at h;cases h
def RS.thaw(R:RS J K Hz H F O Z Y)(h:∀ i∈O',i∈O):RS J K Hz H F O' Z Y:=by
 have le:∀ b,fob F Z O' b=true->fob F Z O b=true:=fun b q=>by
  rcases fob_t.mp q with q|⟨i,hi,q⟩
  .exact fob_t.mpr (.inl q)
  .exact fob_t.mpr (.inr ⟨i,h i hi,q⟩)
 refine⟨R.len,R.same,R.fin,fun i d hd ho=>?_,fun i hi=>?_,fun i hi j hj=>R.nd i (h i hi) j (h j hj)⟩
 .by_cases hO:i∈O
  .obtain⟨a,xs,ds,q1,q2,q3,q4,q5⟩:=R.own i hO;rw[q1] at hd;cases hd
   refine⟨_,q2,rep_lst.mpr ⟨a,xs,rfl,SqL.of (hid_some.mpr ⟨?_,q3⟩),q5.mono (jc4 le)⟩⟩
   cases e:fob F Z O' a with
   | false=>rfl
   | true =>
    rcases fob_t.mp e with z|⟨j,hj,z⟩
    .grind
    .exact absurd (R.nd i hO j (h j hj) a q2 z ▸ hj) ho
  .obtain⟨v,q1,q2⟩:=R.val i d hd hO;exact⟨v,q1,q2.mono (jc4 le)⟩
 .obtain⟨a,xs,ds,q1,q2,q3,q4,q5⟩:=R.own i (h i hi);exact⟨a,xs,ds,q1,q2,q3,q4,q5.mono (jc4 le)⟩
theorem je5(h:i∉O):fob F (Z.set i (some v)) O=fob F Z O:=by
 have:ownA (Z.set i (some v)) O=ownA Z O:=by
  induction O with
  | nil=>rfl
  | cons j O ih =>
   unfold ownA
   grind
 grind [fob]
def RS.set(R:RS J K Hz H F O Z Y)(ho:i∉O)(hr:Rep J K (hid H (fob F Z O)) d v):RS J K Hz H F O (Z.set i (some v)) (Y.set i (some d)):=by
 have ne:∀ j∈O,j≠i:=fun j hj e=>ho (e ▸ hj)
 refine⟨by simp[R.len],R.same,R.fin,fun j e hd hj=>?_,fun j hj=>?_,fun j hj k hk a e1 e2=>?_⟩
 .rw[je5 ho]
  by_cases hji:j=i
  .subst hji;have hl:j<Y.length:=by
    by_cases q:j<Y.length
    .exact q
    .grind
   rw[zcz hl] at hd;cases hd;exact⟨v,zcz (by rw[R.len];exact hl),hr⟩
  .rw[zbw (Ne.symm hji)] at hd |-
   exact R.val j e hd hj
 .rw[je5 ho,zbw (Ne.symm (ne j hj)),zbw (Ne.symm (ne j hj))];exact R.own j hj
 .rw[zbw (Ne.symm (ne j hj))] at e1;rw[zbw (Ne.symm (ne k hk))] at e2;exact R.nd j hj k hk a e1 e2
def jkp{o:HO}{H1:Hp}{p:Addr}{i:Nat}{F:qd}{Z:St}{O:List Nat}(ho:i∉O)(lZ:i<Z.length)(hp:H1 p=none):hid (upd H1 p o) (fob F (Z.set i (some (.ref p))) (i::O))=hid H1 (fob F Z O):=by
 have ne:∀ j∈O,j≠i:=fun j hj e=>ho (e ▸ hj)
 have gp:∀ b,fob F (Z.set i (some (.ref p))) _ b=true↔b=p\/fob F Z O b=true:=fun b=>by
  rw[fob_t,fob_t];constructor
  .rintro (q|⟨j,hj,q⟩)
   .exact .inr (.inl q)
   .rcases List.mem_cons.mp hj with rfl|hj
    .rw[zcz lZ] at q;cases q;exact .inl rfl
    .rw[zbw (Ne.symm (ne j hj))] at q;exact .inr (.inr ⟨j,hj,q⟩)
  .rintro (rfl|q|⟨j,hj,q⟩)
   .exact .inr ⟨i,zaa,zcz lZ⟩
   .exact .inl q
   .exact .inr ⟨j,zaw _ hj,by rw[zbw (Ne.symm (ne j hj))];exact q⟩
 funext b
 by_cases hb:b=p
 .subst hb;unfold hid;rw[if_pos ((gp b).mpr (.inl rfl)),hp]
  split<;>rfl
 .unfold hid;rw[jam hb]
  cases q:fob F Z O b with
  | true=>rw[if_pos ((gp b).mpr (.inr q)),if_pos rfl]
  | false =>
   rw[if_neg (by rw[gp];rintro (z|z);exact hb z;rw[q] at z;cases z),if_neg nofun]
def RS.take(R:RS J K Hz H F O Z Y)(ho:i∉O)(hi:i<Y.length)(e:Same H H1)(hp:H1 p=none)(hr:Reps J K (hid H1 (fob F Z O)) ds xs) :
  RS J K Hz (upd H1 p (.lst xs)) F (i::O) (Z.set i (some (.ref p))) (Y.set i (some (.lst ds))):=by
 have R1:=R.mono e;have p0:=R1.fresh0 hp;have pf:=R1.fresh hp;have ne:∀ j∈O,j≠i:=fun j hj e=>ho (e ▸ hj)
 have lZ:i<Z.length:=by rw[R.len];exact hi
 have eqH:=jkp (F:=F) (o:=.lst xs) ho lZ hp;refine⟨by simp[R.len],jl7 R1.same p0,fun b hb=>jkf (R1.fin b hb),fun j d hd hj=>?_,fun j hj=>?_,fun j hj k hk a e1 e2=>?_⟩
 .have hji:j≠i:=fun z=>hj (z ▸ zaa)
  rw[eqH];rw[zbw (Ne.symm hji)] at hd |-
  exact R1.val j d hd fun z=>hj (zaw _ z)
 .rw[eqH];rcases List.mem_cons.mp hj with rfl|hj
  .exact⟨p,xs,ds,zcz hi,zcz lZ,jaj,⟨p0,by cases z:F p with|false=>rfl|true=>rw[fob_t.mpr (.inl z)] at pf;cases pf⟩,hr⟩
  .obtain⟨a,ys,es,q1,q2,q3,q4,q5⟩:=R1.own j hj;refine⟨a,ys,es,by rw[zbw (Ne.symm (ne j hj))];exact q1,by rw[zbw (Ne.symm (ne j hj))];exact q2,?_,q4,q5⟩;rw[jam (jau q3 hp)];exact q3
 .have np:∀ j∈O,∀ a,Z[j]? = some (some (.ref a))->a≠p:=fun j hj a q z=>by
   obtain⟨a',ys,es,q1,q2,q3,q4,q5⟩:=R1.own j hj;rw[q] at q2;cases q2
   rw[z,hp] at q3;cases q3
  rcases List.mem_cons.mp hj with rfl|hj
  .rw[zcz lZ] at e1;cases e1;rcases List.mem_cons.mp hk with rfl|hk
   .rfl
   .rw[zbw (Ne.symm (ne k hk))] at e2;exact absurd rfl (np k hk p e2)
  .rw[zbw (Ne.symm (ne j hj))] at e1;rcases List.mem_cons.mp hk with hke|hk
   .subst hke;rw[zcz lZ] at e2;cases e2;exact absurd rfl (np j (by assumption) p e1)
   .rw[zbw (Ne.symm (ne k hk))] at e2;exact R.nd j hj k hk a e1 e2
def RS.write(R:RS J K Hz H F O Z Y)(hi:i∈O)(ha:Z[i]? = some (some (.ref a)))(hr:Reps J K (hid H (fob F Z O)) ds xs) :
  RS J K Hz (upd H a (.lst xs)) F O Z (Y.set i (some (.lst ds))):=by
 obtain⟨a',ys,es,q1,q2,q3,q4,q5⟩:=R.own i hi;rw[ha] at q2;cases q2
 have hh:hid (upd H a (.lst xs)) _=hid H (fob F Z O):=jdr (fob_t.mpr (.inr ⟨i,hi,ha⟩));refine⟨by simp[R.len],jl7 R.same q4.1,fun b hb=>jkf (R.fin b hb),fun j d hd hj=>?_,fun j hj=>?_,R.nd⟩
 .have hji:j≠i:=fun z=>hj (z ▸ hi)
  rw[hh];rw[zbw (Ne.symm hji)] at hd;exact R.val j d hd hj
 .rw[hh]
  by_cases hji:j=i
  .subst hji;exact⟨a,xs,ds,zcz ((zbb.mp q1).1),ha,jaj,q4,hr⟩
  .obtain⟨b,zs,fs,p1,p2,p3,p4,p5⟩:=R.own j hj;refine⟨b,zs,fs,by grind,p2,?_,p4,p5⟩;rw[jam (fun z=>hji (R.nd j hj i hi b p2 (by grind)))];exact p3
end
def XRep(K:W.Frag)(H:Hp)(x:XD)(c:Value)(dx:Option Addr):Prop:=False
def okX(K:W.Frag)(Hz:Hp)(E:XK)(x:XD):Prop:=∀ c dx H',Same Hz H'->XRep K H' x c dx->E c dx H'
def kY{α β:Type}(Rel:Rho->W.Frag->Hp->α->β->Prop)(J:Rho)(K:W.Frag)(O:List Nat)(E:XK)(Hz:Hp)(F:qd)(Z:St)(H:Hp)(Q:β->Hp->Prop):Except XD α->Prop
 | .ok d=>∀ v H',Same H H'->Rel J K (hid H' (fob F Z O)) d v->Q v H'
 | .error x=>okX K Hz E x
def kY.up{α β:Type}{Rel:Rho->W.Frag->Hp->α->β->Prop}{J:Rho}{K:W.Frag}{O:List Nat}{E:XK}{Hz:Hp}{F:qd}{Z:St}{H H1:Hp}{Q:β->Hp->Prop}{r:Except XD α}(k:kY Rel J K O E Hz F Z H Q r)(s:Same H H1):kY Rel J K O E Hz F Z H1 Q r:=by
 cases r with
 | ok d=>exact fun v H' s' r'=>k v H' (s.trans s') r'
 | error y=>exact k
inductive tY{α β:Type}(Rel:Rho->W.Frag->Hp->α->β->Prop)(K:W.Frag)(O:List Nat)(E:XK)(f:DSt->M α)(Z:St)(H:Hp)(Q:β->Hp->Prop):Prop
 | mk (J:Rho) (Hz:Hp) (F:qd) (Y:DSt) (r:Except XD α) (R:RS J K Hz H F O Z Y) (hf:f Y=some r) (k:kY Rel J K O E Hz F Z H Q r)
abbrev tD:=@tY _ _ Rep
def bD{α β γ:Type}{Rel:Rho->W.Frag->Hp->α->β->Prop}{K:W.Frag}{O:List Nat}{E:XK}{Z:St}{H Hz:Hp}{J:Rho}{F:qd}{Y:DSt}{Q:β->Hp->Prop}{fo:DSt->M α}{g:α->M γ}{r:Except XD γ}{C:Except XD γ->Prop}(R:RS J K Hz H F O Z Y)(hf:(fo Y).b g=some r)(k:C r)
  (c:∀ d,g d=some r->∀ v H',Same H H'->Rel J K (hid H' (fob F Z O)) d v->Q v H') (hk:autoParam (∀ x,C (.error x)->okX K Hz E x) zau1._auto_1):tY Rel K O E fo Z H Q:=by
 rcases M.b_inv hf with ⟨d,e1,h⟩|⟨x,e1,rfl⟩
 .exact⟨J,_,F,Y,_,R,e1,c d h⟩
 .exact⟨J,_,F,Y,_,R,e1,hk x k⟩
def DE(X:Cx)(O:List Nat)(E:XK)(e:Expr)(f:DSt->M D):Prop:=PE X e (tD X.K O E f)
def kB{α:Type}(K:W.Frag)(E:XK)(Hz H:Hp)(Q:α->Hp->Prop):Except XD α->Prop
 | .ok b=>∀ H',Same H H'->Q b H'
 | .error x=>okX K Hz E x
def kB.up{α:Type}{K:W.Frag}{E:XK}{Hz H H1:Hp}{Q:α->Hp->Prop}{r:Except XD α}(k:kB K E Hz H Q r)(s:Same H H1):kB K E Hz H1 Q r:=by
 cases r with
 | ok d=>exact fun H' s'=>k H' (s.trans s')
 | error y=>exact k
inductive tZ{α:Type}(K:W.Frag)(O:List Nat)(E:XK)(f:DSt->M α)(Z:St)(H:Hp)(Q:α->Hp->Prop):Prop
 | mk (J:Rho) (Hz:Hp) (F:qd) (Y:DSt) (r:Except XD α) (R:RS J K Hz H F O Z Y) (hf:f Y=some r) (k:kB K E Hz H Q r)
abbrev tB:=@tZ Bool
def bDB{α γ:Type}{K:W.Frag}{O:List Nat}{E:XK}{Z:St}{H Hz:Hp}{J:Rho}{F:qd}{Y:DSt}{Q:α->Hp->Prop}{fo:DSt->M α}{g:α->M γ}{r:Except XD γ}{C:Except XD γ->Prop}(R:RS J K Hz H F O Z Y)(hf:(fo Y).b g=some r)(k:C r)
  (c:∀ d,g d=some r->∀ H',Same H H'->Q d H') (hk:autoParam (∀ x,C (.error x)->okX K Hz E x) zau1._auto_1):tZ K O E fo Z H Q:=by
 rcases M.b_inv hf with ⟨d,e1,h⟩|⟨x,e1,rfl⟩
 .exact⟨J,_,F,Y,_,R,e1,c d h⟩
 .exact⟨J,_,F,Y,_,R,e1,hk x k⟩
def DT(X:Cx)(O:List Nat)(E:XK)(e:Expr)(f:DSt->M Bool):Prop:=PT X e (tB X.K O E f)
abbrev tL:=@tY _ _ Reps
def DA(X:Cx)(O:List Nat)(E:XK)(es:List Expr)(f:DSt->M (List D)):Prop:=PA X es (tL X.K O E f)
def vR(i:Nat):DSt->M D:=fun Y=>M.o (Y[i]?).join
def fC(d:D):DSt->M D:=fun _=>M.p d
def f2(g:D->D->Option D)(fa fb:DSt->M D):DSt->M D:=fun Y=>(fa Y).b fun x=>(fb Y).b fun y=>M.o (g x y)
def f1(g:D->Option D)(fa:DSt->M D):DSt->M D:=fun Y=>(fa Y).b fun x=>M.o (g x)
def t2(g:D->D->Option D)(fa fb:DSt->M D):DSt->M Bool:=fun Y=>(fa Y).b fun x=>(fb Y).b fun y=>match g x y with
 | some (.bl b)=>M.p b
 | _=>none
def fNil:DSt->M (List D):=fun _=>M.p []
def jaa(f:DSt->M D)(g:DSt->M (List D)):DSt->M (List D):=fun Y=>(f Y).b fun x=>(g Y).b fun xs=>M.p (x::xs)
def fL(k:List D->Option D)(g:DSt->M (List D)):DSt->M D:=fun Y=>(g Y).b fun xs=>M.o (k xs)
section
variable {X:Cx}
def join_some{Y:DSt}{i:Nat}(h:(Y[i]?).join=some d):Y[i]? = some (some d):=by
 cases e:Y[i]? with
 | none=>rw[e] at h;cases h
 | some o=>rw[e] at h;exact congrArg _ h
def jpa(i:Nat)(ho:autoParam (O.contains i=false) zau2._auto_1)(hN:autoParam (X.N[i]? = some x) zau2._auto_1)(hv:autoParam (Vis X.env.scope x) zau3._auto_1)
  (hd:autoParam (qh x) zau0._auto_1) (hcd:autoParam ((x == ("__classdict__":Str))=false) zau0._auto_1):DE X O E (.Name x pos) (vR i):=by
 rintro U s Z H Q I ⟨J,Hz,F,Y,r,R,hf,h⟩;obtain⟨d,e,rfl⟩:=M.o_inv hf;obtain⟨v,q1,q2⟩:=R.val i d (join_some e) (fun z=>by grind);exact jl1 hN hv hd hcd _ s Z H Q I ⟨v,q1,h v H (Same.refl H) q2⟩
def jjz{t:TE}{d:D}{v:V}(h:PE X e (tC v))(hr:∀ J H,Rep J X.K H d v):DE X O E e (fC d):=by
 rintro U s Z H Q I ⟨J,Hz,F,Y,r,R,hf,k⟩;cases hf;exact h _ s Z H Q I (k v H (Same.refl H) (hr _ _))
def js7:DE X O E (.Constant (.int i) j pos) (fC (.int i)):=jjz (t:=tC (.int i)) jOn fun _ _=>rep_int.mpr rfl
def jQp:DE X O E (.Constant (.bool k) j pos) (fC (.bl k)):=jjz (t:=tC (.bl k)) jRv fun _ _=>rep_bl.mpr rfl
def jMa:DE X O E (.Constant .none j pos) (fC .non):=jjz (t:=tC .non) jOo fun _ _=>rep_non.mpr rfl
def jMd:DE X O E (.Constant (.str x) j pos) (fC (.str x)):=jjz (t:=tC (.str x)) jOr fun _ _=>rep_str.mpr rfl
def OpD(K:W.Frag)(g:D->D->Option D)(r:R2):Prop:=∀ x y d,g x y=some d->∀ (J:Rho) (H:Hp) (G:qd) u v (Q:VK),(∀ p,H p=none->G p=false)->Rep J K (hid H G) x u->Rep J K (hid H G) y v ->
 (∀ w H',Same H H'->Rep J K (hid H' G) d w->Q w H')->r u v H Q
def UnD(K:W.Frag)(g:D->Option D)(r:V->Hp->VK->Prop):Prop:=∀ x d,g x=some d->∀ (J:Rho) (H:Hp) (G:qd) u (Q:VK),(∀ p,H p=none->G p=false)->Rep J K (hid H G) x u ->
 (∀ w H',Same H H'->Rep J K (hid H' G) d w->Q w H')->r u H Q
def CaD(K:W.Frag)(g:List D->Option D)(r:List V->Hp->VK->Prop):Prop:=∀ xs d,g xs=some d->∀ (J:Rho) (H:Hp) (G:qd) us (Q:VK),(∀ p,H p=none->G p=false)->Reps J K (hid H G) xs us ->
 (∀ w H',Same H H'->Rep J K (hid H' G) d w->Q w H')->r us H Q
def jsw(hg:OpD X.K g r)(h:tD X.K O E (f2 g fa fb) Z H Q):tOp r (tD X.K O E fa) (tD X.K O E fb) Z H Q:=by
 obtain⟨J,Hz,F,Y,rr,R,hf,h⟩:=h;refine bD R hf h fun x hf u H1 s1 r1=>?_
 refine bD (R.mono s1) hf h fun y hf v H2 s2 r2=>?_
 obtain⟨d,hd,rfl⟩:=M.o_inv hf;exact hg x y d hd J H2 _ u v Q (fun p hp=>(R.mono (s1.trans s2)).fresh hp) (r1.mono (jad s2)) r2 fun w H3 s3 r3=>h w H3 (s1.trans (s2.trans s3)) r3
def jQq(ho:OpR X (binaryOp op) r)(hg:OpD X.K g r)(ha:DE X O E a fa)(hb:DE X O E b fb):DE X O E (.BinOp a op b pos) (f2 g fa fb) :=
 fun U s Z H Q I h=>jOq ho ha hb _ s Z H Q I (jsw hg h)
def jHr(ho:IxR X r)(hg:OpD X.K g r)(ha:DE X O E a fa)(hb:DE X O E b fb)(hs:autoParam (ji4 b) zau4._auto_1):DE X O E (.Subscript a b pos) (f2 g fa fb) :=
 fun U s Z H Q I h=>jDl ho ha hb hs _ s Z H Q I (jsw hg h)
def jL5(ho:OpR X (compareOp op) r)(hg:OpD X.K g r)(ha:DE X O E a fa)(hb:DE X O E b fb)(hm:behindInMarks op b=false):DE X O E (.Compare a [op] [b] pos) (f2 g fa fb) :=
 fun U s Z H Q I h=>jJ8 ho ha hb hm _ s Z H Q I (jsw hg h)
def jMp(ho:OpR X (compareOp op) r)(hg:OpD X.K g r)(ha:DE X O E a fa)(hb:DE X O E b fb)(hm:behindInMarks op b=false):DT X O E (.Compare a [op] [b] pos) (t2 g fa fb):=by
 rintro U s Z H Q I ⟨J,Hz,F,Y,rr,R,hf,h⟩;refine jsc ho ha hb hm _ s Z H Q I (jsw hg ?_);have key:∃ r':Except XD D,f2 g fa fb Y=some r'/\(match r',rr with|.ok d,.ok b=>d=.bl b|.error x,.error y=>x=y|_,_=>False):=by
  rcases M.b_inv hf with ⟨x,e1,hf⟩|⟨x,e1,rfl⟩
  .rcases M.b_inv hf with ⟨y,e2,hf⟩|⟨y,e2,rfl⟩
   .unfold f2;rw[e1,M.b_ok,e2,M.b_ok]
    cases e3:g x y with
    | none=>rw[e3] at hf;cases hf
    | some d =>
     rw[e3] at hf
     cases d with
     | bl k=>cases hf;exact⟨_,rfl,rfl⟩
     | _=>cases hf
   .exact⟨_,by unfold f2;rw[e1,M.b_ok,e2];rfl,rfl⟩
  .exact⟨_,by unfold f2;rw[e1];rfl,rfl⟩
 obtain⟨r',e,q⟩:=key;refine⟨J,_,F,Y,r',R,e,?_⟩
 cases r' with
 | error x=>cases rr with
  | error y=>exact h
  | ok _=>exact q.elim
 | ok d=>cases rr with
  | error y=>exact q.elim
  | ok k =>
   cases q;exact fun v H' s' rv=>⟨k,rep_bl.mp rv,h H' s'⟩
def jSn(hg:UnD X.K g r)(h:tD X.K O E (f1 g fa) Z H Q):tUn r (tD X.K O E fa) Z H Q:=by
 obtain⟨J,Hz,F,Y,rr,R,hf,h⟩:=h;refine bD R hf h fun x hf u H1 s1 r1=>?_
 obtain⟨d,hd,rfl⟩:=M.o_inv hf;exact hg x d hd J H1 _ u Q (fun p hp=>(R.mono s1).fresh hp) r1 fun w H3 s3 r3=>h w H3 (s1.trans s3) r3
def jQt(ho:UnR X (unaryOp op) r)(hg:UnD X.K g r)(ha:DE X O E a fa):DE X O E (.UnaryOp op a pos) (f1 g fa) :=
 fun U s Z H Q I h=>jRx ho ha _ s Z H Q I (jSn hg h)
def jE8:DA X O E [] fNil:=by
 rintro p U s Z H Q I ⟨J,Hz,F,Y,r,R,hf,h⟩;cases hf;exact jht p _ s Z H Q I (h [] H (Same.refl H) Reps.nil)
def jra(ha:DE X O E e fa)(hr:DA X O E es fl)(hs:autoParam (zsE e es X.env) zau2._auto_1):DA X O E (e::es) (jaa fa fl):=by
 rintro p U s Z H Q I ⟨J,Hz,F,Y,r,R,hf,h⟩;refine jet ha hr hs p _ s Z H Q I ?_;refine bD R hf h fun x hf u H1 s1 r1=>?_
 refine bD (R.mono s1) hf h fun xs hf vs H2 s2 r2=>?_
 cases hf;exact h _ H2 (s1.trans s2) (Reps.cons (r1.mono (jad s2)) r2)
def jyb(hg:CaD X.K k r)(h:tD X.K O E (fL k fl) Z H Q):tCB r (tL X.K O E fl) Z H Q:=by
 obtain⟨J,Hz,F,Y,rr,R,hf,h⟩:=h;refine bD R hf h fun x hf u H1 s1 r1=>?_
 obtain⟨d,hd,rfl⟩:=M.o_inv hf;exact hg x d hd J H1 _ u Q (fun p hp=>(R.mono s1).fresh hp) r1 fun w H3 s3 r3=>h w H3 (s1.trans s3) r3
def jBs{id:String}(hc:CallR X (.builtin id) r)(hg:CaD X.K k r)(hG:Gl X x)(hm:X.mg x=none)(hv:bootBuiltins x=some (.builtin id))(ha:DA X O E (e::es) fl)
  (hn:x≠"__name__") (hdb:(x == ("__debug__":Str))=false) (he:zsE e es X.env) (hpl:zbT pos es X.env) :
  DE X O E (.Call (.Name x p) (e::es) [] pos) (fL k fl):=fun U s Z H Q I h=>job hc hG hm hv ha hn hdb he hpl _ s Z H Q I (jyb hg h)
def jw5(hc:CallR X (.type T) r)(hg:CaD X.K k r)(hG:Gl X x)(hm:X.mg x=none)(hv:bootBuiltins x=some (.type T))(ha:DA X O E (e::es) fl)
  (hn:x≠"__name__") (hdb:(x == ("__debug__":Str))=false) (he:zsE e es X.env) (hpl:zbT pos es X.env) :
  DE X O E (.Call (.Name x p) (e::es) [] pos) (fL k fl):=fun U s Z H Q I h=>jl0 hc hG hm hv ha hn hdb he hpl _ s Z H Q I (jyb hg h)
def ja1(xs:List D):Option D:=if xs.length<=sizeLine then some (.tup xs) else none
def jar(xs:List D):Option D:=if xs.length<=sizeLine then some (.lst xs) else none
def jbc{J:Rho}{K:W.Frag}{H:Hp}{G:qd}{p:Addr}{vs:List V}{ds:List D}(hp:H p=none)(hG:G p=false)(h:Reps J K (hid H G) ds vs):Rep J K (hid (upd H p (.tup vs)) G) (.tup ds) (.ref p) :=
 rep_tup.mpr ⟨p,vs,rfl,SqT.of (hid_some.mpr ⟨hG,jaj⟩),h.mono (jad (jal hp))⟩
def jcq{J:Rho}{K:W.Frag}{H:Hp}{G:qd}{p:Addr}{vs:List V}{ds:List D}(hp:H p=none)(hG:G p=false)(h:Reps J K (hid H G) ds vs):Rep J K (hid (upd H p (.lst vs)) G) (.lst ds) (.ref p) :=
 rep_lst.mpr ⟨p,vs,rfl,SqL.of (hid_some.mpr ⟨hG,jaj⟩),h.mono (jad (jal hp))⟩
def jFa(h:DA X O E es fl):DE X O E (.Tuple es x1 pos) (fL ja1 fl):=by
 rintro U s Z H Q I ⟨J,Hz,F,Y,rr,R,hf,k⟩;refine jGa h _ s Z H Q I ?_;refine bD R hf k fun x hf u H1 s1 r1=>?_
 obtain⟨d,hd,rfl⟩:=M.o_inv hf;unfold ja1 at hd
 split at hd
 .rename_i hz;cases hd;exact⟨by rw[r1.length];exact hz,fun p hp=>k _ _ (s1.trans (jal hp)) (jbc hp ((R.mono s1).fresh hp) r1)⟩
 .cases hd
def jE9(h:DA X O E es fl):DE X O E (.List es pos) (fL jar fl):=by
 rintro U s Z H Q I ⟨J,Hz,F,Y,rr,R,hf,k⟩;refine jp9 h _ s Z H Q I ?_;refine bD R hf k fun x hf u H1 s1 r1=>?_
 obtain⟨d,hd,rfl⟩:=M.o_inv hf;unfold jar at hd
 split at hd
 .rename_i hz;cases hd;exact⟨by rw[r1.length];exact hz,fun p hp=>k _ _ (s1.trans (jal hp)) (jcq hp ((R.mono s1).fresh hp) r1)⟩
 .cases hd
def fAnd(fa fb:DSt->M D):DSt->M D:=fun Y=>(fa Y).b fun x=>match x with
 | .bl true=>fb Y
 | .bl false=>M.p (.bl false)
 | _=>none
def fOr(fa fb:DSt->M D):DSt->M D:=fun Y=>(fa Y).b fun x=>match x with
 | .bl true=>M.p (.bl true)
 | .bl false=>fb Y
 | _=>none
def gNot:D->Option D
 | .bl b=>some (.bl !b)
 | _=>none
def tAnd(ta tb:DSt->M Bool):DSt->M Bool:=fun Y=>(ta Y).b fun x=>if x=true then tb Y else M.p false
def tOr(ta tb:DSt->M Bool):DSt->M Bool:=fun Y=>(ta Y).b fun x=>if x=true then M.p true else tb Y
def tNot(ta:DSt->M Bool):DSt->M Bool:=fun Y=>(ta Y).b fun x=>M.p !x
def fIf(tc:DSt->M Bool)(fa fb:DSt->M D):DSt->M D:=fun Y=>(tc Y).b fun x=>if x=true then fa Y else fb Y
variable {rest:List Expr}
def jMc(h:DE X O E a fa):DE X O E (.BoolOp op [a] pos) fa:=fun U s Z H Q I hw=>jF9 h _ s Z H Q I hw
def jL4(ha:DE X O E a fa)(hb:DE X O E (.BoolOp .And (b::rest) pos) fb):DE X O E (.BoolOp .And (a::b::rest) pos) (fAnd fa fb):=by
 rintro U s Z H Q I ⟨J,Hz,F,Y,rr,R,hf,k⟩;refine jF7 ha hb _ s Z H Q I ?_;refine bD R hf k fun x hf u H1 s1 r1=>?_
 cases x with
 | bl z =>
  refine⟨z,rep_bl.mp r1,?_⟩
  cases z with
  | true =>
   exact iteT ⟨J,_,F,Y,rr,R.mono s1,hf,k.up s1⟩
  | false =>
   cases hf;exact k _ H1 s1 (rep_bl.mpr rfl)
 | _=>cases hf
def jQr(ha:DE X O E a fa)(hb:DE X O E (.BoolOp .Or (b::rest) pos) fb):DE X O E (.BoolOp .Or (a::b::rest) pos) (fOr fa fb):=by
 rintro U s Z H Q I ⟨J,Hz,F,Y,rr,R,hf,k⟩;refine jRw ha hb _ s Z H Q I ?_;refine bD R hf k fun x hf u H1 s1 r1=>?_
 cases x with
 | bl z =>
  refine⟨z,rep_bl.mp r1,?_⟩
  cases z with
  | true =>
   cases hf;exact k _ H1 s1 (rep_bl.mpr rfl)
  | false =>
   exact iteF ⟨J,_,F,Y,rr,R.mono s1,hf,k.up s1⟩
 | _=>cases hf
def jMb(ha:DE X O E a fa):DE X O E (.UnaryOp .Not a pos) (f1 gNot fa):=by
 rintro U s Z H Q I ⟨J,Hz,F,Y,rr,R,hf,k⟩;refine jOp ha _ s Z H Q I ?_;refine bD R hf k fun x hf u H1 s1 r1=>?_
 cases x with
 | bl z=>cases hf;exact⟨z,rep_bl.mp r1,k _ H1 s1 (rep_bl.mpr rfl)⟩
 | _=>cases hf
def DW(X:Cx)(O:List Nat)(E:XK)(e:Expr)(f:DSt->M Bool):Prop:=PW X e (tB X.K O E f)
def DW.dt(h:DW X O E e f):DT X O E e f:=PW.pt h
def jIa(ha:DT X O E a ta):DW X O E (.BoolOp .And [a] pos) ta:=jKj ha
noncomputable def jMu(ha:DT X O E a ta):DW X O E (.BoolOp .Or [a] pos) ta:=jGd ha
def jMt(ha:DT X O E a ta)(hb:DW X O E (.BoolOp .And (b::rest) pos) tb'):DW X O E (.BoolOp .And (a::b::rest) pos) (tAnd ta tb'):=by
 rintro wh U s Z H Q I ⟨J,Hz,F,Y,rr,R,hf,k⟩;refine jO3 ha hb wh _ s Z H Q I ?_;refine bDB R hf k fun x hf H1 s1=>?_
 cases x with
 | true =>
  exact iteT ⟨J,_,F,Y,rr,R.mono s1,hf,k.up s1⟩
 | false=>cases hf;exact iteF (k H1 s1)
def jQy(ha:DT X O E a ta)(hb:DW X O E (.BoolOp .Or (b::rest) pos) tb'):DW X O E (.BoolOp .Or (a::b::rest) pos) (tOr ta tb'):=by
 rintro wh U s Z H Q I ⟨J,Hz,F,Y,rr,R,hf,k⟩;refine jO4 ha hb wh _ s Z H Q I ?_;refine bDB R hf k fun x hf H1 s1=>?_
 cases x with
 | true=>cases hf;exact iteT (k H1 s1)
 | false =>
  exact iteF ⟨J,_,F,Y,rr,R.mono s1,hf,k.up s1⟩
def jMq(ha:DT X O E a ta):DT X O E (.UnaryOp .Not a pos) (tNot ta):=by
 rintro U s Z H Q I ⟨J,Hz,F,Y,rr,R,hf,k⟩;refine jGc ha _ s Z H Q I ?_;refine bDB R hf k fun x hf H1 s1=>?_
 cases hf;exact k H1 s1
noncomputable def truD:D->Option Bool
 | .non=>some false
 | .bl b=>some b
 | .int i=>some (i != 0)
 | .str x=>if x.length<=sizeLine then some ((x.length:Int) != 0) else none
 | .tup xs=>some !xs.isEmpty
 | .lst xs=>some !xs.isEmpty
 | _=>none
def tTru(fa:DSt->M D):DSt->M Bool:=fun Y=>(fa Y).b fun x=>M.o (truD x)
def isE(h:Reps J K H ds xs):xs.isEmpty=ds.isEmpty:=by
 cases ds with
 | nil=>rw[reps_nil.mp h];rfl
 | cons d ds=>obtain⟨v,r,rfl,_⟩:=reps_cons.mp h;rfl
def jA2{x:D}{u:V}{z:Bool}{H1:Hp}{G:qd}{J:Rho}(r1:Rep J X.K (hid H1 G) x u)(hz:truD x=some z):TruV X.K u H1 z:=by
 cases x with
 | non=>cases hz;rw[rep_non.mp r1];rfl
 | bl y=>cases hz;rw[rep_bl.mp r1];rfl
 | int i=>cases hz;rw[rep_int.mp r1];rfl
 | str y =>
  by_cases hl:y.length<=sizeLine
  .have e:truD (.str y)=some _:=if_pos hl;rw[e] at hz;cases hz
   rw[rep_str.mp r1];exact⟨hl,rfl⟩
  .have e:truD (.str y)=none:=if_neg hl;rw[e] at hz;cases hz
 | tup ds =>
  cases hz;obtain⟨q,xs,rfl,q2,q3⟩:=rep_tup.mp r1;exact .inr (.inl ⟨xs,jcb jaf q2,by rw[isE q3]⟩)
 | lst ds =>
  cases hz;obtain⟨q,xs,rfl,q2,q3⟩:=rep_lst.mp r1;exact .inl ⟨xs,jcj jaf q2,by rw[isE q3]⟩
 | ty n=>cases hz
 | obj n=>cases hz
def jMr(ha:DE X O E a fa)(he:∀ whole,isTrue a X.env whole=(do let v <- whole;standAt a.pos;holding [v] (truthy v))):DT X O E a (tTru fa):=by
 rintro U s Z H Q I ⟨J,Hz,F,Y,rr,R,hf,k⟩;refine juh ha he _ s Z H Q I ?_;refine bD R hf k fun x hf u H1 s1 r1=>?_
 obtain⟨z,hz,rfl⟩:=M.o_inv hf;exact⟨z,jA2 r1 hz,k H1 s1⟩
def jL8(hc:DT X O E c tc)(ha:DE X O E a fa)(hb:DE X O E b fb):DE X O E (.IfExp c a b pos) (fIf tc fa fb):=by
 rintro U s Z H Q I ⟨J,Hz,F,Y,rr,R,hf,k⟩;refine jDk hc ha hb _ s Z H Q I ?_;refine bDB R hf k fun x hf H1 s1=>?_
 cases x with
 | true =>
  exact iteT ⟨J,_,F,Y,rr,R.mono s1,hf,k.up s1⟩
 | false =>
  exact iteF ⟨J,_,F,Y,rr,R.mono s1,hf,k.up s1⟩
def jfa(g g':D->D->Option D)(fa fb fc:DSt->M D):DSt->M D:=fun Y=>(fa Y).b fun x=>(fb Y).b fun y=>match g x y with
 | some (.bl true)=>(fc Y).b fun z=>M.o (g' y z)
 | some (.bl false)=>M.p (.bl false)
 | _=>none
def jBt(ho:OpR X (compareOp op) r)(hg:OpD X.K g r)(ho':OpR X (compareOp op') r')(hg':OpD X.K g' r')(ha:DE X O E a fa)(hb:DE X O E b fb)(hc:DE X O E c fc)
  (hm:lastMarks [op,op'] [b,c]=false):DE X O E (.Compare a [op,op'] [b,c] pos) (jfa g g' fa fb fc):=by
 rintro U s Z H Q I ⟨J,Hz,F,Y,rr,R,hf,k⟩;refine jDh ho ho' ha hb hc hm _ s Z H Q I ?_;refine bD R hf k fun x hf u H1 s1 r1=>?_
 refine bD (R.mono s1) hf k fun y hf v H2 s2 r2=>?_
 cases e3:g x y with
 | none=>grind
 | some d =>
  rw[e3] at hf
  cases d with
  | bl z =>
   refine hg x y _ e3 J H2 _ u v _ (fun p hp=>(R.mono (s1.trans s2)).fresh hp) (r1.mono (jad s2)) r2 fun w H3 s3 r3=>⟨z,rep_bl.mp r3,?_⟩
   cases z with
   | true =>
    refine bD (R.mono (s1.trans (s2.trans s3))) hf k fun z hf t H4 s4 r4=>?_
    obtain⟨d,hd,rfl⟩:=M.o_inv hf;exact hg' y z d hd J H4 _ v t Q (fun p hp=>(R.mono (s1.trans (s2.trans (s3.trans s4)))).fresh hp) (r2.mono (jad (s3.trans s4))) r4 fun w H5 s5 r5=>k w H5 (s1.trans (s2.trans (s3.trans (s4.trans s5)))) r5
   | false =>
    cases hf;exact k _ H3 (s1.trans (s2.trans s3)) (rep_bl.mpr rfl)
  | _=>cases hf
end
inductive Out where
 | nx (Y:DSt)|rt (d:D)|bk (Y:DSt)|ct (Y:DSt)
def Ok(J:Rho)(K:W.Frag)(O' B:List Nat)(E:XK)(Hz:Hp)(F:qd)(Hv:Hp)(Dn:Ends):Except XD Out->Prop
 | .ok (.nx Y')=>∀ Z' H',Same Hv (hid H' (fob F Z' O'))->RS J K Hz H' F O' Z' Y'->Dn.nx Z' H'
 | .ok (.rt d)=>∀ v H',Same Hz H'->Rep J K (hid H' F) d v->Dn.rt v H'
 | .ok (.bk Y')=>∀ Z' H',Same Hv (hid H' (fob F Z' B))->RS J K Hz H' F B Z' Y'->Dn.bk Z' H'
 | .ok (.ct Y')=>∀ Z' H',Same Hv (hid H' (fob F Z' B))->RS J K Hz H' F B Z' Y'->Dn.ct Z' H'
 | .error x=>okX K Hz E x
inductive sD(K:W.Frag)(O O' B:List Nat)(E:XK)(g:DSt->M Out)(Dn:Ends)(Z:St)(H:Hp):Prop
 | mk (J:Rho) (Hz:Hp) (F:qd) (Y:DSt) (r:Except XD Out) (R:RS J K Hz H F O Z Y) (hf:g Y=some r) (k:Ok J K O' B E Hz F (hid H (fob F Z O)) Dn r)
def DS(X:Cx)(O O' B:List Nat)(E:XK)(st:Stmt)(g:DSt->M Out):Prop:=PS X st (sD X.K O O' B E g)
def DSs(X:Cx)(O O' B:List Nat)(E:XK)(st:List Stmt)(g:DSt->M Out):Prop:=PSs X st (sD X.K O O' B E g)
def Ok.back(e:Same Hv Hv')(h:Ok J K O' B E Hz F Hv Dn r):Ok J K O' B E Hz F Hv' Dn r:=by
 cases r with
 | error x=>exact h
 | ok o =>
  cases o with
  | nx Y'=>exact fun Z' H' f=>h Z' H' (e.trans f)
  | bk Y'=>exact fun Z' H' f=>h Z' H' (e.trans f)
  | ct Y'=>exact fun Z' H' f=>h Z' H' (e.trans f)
  | rt d=>exact h
def gNx:DSt->M Out:=fun Y=>M.p (.nx Y)
def gSeq(g1 g2:DSt->M Out):DSt->M Out:=fun Y=>(g1 Y).b fun o=>match o with
 | .nx Y'=>g2 Y'
 | o=>M.p o
def gSet(i:Nat)(f:DSt->M D):DSt->M Out:=fun Y=>(f Y).b fun d=>M.p (.nx (Y.set i (some d)))
def gRet(f:DSt->M D):DSt->M Out:=fun Y=>(f Y).b fun d=>M.p (.rt d)
def jmj(f:DSt->M D):DSt->M Out:=fun Y=>(f Y).b fun _=>M.p (.nx Y)
def gIf(t:DSt->M Bool)(g1 g2:DSt->M Out):DSt->M Out:=fun Y=>(t Y).b fun b=>if b=true then g1 Y else g2 Y
def gBrk:DSt->M Out:=fun Y=>M.p (.bk Y)
def gCnt:DSt->M Out:=fun Y=>M.p (.ct Y)
def gNever:DSt->M Out:=fun _=>none
def gApp(i:Nat)(f:DSt->M D):DSt->M Out:=fun Y=>(f Y).b fun d=>match (Y[i]?).join with
 | some (.lst ds)=>if ds.length<sizeLine then M.p (.nx (Y.set i (some (.lst (ds++[d]))))) else none
 | _=>none
def forD(g:DSt->M Out)(tg:D->DSt->Option DSt):List D->DSt->M Out
 | [],Y=>M.p (.nx Y)
 | d::ds,Y=>match tg d Y with
  | none=>none
  | some Y1=>(g Y1).b fun o=>match o with
   | .nx Y'=>forD g tg ds Y'
   | .ct Y'=>forD g tg ds Y'
   | .bk Y'=>M.p (.nx Y')
   | .rt v=>M.p (.rt v)
def gFor(fi:DSt->M (List D))(tg:D->DSt->Option DSt)(g:DSt->M Out):DSt->M Out:=fun Y=>(fi Y).b fun ds=>forD g tg ds Y
def ja7(t:DSt->M Bool)(g:DSt->M Out):Nat->DSt->M Out
 | 0,_=>none
 | n+1,Y=>(t Y).b fun b=>if b=true then (g Y).b fun o=>match o with
   | .nx Y'=>ja7 t g n Y'
   | .ct Y'=>ja7 t g n Y'
   | .bk Y'=>M.p (.nx Y')
   | .rt v=>M.p (.rt v)
  else M.p (.nx Y)
section
variable {X:Cx}{rest:List Stmt}
def jH7:DSs X O O B E [] gNx:=by
 rintro U s Z H Dn I ⟨J,Hz,F,Y,r,R,hf,h⟩;cases hf;exact jzv _ s Z H Dn I (h Z H (Same.refl _) R)
def jnm(h1:DS X O O' B E st g1)(h2:DSs X O' O'' B E rest g2):DSs X O O'' B E (st::rest) (gSeq g1 g2):=by
 rintro U s Z H Dn I ⟨J,Hz,F,Y,r,R,hf,h⟩;refine jug h1 h2 _ s Z H Dn I ?_;rcases M.b_inv hf with ⟨o,e1,hf⟩|⟨x,e1,rfl⟩
 .refine⟨J,_,F,Y,_,R,e1,?_⟩
  cases o with
  | nx Y'=>exact fun Z' H' f R'=>⟨J,_,F,Y',r,R',hf,h.back f⟩
  | rt d=>cases hf;exact h
  | bk Y'=>cases hf;exact h
  | ct Y'=>cases hf;exact h
 .exact⟨J,_,F,Y,_,R,e1,h⟩
def jk7(h1:DS X O O' B E st g):DSs X O O' B E [st] g:=fun U s Z H Dn I h=>jzw h1 _ s Z H Dn I h
def jk8(hO:∀ i∈O',i∈O)(h:DSs X O' O'' B E sts g):DSs X O O'' B E sts g:=by
 rintro U s Z H Dn I ⟨J,Hz,F,Y,r,R,hf,k⟩;refine h _ s Z H Dn I ⟨J,_,F,Y,r,R.thaw hO,hf,k.back (jc4 fun b q=>?_)⟩;rcases fob_t.mp q with q|⟨i,hi,q⟩
 .exact fob_t.mpr (.inl q)
 .exact fob_t.mpr (.inr ⟨i,hO i hi,q⟩)
def jtt(hO:∀ i∈O',i∈O):∀ b,fob F Z O' b=true->fob F Z O b=true:=fun b q=>by
 rcases fob_t.mp q with q|⟨i,hi,q⟩
 .exact fob_t.mpr (.inl q)
 .exact fob_t.mpr (.inr ⟨i,hO i hi,q⟩)
def jy3(hO:∀ i∈O',i∈O'')(k:Ok J K O' B E Hz F Hv Dn r):Ok J K O'' B E Hz F Hv Dn r:=by
 cases r with
 | error x=>exact k
 | ok o =>
  cases o with
  | nx Y'=>exact fun Z' H' f R'=>k Z' H' (f.trans (jc4 (jtt hO))) (R'.thaw hO)
  | rt d=>exact k
  | bk Y'=>exact k
  | ct Y'=>exact k
def jH5(hO:∀ i∈O',i∈O'')(h:DS X O O'' B E st g):DS X O O' B E st g:=by
 rintro U s Z H Dn I ⟨J,Hz,F,Y,r,R,hf,k⟩;exact h _ s Z H Dn I ⟨J,_,F,Y,r,R,hf,jy3 hO k⟩
def js9(hO:∀ i∈O',i∈O'')(h:DSs X O O'' B E sts g):DSs X O O' B E sts g:=by
 rintro U s Z H Dn I ⟨J,Hz,F,Y,r,R,hf,k⟩;exact h _ s Z H Dn I ⟨J,_,F,Y,r,R,hf,jy3 hO k⟩
def joj(ho:i∉O)(s1:Same H H'):Same (hid H (fob F Z O)) (hid H' (fob F (Z.set i (some v)) O)):=by
 grind [je5,jad]
def jxa(hN:X.N.Nodup)(he:DE X O E e fa)(ho:O.contains i=false)(hi:X.N[i]? = some x)(hx:Loc X.env.scope x)(hs:swapsWith e (some (.Name x pos')) pos.line X.env=pure false)
  (hf:X.fn x=true\/X.env.scope.names.lookup x=some .local):DS X O O B E (.Assign [.Name x pos'] e pos) (gSet i fa):=by
 rintro U s Z H Dn I ⟨J,Hz,F,Y,r,R,hg,k⟩;have ho':i∉O:=fun z=>by grind
 refine jqb hN hi hx he hs hf _ s Z H Dn I ?_;refine bD R hg k fun d hg v H' s' r'=>?_
 cases hg;exact k _ H' (joj ho' s') ((R.mono s').set ho' r')
def jMo(hN:X.N.Nodup)(h:DA X O E es fl)(ho:O.contains i=false)(hi:X.N[i]? = some x)(hx:Loc X.env.scope x)(hs:swapsWith (.List es pos2) (some (.Name x pos')) pos.line X.env=pure false)
  (hf:X.fn x=true\/X.env.scope.names.lookup x=some .local):DS X O (i::O) B E (.Assign [.Name x pos'] (.List es pos2) pos) (gSet i (fL jar fl)):=by
 rintro U s Z H Dn I ⟨J,Hz,F,Y,r,R,hg,k⟩;have ho':i∉O:=fun z=>by grind
 have hl:i<Y.length:=by rw[<- R.len,I.len];exact (zbb.mp hi).1
 refine jqb hN hi hx (jp9 h) hs hf _ s Z H Dn I ?_;refine bD R (M.b_b hg) k fun ds hg vs H1 s1 r1=>?_
 unfold jar at hg
 split at hg
 .rename_i hz;cases hg;exact⟨by rw[r1.length];exact hz,fun p hp=>k _ _ (by rw[jkp ho' (by rw[R.len];exact hl) hp];exact jad s1) (R.take ho' hl s1 hp r1)⟩
 .cases hg
def jFd(he:DE X O E e fa):DS X O O' B E (.Return (some e) pos) (gRet fa):=by
 rintro U s Z H Dn I ⟨J,Hz,F,Y,r,R,hg,k⟩;refine jGb he _ s Z H Dn I ?_;refine bD R hg k fun d hg v H' s' r'=>?_
 cases hg;exact k v H' (R.same.trans s') (r'.mono (jc4 fun b q=>fob_t.mpr (.inl q)))
def jH2(he:DE X O E e fa)(hs:swapsWith e none pos.line X.env=pure false):DS X O O B E (.Expr e pos) (jmj fa):=by
 rintro U s Z H Dn I ⟨J,Hz,F,Y,r,R,hg,k⟩;refine jl2 he hs _ s Z H Dn I ?_;refine bD R hg k fun d hg v H' s' r'=>?_
 cases hg;exact k Z H' (jad s') (R.mono s')
def jH3(hc:DT X O E c tc)(h1:DSs X O O' B E s1 g1)(h2:DSs X O O' B E s2 g2):DS X O O' B E (.If c s1 s2 pos) (gIf tc g1 g2):=by
 rintro U s Z H Dn I ⟨J,Hz,F,Y,r,R,hg,k⟩;refine jO0 hc h1 h2 _ s Z H Dn I ?_;refine bDB R hg k fun z hg H1 s1=>?_
 cases z with
 | true=>exact iteT ⟨J,_,F,Y,r,R.mono s1,hg,k.back (jad s1)⟩
 | false=>exact iteF ⟨J,_,F,Y,r,R.mono s1,hg,k.back (jad s1)⟩
def jnl:DS X O O' B E st gNever:=by
 rintro U s Z H Dn I ⟨J,Hz,F,Y,r,R,hf,h⟩;cases hf
def Mp(X:Cx)(i:Nat)(x m:Str)(e:Expr)(p1 p2 p3 pos:Pos):Prop:=(X.N[i]? = some x/\Vis X.env.scope x/\(x == ("__debug__":Str))=false/\(x == ("__classdict__":Str))=false)/\attributeBase (.Name x p1) m X.env (eval (.Name x p1) X.env)=eval (.Name x p1) X.env /\
  ((backTo p3 (starEach [e] X.env)).all (fun x=>!x.1)&&(backToKw p3 (keywordEach [] X.env)).all (fun x=>x.1.isSome)
   && decide ([e].length+([]:List Keyword).length+(if ([]:List Keyword).isEmpty then 0 else 1)<30))=true/\(p2.endLine == p3.line)=true/\starEach [e] X.env=[(false,eval e X.env)]/\swapsWith (.Call (.Attribute (.Name x p1) m p2) [e] [] p3) none pos.line X.env=pure false
def jMk(ho:O.contains i=true)(he:DE X O E e fa)(hp:Mp X i x "append" e p1 p2 p3 pos) :
  DS X O O B E (.Expr (.Call (.Attribute (.Name x p1) "append" p2) [e] [] p3) pos) (gApp i fa):=by
 rintro U s Z H Dn I ⟨J,Hz,F,Y,r,R,hg,k⟩;obtain⟨⟨hi,hv,hd,hcd⟩,hbase,hfew,hline,hs,hsw⟩:=hp;have ho':=zbc.mp ho;obtain⟨l,xs0,ds0,q1,q2,q3,q4,q5⟩:=R.own i ho';refine jl2 (jvl PySem.F.plainAttrs_list PySem.F.slot_list_append PySem.F.type_list_append jiy (jl1 hi hv hd hcd) (jet he jht hs) hbase hfew hline hs rfl) hsw _ s Z H Dn I ?_;refine⟨_,q2,.inl ⟨rfl,_,SqL.of q3⟩,?_⟩;refine bD R hg k fun d hg v H1 s1 r1=>?_
 have hj:(Y[i]?).join=some (.lst ds0):=by rw[q1];rfl
 rw[hj] at hg;dsimp only at hg
 split at hg
 .rename_i hz;cases hg;have R1:=R.mono s1;obtain⟨l',xs,ds,p1,p2,p3,p4,p5⟩:=R1.own i ho';rw[q2] at p2;cases p2
  rw[q1] at p1;cases p1
  refine⟨l,xs,v,rfl,rfl,p3,by rw[p5.length];exact hz,?_⟩;refine k Z _ ?_ (R1.write ho' q2 (p5.append (Reps.cons r1 Reps.nil)));rw[jdr (fob_t.mpr (.inr ⟨i,ho',q2⟩))];exact jad s1
 .cases hg
inductive tG(K:W.Frag)(O:List Nat)(h:D->DSt->Option DSt)(v:V)(Z:St)(H:Hp)(Q:St->Hp->Prop):Prop
 | mk (J:Rho) (Hz:Hp) (F:qd) (Y:DSt) (d:D) (Y':DSt) (R:RS J K Hz H F O Z Y) (hr:Rep J K (hid H (fob F Z O)) d v) (hf:h d Y=some Y') (k:∀ Z',fob F Z' O=fob F Z O->RS J K Hz H F O Z' Y'->Q Z' H)
def DG(X:Cx)(O:List Nat)(tg:Expr)(h:D->DSt->Option DSt):Prop:=PG X tg (tG X.K O h)
def gName(i:Nat):D->DSt->Option DSt:=fun d Y=>some (Y.set i (some d))
def jbe(i j:Nat):D->DSt->Option DSt:=fun d Y=>match d with
 | .tup [x,y]=>some ((Y.set i (some x)).set j (some y))
 | _=>none abbrev qg(X:Cx)(x:Str):Prop:=X.fn x=true\/X.env.scope.names.lookup x=some .local
def jrc(hN:X.N.Nodup)(ho:autoParam (O.contains i=false) zau2._auto_1)(hi:autoParam (X.N[i]? = some x) zau2._auto_1)(hx:autoParam (Loc X.env.scope x) zau5._auto_1)
  (hf:autoParam (qg X x) zau6._auto_1):DG X O (.Name x pos) (gName i):=by
 rintro U s Z H v u Q I r ⟨J,Hz,F,Y,d,Y',R,rd,e,k⟩;have ho':i∉O:=fun z=>by grind
 cases e;exact jzi hN hi hx hf _ s Z H v u Q I r (k _ (je5 ho') (R.set ho' rd))
abbrev NmOk(X:Cx)(O:List Nat)(i:Nat)(x:Str):Prop:=(X.N[i]? = some x/\Loc X.env.scope x/\(X.fn x=true\/X.env.scope.names.lookup x=some .local))/\O.contains i=false
def Nms(X:Cx)(O:List Nat):List Nat->List (Str×Pos)->Prop
 | [],[]=>True
 | i::is,p::ps=>NmOk X O i p.1/\Nms X O is ps
 | _,_=>False
def gTs:List Nat->List D->DSt->Option DSt
 | [],[],Y=>some Y
 | i::is,d::ds,Y=>gTs is ds (Y.set i (some d))
 | _,_,_=>none
def tgs:List Nat->TGs
 | []=>gNil
 | i::is=>jM7 (L2.gName i) (tgs is)
theorem jA1{K:W.Frag}{J:Rho}{Hz H:Hp}{F:qd}{Q:St->Hp->Prop}:∀ {is:List Nat} {ps:List (Str×Pos)} {ds:List D} {vs:List V} {Z:St} {Y Y':DSt},Nms X O is ps->RS J K Hz H F O Z Y->Reps J K (hid H (fob F Z O)) ds vs->gTs is ds Y=some Y' ->
  (∀ Z',fob F Z' O=fob F Z O->RS J K Hz H F O Z' Y'->Q Z' H)->tgs is vs Z H Q/\vs.length=ps.length
 | [],[],[],_,Z,Y,_,_,R,r,e,k=>by
  cases e;cases reps_nil.mp r;exact⟨⟨rfl,k Z rfl R⟩,rfl⟩
 | i::is,p::ps,d::ds,_,Z,Y,Y',h,R,r,e,k=>by
  obtain⟨v,vs,rfl,r1,r⟩:=reps_cons.mp r;have ho:i∉O:=fun z=>by have:=h.1.2;rw[zbc.mpr z] at this;cases this
  have q:=je5 (F:=F) (Z:=Z) (v:=v) ho;have:=jA1 h.2 (R.set ho r1) (by rw[q];exact r) e fun Z' a b=>k Z' (a.trans q) b
  exact⟨⟨v,vs,rfl,this.1⟩,congrArg Nat.succ this.2⟩
theorem jzj(hN:X.N.Nodup):∀ {is:List Nat} {ps:List (Str×Pos)},Nms X O is ps->PGs X (ps.map fun p=>.Name p.1 p.2) (tgs is)
 | [],[],_=>jKb
 | _::_,_::_,h=>jDo (jzi hN h.1.1.1 h.1.1.2.1 h.1.1.2.2) (jzj hN h.2) rfl
def jre{g:D->DSt->Option DSt}(hc:X.calm=true)(hN:X.N.Nodup)(h:Nms X O is ps)(hg:∀ d Y Y',g d Y=some Y'->∃ ds,d=.tup ds/\gTs is ds Y=some Y')
  (hn:(assignEach (ps.map fun p=>Expr.Name p.1 p.2) X.env).length=ps.length) (hst:(assignEach (ps.map fun p=>Expr.Name p.1 p.2) X.env).findIdx? (·.1)=none):DG X O (.Tuple (ps.map fun p=>.Name p.1 p.2) kk pos) g:=by
 rintro U s Z H v u Q I r ⟨J,Hz,F,Y,d,Y',R,rd,e,k⟩;obtain⟨ds,rfl,e'⟩:=hg _ _ _ e;obtain⟨p,xs,rfl,q2,q3⟩:=rep_tup.mp rd;obtain⟨w,l⟩:=jA1 h R q3 e' k;exact jOt hc (jzj hN h) hn hst U s Z H _ u Q I r ⟨p,_,rfl,jcb jaf q2,l,w⟩
def jHv(hc:X.calm=true)(hN:X.N.Nodup)(a:NmOk X O i x)(b:NmOk X O j y):DG X O (.Tuple [.Name x px,.Name y py] kk pos) (jbe i j) :=
 jre (is:=[i,j]) (ps:=[(x,px),(y,py)]) hc hN ⟨a,b,trivial⟩ (fun d Y Y' e=>by unfold jbe at e;split at e<;>cases e;exact⟨_,rfl,rfl⟩) rfl rfl
def ItD(J:Rho)(K:W.Frag)(Jq:It)(ds:List D)(Hv:Hp):Prop:=∀ (H':Hp) (G':qd) (i:Nat),Same Hv (hid H' G')->(∀ p,H' p=none->G' p=false) ->
 (i<ds.length->Jq.go i H'/\∀ x H2,Jq.yld i H' x H2->Same H' H2/\∃ d,ds[i]? = some d/\Rep J K (hid H2 G') d x)/\(i=ds.length->Jq.stop i H')
abbrev tI:=@tY _ _ fun J K V ds Jq=>ItD J K Jq ds V
def DI(X:Cx)(O:List Nat)(E:XK)(tg iter:Expr)(f:DSt->M (List D)):Prop:=PI X tg iter (tI X.K O E f)
def jMn(hp:PassesOwn (model X.prog X.w) X.A X.env X.xe)(hc:X.calm=true)(hi:DI X O E tg iter fi)(hg:DG X O tg h)(hb:DSs X O O O E body g)
  (hs:∀ x,foldedSetIterable iter X.env x=pure x):DS X O O B E (.For tg iter body [] pos) (gFor fi h g):=by
 rintro U s Z H Dn I ⟨J,Hz,F,Y,r,R,hgf,k⟩;refine jzs hp hc hi hg hb hs _ s Z H Dn I ?_;refine bD R hgf k fun ds hgf Jq H1 s1 it=>?_
 refine⟨fun i m Z' H'=>m=ds.length-i/\i<=ds.length/\∃ Y',RS J X.K _ H' F O Z' Y'/\Same _ (hid H' (fob F Z' O))/\forD g h (ds.drop i) Y'=some r,⟨ds.length,by simp,Nat.zero_le _,Y,R.mono s1,Same.refl _,hgf⟩,?_⟩;rintro i m Z' H' ⟨rfl,hil,Y',R',f',hr⟩;obtain⟨j1,j2⟩:=it H' _ i f' (fun p hp=>R'.fresh hp)
 by_cases hlt:i<ds.length
 .obtain⟨go,yld⟩:=j1 hlt;refine .inr ⟨go,fun Z2 H2=>∃ Y2,RS J X.K _ H2 F O Z2 Y2/\Same _ _/\forD g h _ Y2=some r,fun Z2 H2 ⟨Y2,a1,a2,a3⟩=>⟨_,by omega,rfl,hlt,Y2,a1,a2,a3⟩,fun x H2 y=>?_⟩;obtain⟨s2,d,hd,rd⟩:=yld x H2 y;have hdr:ds.drop i=d::ds.drop (i+1):=by
   rw[List.drop_eq_getElem_cons hlt];have:=by rw[zax hlt] at hd;exact zby hd
   rw[this]
  rw[hdr] at hr;unfold forD at hr
  cases e2:h d Y' with
  | none=>grind
  | some Y1 =>
   rw[e2] at hr;have f2:=f'.trans (jad s2);refine⟨J,_,F,Y',d,Y1,R'.mono s2,rd,e2,fun Z3 ef R3=>?_⟩;rcases M.b_inv hr with ⟨o,e3,hr⟩|⟨y,e3,rfl⟩
   .refine⟨J,_,F,Y1,_,R3,e3,?_⟩;rw[ef]
    cases o with
    | nx Y4=>exact fun Z4 H4 f4 R4=>⟨Y4,R4,f2.trans f4,hr⟩
    | ct Y4=>exact fun Z4 H4 f4 R4=>⟨Y4,R4,f2.trans f4,hr⟩
    | bk Y4=>cases hr;exact fun Z4 H4 f4 R4=>k Z4 H4 ((jad s1).trans (f2.trans f4)) R4
    | rt v=>cases hr;exact k
   .exact⟨J,_,F,Y1,_,R3,e3,k⟩
 .have ei:i=ds.length:=by omega
  subst ei;rw[List.drop_length] at hr;cases hr;exact .inl ⟨j2 rfl,k Z' H' ((jad s1).trans f') R'⟩
def jB4(hp:PassesOwn (model X.prog X.w) X.A X.env X.xe)(hc:DT X O E c tc)(hb:DSs X O O O E body g):DS X O O B E (.While c body [] pos) (ja7 tc g fuel):=by
 rintro U s Z H Dn I ⟨J,Hz,F,Y,r,R,hg,k⟩;refine jDt hp hc hb _ s Z H Dn I ?_;refine⟨fun m Z' H'=>∃ Y',RS J X.K _ H' F O Z' Y'/\Same _ (hid H' (fob F Z' O))/\ja7 tc g m Y'=some r,⟨_,Y,R,Same.refl _,hg⟩,?_⟩;rintro m Z' H' ⟨Y',R',f',hr⟩
 cases m with
 | zero=>cases hr
 | succ m =>
  refine bDB R' hr k fun z hr H1 s1=>?_
  have f1:=f'.trans (jad s1)
  cases z with
  | true =>
   refine iteT ⟨fun Z2 H2=>∃ Y2,RS J X.K _ H2 F O Z2 Y2/\Same _ _/\ja7 tc g m Y2=some r,fun Z2 H2 ⟨Y2,a1,a2,a3⟩=>⟨m,Nat.lt_succ_self _,Y2,a1,a2,a3⟩,?_⟩;rcases M.b_inv hr with ⟨o,e3,hr⟩|⟨y,e3,rfl⟩
   .refine⟨J,_,F,Y',_,R'.mono s1,e3,?_⟩
    cases o with
    | nx Y4=>exact fun Z4 H4 f4 R4=>⟨Y4,R4,f1.trans f4,hr⟩
    | ct Y4=>exact fun Z4 H4 f4 R4=>⟨Y4,R4,f1.trans f4,hr⟩
    | bk Y4=>cases hr;exact fun Z4 H4 f4 R4=>k Z4 H4 (f1.trans f4) R4
    | rt v=>cases hr;exact k
   .exact⟨J,_,F,Y',_,R'.mono s1,e3,k⟩
  | false =>
   cases hr;exact iteF (k Z' H1 f1 (R'.mono s1))
end
end DL
namespace L2
open PyProof.Rows
def ItOn(k:Bool)(h:Heap)(it l:Addr)(i:Nat):Prop:=if k=true then h.IsTupleIter it l i else h.IsListIter it l i
def SrcOn(k:Bool)(h:Heap)(l:Addr)(xs:Array Value):Prop:=if k=true then h.IsTuple l xs else h.IsList l xs
def ItOn.mv(x:ItOn k h it l i)(e:∀ o,h.get? it=some o->h'.get? it=some o):ItOn k h' it l i:=by
 cases k with
 | true=>exact Heap.IsTupleIter.at (h:=h) x e
 | false=>exact Heap.IsListIter.at (h:=h) x e
def SrcOn.mv(x:SrcOn k h l xs)(e:∀ o,h.get? l=some o->h'.get? l=some o):SrcOn k h' l xs:=by
 cases k with
 | true=>exact Heap.IsTuple.at (h:=h) x e
 | false=>exact Heap.IsList.at (h:=h) x e
def ItOn.ob(x:ItOn k h it l i):∃ o vs,h.get? it=some o/\o.data=.fields vs:=by
 cases k with
 | true=>obtain⟨o,e,_,d⟩:=(x:h.IsTupleIter it l i);exact⟨o,_,e,d⟩
 | false=>obtain⟨o,e,_,d⟩:=(x:h.IsListIter it l i);exact⟨o,_,e,d⟩
def jvi{it l:Addr}{i:Nat}{items:Array Value}{Q:qc}(hh:A.handled=none)(hi:s.heap.IsTupleIter it l i)(hl:s.heap.IsTuple l items)(hQ:∀ x,items[i]? = some x->∀ h',h'.IsTupleIter it l (i+1)->Heap.SameBut it s.heap h'->Q x { s with heap:=h' })
  (hE:items[i]? = none->∀ h' e,Heap.ExtBut it s.heap h'->(∃ o,h'.get? e=some o/\o.cls=.type "StopIteration")->E (.ref e) { s with heap:=h' }):wpAny (model prog w) A (Builtin.SmallTypes.nextOf (.ref it)) Q E s:=by
 obtain⟨ob,eo,oc,od⟩:=id hi;obtain⟨tl,el,_,nl,dl⟩:=hl;unfold Builtin.SmallTypes.nextOf;refine zay (wpAny_callSpecial?_slot (name:=Str.ofString "__next__") hi.typeIs F.slot_tuple_iterator_next (wpAny_call_entry F.slot_tuple_iterator_next hi.typeIs F.entry_tuple_iterator_next ?_ (F.args_tuple_iterator_next_1 _)));show wpAny _ _ (field (.ref it) 0 >>= _) _ _ s;refine zay (wpAny_field eo od (x:=.ref l) rfl ?_);show wpAny _ _ (if (Value.ref l == Value.none)=true then _ else _) _ _ s;rw[if_neg (show ¬ ((Value.ref l == Value.none)=true) from fun q=>Bool.false_ne_true q)];show wpAny _ _ (field (.ref it) 1 >>= _) _ _ s;refine zay (wpAny_field eo od (x:=.int i 0) rfl (show wpAny _ _ (seqItems? (.ref l) >>= _) _ _ s from zay (wpAny_seqItems el dl ?_)));simp only[Int.toNat_natCast]
 cases hx:items[i]? with
 | some x =>
  refine zay (wpAny_setField eo od (by simp) (zab ⟨x,rfl,zab (hQ x hx _ ⟨_,Heap.get?_update_self _ eo (Obj.isFreed_of_fields (Obj.data_mapFields od _)),(Obj.cls_mapFields ..).trans oc,?_⟩ (Heap.SameBut.update ..))⟩))
  grind [Obj.data_mapFields,rawInt]
 | none =>
  refine zay (wpAny_rule (zay (wpAny_setField eo od (by simp) ?_)));show wpAny _ _ (newExc (.type "StopIteration") [] >>= _) _ _ _;refine zay ?_;simp only[newExc,newTuple];refine zay (wpAny_newObj_type (zay (m:=firstArgMember _ _) (wpAny_of_eq (a:=Value.none) (by first|rfl|(simp only[firstArgMember];rfl)) (wpAny_newObj_type ?_ (by size_fits)))) (by size_fits));simp only[raiseNew];refine zay (wpAny_handled ?_)
  first|rw[show A.in1.handled=none from hh]|rw[hh]
  exact zay (zab (wpAny_throw (hE hx _ _ (((Heap.SameBut.update ..).extBut.push _).push _) ⟨_,zbz _ rfl,rfl⟩)))
def jpx{k:Bool}{it l:Addr}{i:Nat}{items:Array Value}{Q:qc}(hh:A.handled=none)(hi:ItOn k s.heap it l i)(hl:SrcOn k s.heap l items)(hQ:∀ x,items[i]? = some x->∀ h',ItOn k h' it l (i+1)->Heap.SameBut it s.heap h'->Q x { s with heap:=h' })
  (hE:items[i]? = none->∀ h' e,Heap.ExtBut it s.heap h'->(∃ o,h'.get? e=some o/\o.cls=.type "StopIteration")->E (.ref e) { s with heap:=h' }):wpAny (model prog w) A (Builtin.SmallTypes.nextOf (.ref it)) Q E s:=by
 cases k with
 | true=>exact jvi hh hi hl hQ hE
 | false =>
  cases hx:items[i]? with
  | some x=>exact wpAny_nextOf_list_item hi hl hx (hQ x hx)
  | none=>exact wpAny_nextOf_list_end hh hi hl hx (hE hx)
def jxy{k:Bool}{l:Addr}{xs:Array Value}{Q:qc}(hl:SrcOn k s.heap l xs)
  (h:∀ o,ItOn k (s.heap.push o) s.heap.objs.size l 0->Q (.ref s.heap.objs.size) { s with heap:=s.heap.push o }):wpAny (model prog w) A (pyIter (.ref l)) Q E s:=by
 cases k with
 | true=>exact wpAny_pyIter_tuple hl (h _ ⟨_,zbz _ rfl,rfl,rfl⟩)
 | false=>exact wpAny_pyIter_list hl (h _ ⟨_,zbz _ rfl,rfl,rfl⟩)
structure ZFar(z TI TO i1 i2:Addr):Prop where
 a1:TI≠z
 a2:TO≠z
 a3:i1≠z
 a4:i2≠z
 a5:TI≠TO
 a6:TI≠i1
 a7:TI≠i2
 a8:TO≠i1
 a9:TO≠i2
 a10:i1≠i2
def LFar(z TO i1 i2 l:Addr):Prop:=l≠z/\l≠TO/\l≠i1/\l≠i2
def jt4{k1 k2:Bool}{z TI TO i1 i2 l1 l2:Addr}{n1 n2:Nat}{xs ys:Array Value}{a b:Value}{Q:Option Value->Shared->Prop}(hh:A.handled=none)(D:ZFar z TI TO i1 i2)(d1:LFar z TO i1 i2 l1)(d2:LFar z TO i1 i2 l2)
  (hz:IsZip s.heap z TI TO .none) (ht:IsPair s.heap TI (.ref i1) (.ref i2)) (hu:IsPair s.heap TO a b) (j1:ItOn k1 s.heap i1 l1 n1) (j2:ItOn k2 s.heap i2 l2 n2) (c1:SrcOn k1 s.heap l1 xs) (c2:SrcOn k2 s.heap l2 ys)
  (hQ:∀ x y,xs[n1]? = some x->ys[n2]? = some y->∀ h',IsZip h' z TI TO (rawInt s.heap.objs.size)->IsPair h' TO x y->ItOn k1 h' i1 l1 (n1+1)->ItOn k2 h' i2 l2 (n2+1)->IsPair h' s.heap.objs.size x y ->
   (∀ c o,c≠z->c≠TO->c≠i1->c≠i2->s.heap.get? c=some o->h'.get? c=some o)->Q (some (.ref s.heap.objs.size)) { s with heap:=h' })
  (hE:xs[n1]? = none\/ys[n2]? = none->∀ h',(∀ c o,c≠z->c≠TO->c≠i1->c≠i2->s.heap.get? c=some o->h'.get? c=some o)->Q none { s with heap:=h' }):wpAny (model prog w) A (pyNext (.ref z)) Q E s:=by
 have ty:s.TypeIs (.ref z) "zip":=⟨_,hz,rfl⟩
 unfold pyNext;refine zay (wpAny_attempt (wpAny_callSpecial?_slot (name:=Str.ofString "__next__") ty F.slot_zip_next (wpAny_call_entry F.slot_zip_next ty F.entry_zip_next ?_ (F.args_zip_next_1 _))));show wpAny _ _ (field (.ref z) 2 >>= _) _ _ _;refine zay (wpAny_field hz rfl (x:=.bool false) rfl (show wpAny _ _ (field (.ref z) 3 >>= _) _ _ _ from zay (wpAny_field hz rfl (x:=.ref TI) rfl (zay (wpAny_seqItems ht rfl ?_)))));show wpAny _ _ (Builtin.SmallTypes.ownedTupleIsFree (.ref z) >>= _) _ _ _;refine zay ?_;unfold Builtin.SmallTypes.ownedTupleIsFree;refine zay (wpAny_field hz rfl (x:=.none) rfl (zab ?_));simp only[if_true];refine zay (wpAny_rule (zay (wpAny_field hz rfl (x:=.ref TO) rfl (zay (wpAny_setField_rec hz (by simp) fun g1 z1 e1=>zay ?_)))))
 replace z1:IsZip g1 z TI TO .ellipsis:=z1
 simp only[List.zipIdx_cons,List.zipIdx_nil,List.forIn_cons,List.forIn_nil];refine zay (zay (wpAny_onRaise (show wpAny _ _ (Builtin.SmallTypes.nextOf (.ref i1) >>= _) _ _ _ from ?_)));refine zay (jpx hh (j1.mv fun o q=>e1.extBut _ _ D.a3 q) (c1.mv fun o q=>e1.extBut _ _ d1.1 q) (fun x hx g2 m1 e2=>zab ?_) fun hx g2 e f2 ⟨oe,q1,q2⟩=>?_)
 rotate_left
 .have nez:e≠z:=fun p=>by
   have z2:IsZip g2 z TI TO .ellipsis:=f2 _ _ D.a3.symm z1
   grind
  exact wpAny_setField_rec (f2 _ _ D.a3.symm z1) (by simp) fun g3 _ e3=>zay (wpAny_isInstance (T:="StopIteration") (b:=true) ⟨oe,e3.extBut _ _ nez q1,q2⟩ isSubtype_stop (zab (hE (.inl hx) _ fun c o p1 _ p3 _ q=>e3.extBut _ _ p1 (f2 _ _ p3 (e1.extBut _ _ p1 q)))))
 have u2:IsPair g2 TO a b:=e2.extBut _ _ D.a8 (e1.extBut _ _ D.a2 hu);refine zay (wpAny_seqItems u2 rfl (zay (wpAny_updateSeq_pair u2 fun g3 u3 e3=>zay (wpAny_letGo (zab ?_)))))
 replace u3:IsPair g3 TO x b:=u3
 have up3:∀ c o,c≠z->c≠TO->c≠i1->s.heap.get? c=some o->g3.get? c=some o:=fun c o p1 p2 p3 q=>e3.extBut _ _ p2 (e2.extBut _ _ p3 (e1.extBut _ _ p1 q))
 refine zay (zay (wpAny_onRaise (show wpAny _ _ (Builtin.SmallTypes.nextOf (.ref i2) >>= _) _ _ _ from ?_)));refine zay (jpx hh (j2.mv fun o q=>up3 _ o D.a4 D.a9.symm D.a10.symm q) (c2.mv fun o q=>up3 _ o d2.1 d2.2.1 d2.2.2.1 q) (fun y hy g4 m2 e4=>zab ?_) fun hy g4 e f4 ⟨oe,q1,q2⟩=>?_)
 rotate_left
 .have z4:IsZip g4 z TI TO .ellipsis:=f4 _ _ D.a4.symm (e3.extBut _ _ D.a2.symm (e2.extBut _ _ D.a3.symm z1));have nez:e≠z:=fun p=>by grind
  exact wpAny_setField_rec z4 (by simp) fun g5 _ e5=>zay (wpAny_isInstance (T:="StopIteration") (b:=true) ⟨oe,e5.extBut _ _ nez q1,q2⟩ isSubtype_stop (zab (hE (.inr hy) _ fun c o p1 p2 p3 p4 q=>e5.extBut _ _ p1 (f4 _ _ p4 (up3 c o p1 p2 p3 q)))))
 have u4:IsPair g4 TO x b:=e4.extBut _ _ D.a9 u3;refine zay (wpAny_seqItems u4 rfl (zay (wpAny_updateSeq_pair u4 fun g5 u5 e5=>zay (wpAny_letGo (zab (zab ?_))))))
 replace u5:IsPair g5 TO x y:=u5
 refine zay (wpAny_seqItems u5 rfl (zay (wpAny_newTuple ?_)));have sz:g5.objs.size=s.heap.objs.size:=by rw[e5.1,e4.1,e3.1,e2.1,e1.1]
 have z5:IsZip g5 z TI TO .ellipsis:=e5.extBut _ _ D.a2.symm (e4.extBut _ _ D.a4.symm (e3.extBut _ _ D.a2.symm (e2.extBut _ _ D.a3.symm z1)));have up5:∀ c o,c≠z->c≠TO->c≠i1->c≠i2->s.heap.get? c=some o->g5.get? c=some o:=fun c o p1 p2 p3 p4 q=>e5.extBut _ _ p2 (e4.extBut _ _ p4 (up3 c o p1 p2 p3 q))
 have m15:ItOn k1 g5 i1 l1 (n1+1):=m1.mv fun o q=>e5.extBut _ _ D.a8.symm (e4.extBut _ _ D.a10 (e3.extBut _ _ D.a8.symm q))
 have m25:ItOn k2 g5 i2 l2 (n2+1):=m2.mv fun o q=>e5.extBut _ _ D.a9.symm q
 have zlt:z<g5.objs.size:=zbv z5;show wpAny _ _ (Builtin.SmallTypes.ownedTupleHandOut (.ref z) (.ref g5.objs.size) >>= _) _ _ _;refine zay ?_;unfold Builtin.SmallTypes.ownedTupleHandOut;have z6:IsZip (g5.push { cls:=.type "tuple",data:=.seq #[x,y] }) z TI TO .ellipsis:=zaz _ z5;refine zay (wpAny_setField_rec z6 (by simp) fun g7 z7 e7=>?_)
 replace z7:IsZip g7 z TI TO (rawInt g5.objs.size):=z7
 refine wpAny_setField_rec z7 (by simp) fun g8 z8 e8=>?_
 replace z8:IsZip g8 z TI TO (rawInt g5.objs.size):=z8
 have up8:∀ c o,c≠z->g5.get? c=some o->g8.get? c=some o:=fun c o p1 q=>e8.extBut _ _ p1 (e7.extBut _ _ p1 (zaz _ q))
 have t8:IsPair g8 g5.objs.size x y:=e8.extBut _ _ (Nat.ne_of_gt zlt) (e7.extBut _ _ (Nat.ne_of_gt zlt) (zbz _ rfl));rw[sz] at z8 t8;refine zab ⟨_,rfl,zab ?_⟩;show Q (some (.ref g5.objs.size)) _;rw[sz];exact (hQ x y hx hy g8 z8 (up8 _ _ D.a2 u5) (m15.mv fun o q=>up8 _ o D.a3 q) (m25.mv fun o q=>up8 _ o D.a4 q) t8 fun c o p1 p2 p3 p4 q=>up8 c o p1 (up5 c o p1 p2 p3 p4 q))
abbrev zA(h:Heap)(o1 o2:Obj):Heap:=(h.push o1).push o2
abbrev zB(h:Heap)(o1 o2:Obj):Heap:=(zA h o1 o2).push { cls:=.type "tuple",data:=.seq #[.ref h.objs.size,.ref (h.push o1).objs.size] }
noncomputable abbrev zC(h:Heap)(o1 o2:Obj):Heap:=(zB h o1 o2).push { cls:=.type "tuple",data:=.seq #[.none,.none] }
noncomputable abbrev zD(h:Heap)(o1 o2:Obj):Heap:=(zC h o1 o2).push { cls:=.type "zip",data:=.fields #[.none,.bool false,.bool false,.ref (zA h o1 o2).objs.size,.ref (zB h o1 o2).objs.size] }
def jyr(l1 l2:Addr)(xs ys:Array Value):Meets (Builtin.«zip.__new__» ⟨[.type "zip",.ref l1,.ref l2],[]⟩) (fun _ R s=>SrcOn k1 s.heap l1 xs/\SrcOn k2 s.heap l2 ys /\
  ∀ o1 o2,ItOn k1 (s.heap.push o1) s.heap.objs.size l1 0->ItOn k2 (zA s.heap o1 o2) (s.heap.push o1).objs.size l2 0->R (.ok (.ret (.ref (zC s.heap o1 o2).objs.size))) { s with heap:=zD s.heap o1 o2 }) :=
 .of_wp fun prog w A R s h=>by
  obtain⟨hp,g,d,tk,os⟩:=s;obtain⟨c1,c2,h⟩:=h;have hsub:=sub_zip;have q1:SrcOn k1 (Shared.heap ⟨hp,g,d,tk,os⟩) l1 xs:=c1
  wp_walk using jxy q1
  intro o1 w1;have q2:SrcOn k2 (Shared.heap ⟨hp.push o1,g,d,tk,os⟩) l2 ys:=SrcOn.mv c2 fun o e=>zaz _ e
  wp_walk using jxy q2
  intro o2 w2
  wp_walk
  exact⟨_,rfl,h o1 o2 w1 w2⟩
section
variable {X:Cx}
def Inv.spun{fp:List Addr}(I:Inv X U Z H s)(hf:∀ b∈fp,FpOk X U H b)(k:∀ b o,b∉fp->s.heap.get? b=some o->h'.get? b=some o)
  (ko:∀ b∈fp,∃ o,h'.get? b=some o) (hT:s.heap.get? T=none) (hn:H T=none) (hv:Vals vs its) (hz:vs.length<=sizeLine) (ht:IsTup h' T its.toArray):Inv X U Z (upd H T (.tup vs)) { s with heap:=h',toks:=t' }:=by
 have nT:∀ b o,s.heap.get? b=some o->b≠T:=fun b o e z=>by grind
 have nf:∀ b u,H b=some u->b∉fp:=fun b u e z=>by rw[(hf b z).1] at e;cases e
 refine I.step (g':=s.gens) (d':=s.drawn) (ch:=fp) (fun b hb=>?_) (fun b o _ _ hc e _=>k b o hc e) (fun b o _ _ hc e _=>⟨o.slots,k b o hc e⟩) (fun b o _ e n=>by rw[jam (nT b o e)];exact n)
  (fun b o hc e=>⟨o,k b o hc e⟩) (fun b xs e=>by rw[jam (jau e hn)];exact e) (fun b o u e=>by rw[jam (jau e hn)];exact e) (fun b ps e=>⟨#[],by rw[jam (jau e hn),e];simp⟩) (fun m hm=>?_) (fun b u e=>?_) I.bare
 .obtain⟨_,f1,_,f3,f4,f5⟩:=hf b hb
  grind
 .obtain⟨o,es,ep,ho,r⟩:=hm;exact⟨o,es,ep,k _ o (fun z=>(hf _ z).2.1 rfl) ho,r⟩
 .by_cases hb:b=T
  .subst hb;rw[jaj] at e;cases e
   exact⟨hz,its,hv,ht⟩
  .rw[jam hb] at e;refine (I.hok b u e).stay (fun c v hc q=>k c v ?_ q) (fun c q=>by rw[jam (jau q hn)];exact q) fun c xs q=>by rw[jam (jau q hn)];exact q
   grind
def Inv.spun0{fp:List Addr}(I:Inv X U Z H s)(hf:∀ b∈fp,FpOk X U H b)(k:∀ b o,b∉fp->s.heap.get? b=some o->h'.get? b=some o):Inv X U Z H { s with heap:=h',toks:=t' }:=by
 have nf:∀ b u,H b=some u->b∉fp:=fun b u e z=>by rw[(hf b z).1] at e;cases e
 refine I.step (g':=s.gens) (d':=s.drawn) (ch:=fp) (fun b hb=>?_) (fun b o _ _ hc e _=>k b o hc e) (fun b o _ _ hc e _=>⟨o.slots,k b o hc e⟩) (fun b o _ e n=>n)
  (fun b o hc e=>⟨o,k b o hc e⟩) (fun b xs e=>e) (fun b o u e=>e) (fun b ps e=>⟨#[],by rw[e];simp⟩) (fun m hm=>?_) (fun b u e=>?_) I.bare
 .obtain⟨_,f1,_,f3,f4,f5⟩:=hf b hb
  grind
 .obtain⟨o,es,ep,ho,r⟩:=hm;exact⟨o,es,ep,k _ o (fun z=>(hf _ z).2.1 rfl) ho,r⟩
 .refine (I.hok b u e).stay (fun c v hc q=>k c v ?_ q) (fun c q=>q) fun c xs q=>q
  grind
def SqV(k:Bool)(K:W.Frag)(H:Hp)(l:Addr)(xs:List V):Prop:=if k=true then SqT K H l xs else SqL K H l xs
def Inv.src(I:Inv X U Z H s)(h:SqV k X.K H l xs):∃ its:List Value,Vals xs its/\SrcOn k s.heap l its.toArray/\xs.length<=sizeLine:=by
 cases k with
 | true =>
  obtain⟨its,r,p,z⟩:=I.tuple (h:SqT X.K H l xs);exact⟨its,r,p,z⟩
 | false =>
  obtain⟨its,r,p,z⟩:=I.list (h:SqL X.K H l xs);exact⟨its,r,p.isList,z⟩
def Inv.src_inj(I:Inv X U Z H s)(h:SqV k X.K H l xs)(h':SqV k X.K H l ys):xs=ys:=by
 cases k with
 | true=>exact I.tuple_inj (h:SqT X.K H l xs) h'
 | false=>exact I.list_inj (h:SqL X.K H l xs) h'
def jke(I:Inv X U Z H s)(h:SqV k X.K H l xs)(f:FpOk X U H b):l≠b:=by
 intro e;subst e;obtain⟨f0,f1,f2,f3,_⟩:=f;have base:∀ o,X.K.lookup l=some o->False:=fun o q=>by
  have hb:=I.ok.mod.kin l o q;rcases f3 with z|z
  .exact I.ok.noex l o hb z
  .exact absurd (zcx (zbv hb) (zdz I.ok.bsz z)) (Nat.lt_irrefl _)
 cases k with
 | true =>
  rcases (h:SqT X.K H l xs) with q|⟨o,its,n,q,_⟩
  .rcases q with q|⟨o,q⟩<;>(rw[f0] at q;cases q)
  .exact base o q
 | false =>
  rcases (h:SqL X.K H l xs) with q|⟨o,its,n,q,_⟩
  .rcases q with q|⟨o,q⟩<;>(rw[f0] at q;cases q)
  .exact base o q
end
def Itz(k1 k2:Bool)(K:W.Frag)(l1 l2:Addr):It :=
  ⟨fun i H=>∃ xs ys x y,SqV k1 K H l1 xs/\SqV k2 K H l2 ys/\xs[i]? = some x/\ys[i]? = some y,
   fun i H v H'=>∃ T x y,H T=none/\v=.ref T/\H'=upd H T (.tup [x,y])/\(∀ xs,SqV k1 K H l1 xs->xs[i]? = some x)/\(∀ ys,SqV k2 K H l2 ys->ys[i]? = some y),
   fun i H=>∃ xs ys,SqV k1 K H l1 xs/\SqV k2 K H l2 ys/\(xs.length<=i\/ys.length<=i)⟩
def jEv{K:W.Frag}(k1 k2:Bool)(l1 l2 z TI TO i1 i2:Addr)(D:ZFar z TI TO i1 i2) :
  Turn P w K (.Tuple es kk tp) (Itz k1 k2 K l1 l2) [z,TI,TO,i1,i2] z (fun i h=>IsZip h z TI TO .none/\IsPair h TI (.ref i1) (.ref i2)/\(∃ a b,IsPair h TO a b)/\ItOn k1 h i1 l1 i/\ItOn k2 h i2 l2 i) where
 mem:=by simp
 obj:=fun i h st b hb=>by
  obtain⟨q1,q2,⟨a,b',q3⟩,q4,q5⟩:=st;simp only[List.mem_cons,List.not_mem_nil,or_false] at hb;rcases hb with rfl|rfl|rfl|rfl|rfl
  .grind
  .grind
  .grind
  .obtain⟨o,vs,e,d⟩:=q4.ob;exact⟨o,e,fun v z=>by rw[d] at z;cases z⟩
  .obtain⟨o,vs,e,d⟩:=q5.ob;exact⟨o,e,fun v z=>by rw[d] at z;cases z⟩
 keep:=fun i h h' st k=>by
  obtain⟨q1,q2,⟨a,b',q3⟩,q4,q5⟩:=st;exact⟨k z (by simp) _ q1,k TI (by simp) _ q2,⟨a,b',k TO (by simp) _ q3⟩,q4.mv fun o e=>k i1 (by simp) o e,q5.mv fun o e=>k i2 (by simp) o e⟩
 item:=by
  intro X hP hw hK hc i U s Z H E I hf st hg;subst hP hw hK;obtain⟨q1,q2,⟨a,b',q3⟩,q4,q5⟩:=st;obtain⟨xs,ys,x,y,sx,sy,hx,hy⟩:=hg;obtain⟨ix,rx,cx,_⟩:=I.src sx;obtain⟨iy,ry,cy,_⟩:=I.src sy;obtain⟨u,hu,ru⟩:=rx.get hx;obtain⟨v,hv,rv⟩:=ry.get hy;have far:∀ {k:Bool} {l:Addr} {xs:List V},SqV k X.K H l xs->LFar z TO i1 i2 l:=fun h=>⟨jke I h (hf z (by simp)),jke I h (hf TO (by simp)),jke I h (hf i1 (by simp)),jke I h (hf i2 (by simp))⟩
  have hu':ix.toArray[i]? = some u:=by grind
  have hv':iy.toArray[i]? = some v:=by grind
  refine jt4 (I.ok.hd hc) D (far sx) (far sy) q1 q2 q3 q4 q5 cx cy (fun u0 v0 hu0 hv0 h' b1 b2 b3 b4 b5 b6=>⟨_,rfl,?_⟩) fun z=>by rw[hu',hv'] at z;rcases z with z|z<;>cases z
  cases hu'.symm.trans hu0;cases hv'.symm.trans hv0;have keep:∀ b o,b∉[z,TI,TO,i1,i2]->s.heap.get? b=some o->h'.get? b=some o:=fun b o hb e=>by
   grind
  have e2:IsPair h' TI (.ref i1) (.ref i2):=b6 TI _ D.a1 D.a5 D.a6 D.a7 q2;have hfr:H s.heap.objs.size=none:=I.hok.fresh (zac _);have hno:s.heap.get? s.heap.objs.size=none:=Heap.get?_none_of_le (zac _);have Tz:s.heap.objs.size≠z:=Nat.ne_of_gt (zbv q1);refine wpAny_letOwnedTupleGo_zip b1 fun h2 z2 s2=>?_
  have up2:∀ b o,b≠z->h'.get? b=some o->h2.get? b=some o:=fun b o hb e=>s2.extBut _ _ hb e
  have keep2:∀ b o,b∉[z,TI,TO,i1,i2]->s.heap.get? b=some o->h2.get? b=some o:=fun b o hb e=>up2 b o (fun q=>hb (by simp[q])) (keep b o hb e)
  have tu:IsTup h2 s.heap.objs.size [u,v].toArray:=⟨_,up2 _ _ Tz b5,rfl,0,rfl⟩
  have I2:Inv X U Z (upd H s.heap.objs.size (.tup [x,y])) { s with heap:=h2 }:=I.spun (t':=s.toks) hf keep2 (fun b hb=>by
   simp only[List.mem_cons,List.not_mem_nil,or_false] at hb;rcases hb with rfl|rfl|rfl|rfl|rfl
   .grind
   .grind
   .grind
   .obtain⟨o,vs,e,_⟩:=b3.ob;grind
   .obtain⟨o,vs,e,_⟩:=b4.ob;grind) hno hfr (.cons ru (.cons rv .nil)) (by grind [sizeLine]) tu
  refine⟨.ref s.heap.objs.size,_,I2,rfl,⟨_,x,y,hfr,rfl,rfl,fun xs' h=>by rw[I.src_inj h sx];exact hx,fun ys' h=>by rw[I.src_inj h sy];exact hy⟩,?_,fun b hb=>?_⟩
  .exact⟨z2,up2 _ _ D.a1 e2,⟨_,_,up2 _ _ D.a2 b2⟩,b3.mv fun o e=>up2 _ o D.a3 e,b4.mv fun o e=>up2 _ o D.a4 e⟩
  .have:b≠s.heap.objs.size:=fun q=>by
    subst q;simp only[List.mem_cons,List.not_mem_nil,or_false] at hb;rcases hb with q|q|q|q|q
    .exact Tz q
    .grind
    .grind
    .obtain⟨o,vs,e,_⟩:=q4.ob;exact absurd (zbv e) (by rw[q];exact Nat.lt_irrefl _)
    .obtain⟨o,vs,e,_⟩:=q5.ob;exact absurd (zbv e) (by rw[q];exact Nat.lt_irrefl _)
   rw[jam this];exact (hf b hb).1
 done:=by
  intro X hP hw hK hc i U s Z H E I hf st hg;subst hP hw hK;obtain⟨q1,q2,⟨a,b',q3⟩,q4,q5⟩:=st;obtain⟨xs,ys,sx,sy,hend⟩:=hg;obtain⟨ix,rx,cx,_⟩:=I.src sx;obtain⟨iy,ry,cy,_⟩:=I.src sy;have far:∀ {k:Bool} {l:Addr} {xs:List V},SqV k X.K H l xs->LFar z TO i1 i2 l:=fun h=>⟨jke I h (hf z (by simp)),jke I h (hf TO (by simp)),jke I h (hf i1 (by simp)),jke I h (hf i2 (by simp))⟩
  have lx:=rx.length;have ly:=ry.length;refine jt4 (I.ok.hd hc) D (far sx) (far sy) q1 q2 q3 q4 q5 cx cy (fun u v hu hv=>?_) fun _ h' k=>⟨rfl,I.spun0 (t':=s.toks) hf fun b o hb e=>?_⟩
  .have:=(Array.getElem?_eq_some_iff.mp hu).1;have:=(Array.getElem?_eq_some_iff.mp hv).1;simp only[zbx] at *
   lia
  .simp only[List.mem_cons,List.not_mem_nil,or_false,not_or] at hb;exact k b o hb.1 hb.2.2.1 hb.2.2.2.1 hb.2.2.2.2 e
 self:=fun _ _ _ _ _ st h=>wpAny_pyIter_zip st.1 h
def zfar(n:Nat):ZFar (n+4) (n+2) (n+3) n (n+1):=⟨show (n+2:Nat)≠n+4 by lia,show (n+3:Nat)≠n+4 by lia,show (n:Nat)≠n+4 by lia,show (n+1:Nat)≠n+4 by lia,show (n+2:Nat)≠n+3 by lia,
 show (n+2:Nat)≠n by lia,show (n+2:Nat)≠n+1 by lia,show (n+3:Nat)≠n by lia,show (n+3:Nat)≠n+1 by lia,show (n:Nat)≠n+1 by lia⟩
section
variable {X:Cx}
def iZip(K:W.Frag)(ta:TA):TI:=fun Z H R=>ta Z H fun vs H1=>∃ k1 k2 l1 l2 xs ys,vs=[.ref l1,.ref l2]/\SqV k1 K H1 l1 xs/\SqV k2 K H1 l2 ys/\R (Itz k1 k2 K l1 l2) H1
def jOw(hg:Gl X "zip")(hm:X.mg "zip"=none)(ha:PA X [a,b] ta)(hs:starEach [a,b] X.env=[(false,eval a X.env),(false,eval b X.env)])(hs2:starEach [b] X.env=[(false,eval b X.env)]) :
  PI X (.Tuple es kk tp) (.Call (.Name "zip" p) [a,b] [] pos) (iZip X.K ta):=by
 intro U s Z H R I h;refine Call_ (jj5 I hg hm boot_zip (PyProof.Rows.callWith_type1 (thn (ha pos U s Z H _ I h) fun us s1 hzz=>?_) (by rw[hs,hs2]) (by rw[hs2];rfl)));obtain⟨vs,H1,I1,r1,q1⟩:=hzz;obtain⟨k1,k2,l1,l2,xs,ys,e,sx,sy,q⟩:=q1;subst e;obtain⟨u1,u2,rfl,e1,e2⟩:=r1.two;cases e1;cases e2;obtain⟨ix,rx,cx,_⟩:=I1.src sx;obtain⟨iy,ry,cy,_⟩:=I1.src sy;refine callType_new F.called_zip (by decide) (F.typeCall_zip_2 _ _) (F.newCall_zip_2 _ _) (fun obj=>F.args_object_init_3 obj _ _) F.entry_zip_new (jyr l1 l2 ix.toArray iy.toArray) ⟨cx,cy,fun o1 o2 w1 w2=>?_⟩;have n1:(s1.heap.push o1).objs.size=s1.heap.objs.size+1:=Heap.size_push ..;have n2:(zA s1.heap o1 o2).objs.size=s1.heap.objs.size+2:=by show (Heap.push _ _).objs.size=_;rw[Heap.size_push,n1]
 have n3:(zB s1.heap o1 o2).objs.size=s1.heap.objs.size+3:=by show (Heap.push _ _).objs.size=_;rw[Heap.size_push,n2]
 have n4:(zC s1.heap o1 o2).objs.size=s1.heap.objs.size+4:=by show (Heap.push _ _).objs.size=_;rw[Heap.size_push,n3]
 have g5:(zD s1.heap o1 o2).get? (zC s1.heap o1 o2).objs.size=some _:=zbz _ rfl;have g4:(zD s1.heap o1 o2).get? (zB s1.heap o1 o2).objs.size=some _:=zaz _ (zbz _ rfl);have g3:(zD s1.heap o1 o2).get? (zA s1.heap o1 o2).objs.size=some _:=zaz _ (zaz _ (zbz _ rfl));have kk2:∀ c o,(zA s1.heap o1 o2).get? c=some o->(zD s1.heap o1 o2).get? c=some o:=fun c o e=>zaz _ (zaz _ (zaz _ e))
 have kk1:∀ c o,(s1.heap.push o1).get? c=some o->(zD s1.heap o1 o2).get? c=some o:=fun c o e=>kk2 c o (zaz _ e)
 have kk0:∀ c o,s1.heap.get? c=some o->(zD s1.heap o1 o2).get? c=some o:=fun c o e=>kk1 c o (zaz _ e)
 rw[n1] at w2 g3;rw[n2] at g3;rw[n3] at g4;rw[n4,n2,n3] at g5;show _/\_;rw[n4];refine⟨⟨_,g5,rfl⟩,wpAny_pyIter_zip g5 ?_⟩;have D:ZFar (s1.heap.objs.size+4) (s1.heap.objs.size+2) (s1.heap.objs.size+3) s1.heap.objs.size (s1.heap.objs.size+1):=zfar _;refine⟨s1.heap.objs.size+4,[s1.heap.objs.size+4,s1.heap.objs.size+2,s1.heap.objs.size+3,s1.heap.objs.size,s1.heap.objs.size+1],_,_,H1,rfl,I1.kept (t':=s1.toks) fun c o e=>kk0 c o e,
  jEv k1 k2 l1 l2 _ _ _ _ _ D,⟨g5,g3,⟨_,_,g4⟩,w1.mv fun o e=>kk1 _ o e,w2.mv fun o e=>kk2 _ o e⟩,fun b hb=>?_,q⟩
 have hb':s1.heap.objs.size<=b:=by
  simp only[List.mem_cons,List.not_mem_nil,or_false] at hb;show (s1.heap.objs.size:Nat)<=(b:Nat);have hb2:(b:Nat)=b:=rfl;rcases hb with q|q|q|q|q<;>(rw[q];first|exact zac _|lia)
 exact I1.fpOk hb' (I1.hok.fresh hb')
end
def Ite(K:W.Frag)(l:Addr):It :=
  ⟨fun i H=>∃ xs x,SqL K H l xs/\xs[i]? = some x,
   fun i H v H'=>∃ T x,H T=none/\v=.ref T/\H'=upd H T (.tup [.int i,x])/\(∀ xs,SqL K H l xs->xs[i]? = some x),
   fun i H=>∃ xs,SqL K H l xs/\xs.length<=i⟩
def jA3{K:W.Frag}(l e it:Addr)(D:e≠it) :
  Turn P w K (.Tuple es kk tp) (Ite K l) [e,it] e (fun i h=>(∃ old,IsEnum h e it i old)/\h.IsListIter it l i) where
 mem:=by simp
 obj:=fun i h st b hb=>by
  obtain⟨⟨old,q1⟩,o,q2,_,q3⟩:=st
  grind
 keep:=fun i h h' st k=>by
  obtain⟨⟨old,q1⟩,q2⟩:=st;exact⟨⟨old,k e (by simp) _ q1⟩,q2.at fun o z=>k it (by simp) o z⟩
 item:=by
  intro X hP hw hK hc i U s Z H E I hf st hg;subst hP hw hK;obtain⟨⟨old,q1⟩,q2⟩:=st;obtain⟨xs,x,sx,hx⟩:=hg;obtain⟨ix,rx,cx,_⟩:=I.list sx;obtain⟨u,hu,ru⟩:=rx.get hx;refine wpAny_pyNext_enum_item q1 q2 cx.isList (x:=u) (by grind) D fun h' b1 b2 b3 b4 b5=>⟨_,rfl,?_⟩
  have hfr:H s.heap.objs.size=none:=I.hok.fresh (zac _);have hno:s.heap.get? s.heap.objs.size=none:=Heap.get?_none_of_le (zac _);have Te:s.heap.objs.size≠e:=Nat.ne_of_gt (zbv q1);have Ti:s.heap.objs.size≠it:=by obtain⟨o,q,_⟩:=q2;exact Nat.ne_of_gt (zbv q)
  refine wpAny_letOwnedTupleGo_enum b1 fun h2 e2 s2=>?_
  have up2:∀ b o,b≠e->h'.get? b=some o->h2.get? b=some o:=fun b o hb z=>s2.extBut _ _ hb z
  have keep2:∀ b o,b∉[e,it]->s.heap.get? b=some o->h2.get? b=some o:=fun b o hb z=>by
   grind
  have tu:IsTup h2 s.heap.objs.size [.int i s.toks,u].toArray:=⟨_,up2 _ _ Te b3,rfl,0,rfl⟩
  have i2:h2.IsListIter it l (i+1):=b2.at fun o z=>up2 _ o D.symm z
  have I2:Inv X U Z (upd H s.heap.objs.size (.tup [.int i,x])) { s with heap:=h2,toks:=s.toks+1 }:=I.spun hf keep2 (fun b hb=>by
   simp only[List.mem_cons,List.not_mem_nil,or_false] at hb;rcases hb with rfl|rfl
   .grind
   .obtain⟨o,q,_⟩:=i2;grind) hno hfr (.cons ⟨_,rfl⟩ (.cons ru .nil)) (by grind [sizeLine]) tu
  refine⟨.ref s.heap.objs.size,_,I2,rfl,⟨_,x,hfr,rfl,rfl,fun xs' h=>by rw[I.list_inj h sx];exact hx⟩,⟨⟨u,by grind⟩,i2⟩,fun b hb=>?_⟩;have:b≠s.heap.objs.size:=fun q=>by
   grind
  rw[jam this];exact (hf b hb).1
 done:=by
  intro X hP hw hK hc i U s Z H E I hf st hg;subst hP hw hK;obtain⟨⟨old,q1⟩,q2⟩:=st;obtain⟨xs,sx,hend⟩:=hg;obtain⟨ix,rx,cx,_⟩:=I.list sx;have lx:=rx.length;refine wpAny_pyNext_enum_end (I.ok.hd hc) q1 q2 cx.isList (by simp;lia) fun h' k=>⟨rfl,I.spun0 (t':=s.toks) hf fun b o hb z=>?_⟩
  simp only[List.mem_cons,List.not_mem_nil,or_false,not_or] at hb;exact k b o hb.2 z
 self:=fun _ _ _ _ _ st h=>by grind [st,wpAny_pyIter_enum]
section
variable {X:Cx}
def jQ8(K:W.Frag)(ta:TA):TI:=fun Z H R=>ta Z H fun vs H1=>∃ l xs,vs=[.ref l]/\SqL K H1 l xs/\R (Ite K l) H1
def jzk(hg:Gl X "enumerate")(hm:X.mg "enumerate"=none)(ha:PA X [a] ta)(hs:starEach [a] X.env=[(false,eval a X.env)]) :
  PI X (.Tuple es kk tp) (.Call (.Name "enumerate" p) [a] [] pos) (jQ8 X.K ta):=by
 intro U s Z H R I h;refine Call_ (jj5 I hg hm boot_enumerate (PyProof.Rows.callWith_type1 (thn (ha pos U s Z H _ I h) fun us s1 hzz=>?_) hs rfl));obtain⟨vs,H1,I1,r1,q1⟩:=hzz;obtain⟨l,xs,e,sx,q⟩:=q1;subst e;obtain⟨u,rfl,e1⟩:=r1.one;cases e1;obtain⟨ix,rx,cx,_⟩:=I1.list sx;refine call_enumerate_list cx.isList fun h' b1 b2 b3 b4=>wpAny_pyIter_enum b1 ?_
 refine⟨s1.heap.objs.size+1,[s1.heap.objs.size+1,s1.heap.objs.size],_,_,H1,rfl,I1.kept (t':=s1.toks) fun c o e=>b4 c o e,jA3 l _ _ (show (s1.heap.objs.size+1:Nat)≠s1.heap.objs.size by lia),⟨⟨_,b1⟩,b2⟩,fun b hb=>?_,q⟩;have hb':s1.heap.objs.size<=b:=by
  simp only[List.mem_cons,List.not_mem_nil,or_false] at hb;rcases hb with q|q<;>(grind)
 exact I1.fpOk hb' (I1.hok.fresh hb')
end
def iSeq(K:W.Frag)(tl:TE):TI:=fun Z H R=>tl Z H fun x H1=>(∃ a,x=.ref a/\(∃ xs,SqL K H1 a xs)/\R (Itl K a) H1)\/(∃ a,x=.ref a/\(∃ xs,SqT K H1 a xs)/\R (Itt K a) H1)
def jOu(hl:PE X l tl):PI X tg l (iSeq X.K tl):=by
 intro U s Z H R I h;refine thn (hl _ s Z H _ I h) fun v s1 hzz=>?_
 obtain⟨x,H1,I1,r1,q1⟩:=hzz;have fp1:∀ b∈[s1.heap.objs.size],FpOk X _ H1 b:=fun b hb=>by
  have e:=by simpa using hb
  subst e;exact I1.fpOk (zac _) (I1.hok.fresh (zac _))
 rcases q1 with ⟨a,e,⟨xs,hq⟩,q⟩|⟨a,e,⟨xs,hq⟩,q⟩
 .subst e;cases r1;obtain⟨its,rv,p,hz⟩:=I1.list hq;exact wpAny_pyIter_list p.isList ⟨_,_,_,_,H1,rfl,I1.kept fun b o e=>zaz _ e,jqt a _,⟨_,zbz _ rfl,rfl,rfl⟩,fp1,q⟩
 .subst e;cases r1;obtain⟨its,rv,p,hz⟩:=I1.tuple hq;exact wpAny_pyIter_tuple (p) ⟨_,_,_,_,H1,rfl,I1.kept fun b o e=>zaz _ e,jv7 a _,⟨_,zbz _ rfl,rfl,rfl⟩,fp1,q⟩
def Itv(val:Nat->V)(n:Nat):It:=⟨fun i _=>i<n,fun i H x H'=>H'=H/\x=val i,fun i _=>i=n⟩
def jqa(nm:String):Bool:=!["enumerate","zip","dict_itemiterator","dict_reverseitemiterator","odict_iterator","itertools.zip_longest","itertools.pairwise"].contains nm
def ji3{K:W.Frag}(it:Addr)(val:Nat->V)(n:Nat)(Stn:Nat->Heap->Prop)(W:∀ A:Around,A.handled=none->Walks P w A it [it] [it] n (fun i v=>RelV (val i) v) Stn)
  (ob:∀ i h,Stn i h->∃ o nm vs,h.get? it=some o/\o.cls=.type nm/\o.data=.fields vs/\jqa nm=true)
  (sf:∀ (A:Around) (i:Nat) (s:Shared) (Q:qc) (E:qc),Stn i s.heap->Q (.ref it) s->wpAny (model P w) A (pyIter (.ref it)) Q E s):Turn P w K tg (Itv val n) [it] it Stn where
 mem:=by simp
 obj:=fun i h st b hb=>by
  grind
 keep:=fun i h h' st k=>(W { handled:=none,frames:=some [] } rfl).frame i h h' st k
 item:=by
  intro X hP hw hK hc i U s Z H E I hf st hg;refine (W X.A (I.ok.hd hc)).item i s _ _ hg st fun v h' tk hv st' kk=>⟨v,rfl,?_⟩
  obtain⟨o,nm,vs,q1,q2,q3,q4⟩:=ob _ _ st';exact jIl q1 q2 q3 (by grind [jqa]) ⟨_,H,(I.spun0 hf kk),hv,⟨rfl,rfl⟩,st',fun b hb=>(hf b hb).1⟩
 done:=by
  intro X hP hw hK hc i U s Z H E I hf st hg;subst hg;exact (W X.A (I.ok.hd hc)).done s _ _ st fun h' tk kk=>⟨rfl,I.spun0 hf kk⟩
 self:=fun A i s Q E st h=>sf A i s Q E st h
section
variable {X:Cx}
def jK5(lo hi st:Int)(h:0<st):0<=Builtin.Range.rangeSize lo hi st:=by
 unfold Builtin.Range.rangeSize;rw[if_pos h]
 split
 .have:=Int.ediv_nonneg (a:=hi-lo-1) (b:=st) (by lia) (by lia)
  lia
 .lia
def jod{U:qb}{Z:St}{H:Hp}{s:Shared}{R:It->Hp->Prop}{E:qc}{lo hi st:Int}{t u v:Tok}{tk:Nat}(I:Inv X U Z H s)(hst:0<st)
  (q:R (Itv (fun i=>.int (lo+(i:Nat)*st)) (Builtin.Range.rangeSize lo hi st).toNat) H):wpAny (model X.prog X.w) X.A (pyIter (.ref s.heap.objs.size)) (PIE X U Z tg R) E { s with heap:=s.heap.push { cls:=.type "range",data:=.fields #[.int lo t,.int hi u,.int st v] },toks:=tk }:=by
 have I1:Inv X _ Z H { s with heap:=s.heap.push { cls:=.type "range",data:=.fields #[.int lo t,.int hi u,.int st v] },toks:=tk }:=I.kept fun b o e=>zaz _ e
 have hn:=jK5 lo hi st hst;generalize hN:(Builtin.Range.rangeSize lo hi st).toNat=N at q;have hN':Builtin.Range.rangeSize lo hi st=(N):=by lia
 have fpk:∀ b∈[(s.heap.push { cls:=.type "range",data:=.fields #[.int lo t,.int hi u,.int st v] }).objs.size],FpOk X _ H b:=fun b hb=>by
  have e:b=(s.heap.push { cls:=.type "range",data:=.fields #[.int lo t,.int hi u,.int st v] }).objs.size:=by simpa using hb
  subst e;exact I1.fpOk (zac _) (I1.hok.fresh (zac _))
 have e1:lo+((0:Nat))*st=lo:=by simp
 have e2:Builtin.Range.rangeSize lo hi st-((0:Nat))=Builtin.Range.rangeSize lo hi st:=by simp
 by_cases hsm:Builtin.Range.small lo hi st=true
 .refine wpAny_pyIter_range (IsRange.new ..) hsm ?_;refine⟨_,[_],_,_,H,rfl,I1.kept fun b o e=>zaz _ e,ji3 _ _ N _ (fun A hA=>Walks.range hA _ lo st N) (fun i h e=>⟨_,_,_,e,rfl,rfl,rfl⟩) (fun A i s Q E e h=>wpAny_pyIter_rangeiter e h),?_,fpk,q⟩;rw[<- hN',e1,e2];exact zbz _ rfl
 .refine wpAny_pyIter_longrange (IsRange.new ..) (by grind) ?_;refine⟨_,[_],_,_,H,rfl,I1.kept fun b o e=>zaz _ e,ji3 _ _ N _ (fun A hA=>Walks.longrange hA _ lo st N) (fun i h e=>⟨_,_,_,e,rfl,rfl,rfl⟩) (fun A i s Q E e h=>wpAny_pyIter_longiter e h),?_,fpk,q⟩;rw[<- hN',e1,e2];exact zbz _ rfl
def iRgA(ta:TA):TI:=fun Z H R=>ta Z H fun vs H1=>(∃ j:Int,vs=[.int j]/\R (Itv (fun i=>.int (0+(i:Nat)*1)) (Builtin.Range.rangeSize 0 j 1).toNat) H1) \/
 (∃ i j:Int,vs=[.int i,.int j]/\R (Itv (fun n=>.int (i+(n:Nat)*1)) (Builtin.Range.rangeSize i j 1).toNat) H1)
def jDp(hg:Gl X "range")(hm:X.mg "range"=none)(ha:PA X (a::es) ta)(hs:starEach (a::es) X.env=(false,eval a X.env)::starEach es X.env)(hp:zbT pos es X.env) :
  PI X tg (.Call (.Name "range" p) (a::es) [] pos) (iRgA ta):=by
 intro U s Z H R I h;refine Call_ (jj5 I hg hm boot_range (PyProof.Rows.callWith_type1 (thn (ha pos _ s Z H _ I h) fun us s1 hzz=>?_) hs hp));obtain⟨vs,H1,I1,r1,q1⟩:=hzz;rcases q1 with ⟨j,e,q⟩|⟨i,j,e,q⟩
 .subst e;obtain⟨u,rfl,t,rfl⟩:=r1.one;exact call_range_1 (jod I1 (by decide) q)
 .subst e;obtain⟨u,v,rfl,⟨t,rfl⟩,⟨t',rfl⟩⟩:=r1.two;exact call_range_2 (jod I1 (by decide) q)
def iStr(tl:TE):TI:=fun Z H R=>tl Z H fun x H1=>∃ z,x=.str z/\R (Itv (fun i=>.str ⟨#[z.cps.getD i 0]⟩) z.cps.size) H1
def jOv(hl:PE X l tl):PI X tg l (iStr tl):=by
 intro U s Z H R I h;refine thn (hl _ s Z H _ I h) fun v s1 hzz=>?_
 obtain⟨x,H1,I1,r1,q1⟩:=hzz;obtain⟨z,e,q⟩:=q1;subst e;obtain⟨t,rfl⟩:=r1;have fp1:∀ b∈[s1.heap.objs.size],FpOk X _ H1 b:=fun b hb=>by
  have e:=by simpa using hb
  subst e;exact I1.fpOk (zac _) (I1.hok.fresh (zac _))
 have wk:∀ i v,SignAt z i v->RelV (.str ⟨#[z.cps.getD i 0]⟩) v:=fun i v ⟨c,u,q1,q2⟩=>⟨u,by simp_all⟩
 cases ha:z.cps.all _
 .exact wpAny_pyIter_wide ha ⟨_,[_],_,_,H1,rfl,I1.kept fun b o e=>zaz _ e,ji3 _ _ _ _ (fun A hA=>(Walks.strWide hA _ z t).weaken wk) (fun i h ⟨o,q1,q2,q3⟩=>⟨o,_,_,q1,q2,q3,rfl⟩) (fun A i s Q E e h=>wpAny_pyIter_striter_wide e h),⟨_,zbz _ rfl,rfl,rfl⟩,fp1,q⟩
 .exact wpAny_pyIter_ascii ha ⟨_,[_],_,_,H1,rfl,I1.kept fun b o e=>zaz _ e,ji3 _ _ _ _ (fun A hA=>(Walks.strAscii hA _ z t).weaken wk) (fun i h ⟨o,q1,q2,q3⟩=>⟨o,_,_,q1,q2,q3,rfl⟩) (fun A i s Q E e h=>wpAny_pyIter_striter_ascii e h),⟨_,zbz _ rfl,rfl,rfl⟩,fp1,q⟩
end
end L2
namespace DL
open L2
def seqD:D->Option (List D)
 | .lst ds=>some ds
 | .tup ds=>some ds
 | _=>none
def jbs(f:DSt->M D):DSt->M (List D):=fun Y=>(f Y).b fun d=>M.o (seqD d)
def jbu(lo:Int)(n:Nat):List D:=(List.range n).map fun i=>.int (lo+(i:Nat))
def jbt:List D->Option (List D)
 | [.int j]=>some (jbu 0 j.toNat)
 | [.int i,.int j]=>some (jbu i (j-i).toNat)
 | _=>none
def zipD:List D->List D->List D
 | x::xs,y::ys=>.tup [x,y]::zipD xs ys
 | _,_=>[]
def jbl:List D->Option (List D)
 | [x,y]=>match seqD x,seqD y with
  | some xs,some ys=>some (zipD xs ys)
  | _,_=>none
 | _=>none
def jgn:Int->List D->List D
 | _,[]=>[]
 | k,d::ds=>.tup [.int k,d]::jgn (k+1) ds
def jcw:List D->Option (List D)
 | [.lst xs]=>some (jgn 0 xs)
 | _=>none
def jby(k:List D->Option (List D))(f:DSt->M (List D)):DSt->M (List D):=fun Y=>(f Y).b fun ds=>M.o (k ds)
theorem jus:∀ {xs ys:List D} {i:Nat} {d:D},(zipD xs ys)[i]? = some d->∃ x y,xs[i]? = some x/\ys[i]? = some y/\d=.tup [x,y]
 | [],_,_,_,h=>by simp[zipD] at h
 | _::_,[],_,_,h=>by simp[zipD] at h
 | x::xs,y::ys,0,d,h=>by simp[zipD] at h;grind
 | x::xs,y::ys,i+1,d,h=>by
  obtain⟨a,b,q1,q2,q3⟩:=jus (xs:=xs) (ys:=ys) (i:=i) (d:=d) (by grind [zipD])
  grind
theorem jut:∀ (xs ys:List D),(zipD xs ys).length=min xs.length ys.length
 | [],_=>by simp[zipD]
 | _::_,[]=>by simp[zipD]
 | x::xs,y::ys=>by simp[zipD,jut xs ys]
theorem jpc:∀ {xs:List D} {k:Int} {i:Nat} {d:D},(jgn k xs)[i]? = some d->∃ x,xs[i]? = some x/\d=.tup [.int (k+i),x]
 | [],_,_,_,h=>by simp[jgn] at h
 | x::xs,k,0,d,h=>by simp[jgn] at h;grind
 | x::xs,k,i+1,d,h=>by
  obtain⟨a,q1,q2⟩:=jpc (xs:=xs) (k:=k+1) (i:=i) (d:=d) (by grind [jgn])
  grind
theorem jpd:∀ (xs:List D) (k:Int),(jgn k xs).length=xs.length
 | [],_=>rfl
 | _::xs,k=>by simp[jgn,jpd xs]
section
variable {X:Cx}
def sqv_t:SqV true K H l xs↔SqT K H l xs:=Iff.rfl
def sqv_l:SqV false K H l xs↔SqL K H l xs:=Iff.rfl
def jqg(e:Same H H')(h:SqV k K H l xs):SqV k K H' l xs:=by
 cases k with
 | true=>exact jcb e h
 | false=>exact jcj e h
def jFn(h:SqL K Hv l xs)(hr:Reps J K Hv ds xs):ItD J K (Itl K l) ds Hv:=by
 intro H' G' i f hG;have h':=jcj (f.trans jaf) h;refine⟨fun hi=>?_,fun hi=>⟨xs,h',by rw[hr.length,hi];lia⟩⟩;obtain⟨v,hv,rv⟩:=hr.get (zax hi);refine⟨⟨xs,v,h',hv⟩,fun x H2 y=>?_⟩;obtain⟨rfl,y⟩:=y;refine⟨Same.refl _,_,zax hi,?_⟩;have:=y xs h';rw[hv] at this;cases this
 exact rv.mono f
def jNb(h:SqT K Hv l xs)(hr:Reps J K Hv ds xs):ItD J K (Itt K l) ds Hv:=by
 intro H' G' i f hG;have h':=jcb (f.trans jaf) h;refine⟨fun hi=>?_,fun hi=>⟨xs,h',by rw[hr.length,hi];lia⟩⟩;obtain⟨v,hv,rv⟩:=hr.get (zax hi);refine⟨⟨xs,v,h',hv⟩,fun x H2 y=>?_⟩;obtain⟨rfl,y⟩:=y;refine⟨Same.refl _,_,zax hi,?_⟩;have:=y xs h';rw[hv] at this;cases this
 exact rv.mono f
def jto(hl:ds.length=n)(hv:∀ i d,ds[i]? = some d->∀ H,Rep J K H d (val i)):ItD J K (Itv val n) ds Hv:=by
 intro H' G' i f hG;subst hl;refine⟨fun hi=>⟨hi,fun x H2 y=>?_⟩,fun hi=>hi⟩;obtain⟨rfl,rfl⟩:=y;exact⟨Same.refl _,_,zax hi,hv i _ (zax hi) _⟩
def jNc{ds es:List D}(h1:SqV k1 K Hv l1 xs)(r1:Reps J K Hv ds xs)(h2:SqV k2 K Hv l2 ys)(r2:Reps J K Hv es ys):ItD J K (Itz k1 k2 K l1 l2) (zipD ds es) Hv:=by
 intro H' G' i f hG;have h1':=jqg (f.trans jaf) h1;have h2':=jqg (f.trans jaf) h2;refine⟨fun hi=>?_,fun hi=>⟨xs,ys,h1',h2',?_⟩⟩
 .obtain⟨d1,d2,q1,q2,q3⟩:=jus (zax hi);obtain⟨v,hv,rv⟩:=r1.get q1;obtain⟨u,hu,ru⟩:=r2.get q2;refine⟨⟨xs,ys,v,u,h1',h2',hv,hu⟩,fun x H2 y=>?_⟩;obtain⟨T,x1,x2,hT,rfl,rfl,y1,y2⟩:=y;have e1:=y1 xs h1';have e2:=y2 ys h2';rw[hv] at e1;cases e1
  rw[hu] at e2;cases e2
  refine⟨jal hT,_,zax hi,?_⟩;rw[q3];exact jbc hT (hG T hT) (Reps.cons (rv.mono f) (Reps.cons (ru.mono f) Reps.nil))
 .rw[jut] at hi;rw[r1.length,r2.length]
  lia
def jM9(h:SqL K Hv l xs)(hr:Reps J K Hv ds xs):ItD J K (Ite K l) (jgn 0 ds) Hv:=by
 intro H' G' i f hG;have h':=jcj (f.trans jaf) h;refine⟨fun hi=>?_,fun hi=>⟨xs,h',by rw[hr.length,hi,jpd];lia⟩⟩;obtain⟨d,q1,q2⟩:=jpc (zax hi);obtain⟨v,hv,rv⟩:=hr.get q1;refine⟨⟨xs,v,h',hv⟩,fun x H2 y=>?_⟩;obtain⟨T,x1,hT,rfl,rfl,y1⟩:=y;have e1:=y1 xs h';rw[hv] at e1;cases e1
 refine⟨jal hT,_,zax hi,?_⟩;rw[q2,Int.zero_add];exact jbc hT (hG T hT) (Reps.cons (rep_int.mpr rfl) (Reps.cons (rv.mono f) Reps.nil))
def jMf(h:DE X O E iter fa):DI X O E tg iter (jbs fa):=by
 rintro U s Z H R I ⟨J,Hz,F,Y,r,RS0,hf,k⟩;refine jOu h _ s Z H R I ?_;refine bD RS0 hf k fun d hf v H1 s1 r1=>?_
 obtain⟨ds,hd,rfl⟩:=M.o_inv hf
 cases d with
 | lst es =>
  cases hd;obtain⟨q,xs,rfl,q2,q3⟩:=rep_lst.mp r1;exact .inl ⟨q,rfl,⟨xs,jcj jaf q2⟩,k _ H1 s1 (jFn q2 q3)⟩
 | tup es =>
  cases hd;obtain⟨q,xs,rfl,q2,q3⟩:=rep_tup.mp r1;exact .inr ⟨q,rfl,⟨xs,jcb jaf q2⟩,k _ H1 s1 (jNb q2 q3)⟩
 | _=>cases hd
theorem range_len(lo hi:Int):(Builtin.Range.rangeSize lo hi 1).toNat=(hi-lo).toNat:=by
 grind [rangeSize_one]
def jB0(hg:Gl X "range")(hm:X.mg "range"=none)(ha:DA X O E (a::es) fl)(hs:starEach (a::es) X.env=(false,eval a X.env)::starEach es X.env)(hp:zbT pos es X.env) :
  DI X O E tg (.Call (.Name "range" p) (a::es) [] pos) (jby jbt fl):=by
 rintro U s Z H R I ⟨J,Hz,F,Y,r,RS0,hf,k⟩;refine jDp hg hm ha hs hp _ s Z H R I ?_;refine bD RS0 hf k fun d hf vs H1 s1 r1=>?_
 obtain⟨ds,hd,rfl⟩:=M.o_inv hf;unfold jbt at hd
 split at hd
 .rename_i j;cases hd;obtain⟨v,r',rfl,q1,q2⟩:=reps_cons.mp r1;cases reps_nil.mp q2;cases rep_int.mp q1;refine .inl ⟨j,rfl,k _ H1 s1 ?_⟩;refine jto (by grind [jbu,range_len]) fun i d hd H=>?_
  unfold jbu at hd;rw[zba] at hd
  cases q:(List.range j.toNat)[i]? with
  | none=>grind
  | some m =>
   rw[q] at hd;cases hd;exact rep_int.mpr (by grind)
 .rename_i i0 j;cases hd;obtain⟨v,r',rfl,q1,q2⟩:=reps_cons.mp r1;obtain⟨v2,r2,rfl,q3,q4⟩:=reps_cons.mp q2;cases reps_nil.mp q4;cases rep_int.mp q1;cases rep_int.mp q3;refine .inr ⟨i0,j,rfl,k _ H1 s1 ?_⟩;refine jto (by grind [jbu,range_len]) fun i d hd H=>?_
  unfold jbu at hd;rw[zba] at hd
  cases q:(List.range (j-i0).toNat)[i]? with
  | none=>grind
  | some m =>
   rw[q] at hd;cases hd;exact rep_int.mpr (by grind)
 .cases hd
def jqi(hd:seqD d=some ds)(h:Rep J K H d v):∃ k l xs,v=.ref l/\SqV k K H l xs/\Reps J K H ds xs:=by
 cases d with
 | lst es=>cases hd;obtain⟨q,xs,rfl,q2,q3⟩:=rep_lst.mp h;exact⟨false,q,xs,rfl,q2,q3⟩
 | tup es=>cases hd;obtain⟨q,xs,rfl,q2,q3⟩:=rep_tup.mp h;exact⟨true,q,xs,rfl,q2,q3⟩
 | _=>cases hd
def jMh(hg:Gl X "zip")(hm:X.mg "zip"=none)(ha:DA X O E [a,b] fl)(hs:starEach [a,b] X.env=[(false,eval a X.env),(false,eval b X.env)])(hs2:starEach [b] X.env=[(false,eval b X.env)]) :
  DI X O E (.Tuple ts kk tp) (.Call (.Name "zip" p) [a,b] [] pos) (jby jbl fl):=by
 rintro U s Z H R I ⟨J,Hz,F,Y,r,RS0,hf,k⟩;refine jOw hg hm ha hs hs2 _ s Z H R I ?_;refine bD RS0 hf k fun d hf vs H1 s1 r1=>?_
 obtain⟨ds,hd,rfl⟩:=M.o_inv hf;unfold jbl at hd
 split at hd
 .split at hd
  .rename_i xs ys ex ey;cases hd;obtain⟨v,r',rfl,q1,q2⟩:=reps_cons.mp r1;obtain⟨v2,r2,rfl,q3,q4⟩:=reps_cons.mp q2;cases reps_nil.mp q4;obtain⟨k1,l1,us,rfl,z1,z2⟩:=jqi ex q1;obtain⟨k2,l2,ws,rfl,z3,z4⟩:=jqi ey q3;exact⟨k1,k2,l1,l2,us,ws,rfl,jqg jaf z1,jqg jaf z3,k _ H1 s1 (jNc z1 z2 z3 z4)⟩
  .cases hd
 .cases hd
def jHz(hg:Gl X "enumerate")(hm:X.mg "enumerate"=none)(ha:DA X O E [a] fl)(hs:starEach [a] X.env=[(false,eval a X.env)]) :
  DI X O E (.Tuple ts kk tp) (.Call (.Name "enumerate" p) [a] [] pos) (jby jcw fl):=by
 rintro U s Z H R I ⟨J,Hz,F,Y,r,RS0,hf,k⟩;refine jzk hg hm ha hs _ s Z H R I ?_;refine bD RS0 hf k fun d hf vs H1 s1 r1=>?_
 obtain⟨ds,hd,rfl⟩:=M.o_inv hf;unfold jcw at hd
 split at hd
 .cases hd;obtain⟨v,r',rfl,q1,q2⟩:=reps_cons.mp r1;cases reps_nil.mp q2;obtain⟨l,us,rfl,z1,z2⟩:=rep_lst.mp q1;exact⟨l,us,rfl,jcj jaf z1,k _ H1 s1 (jM9 z1 z2)⟩
 .cases hd
noncomputable def jcn(h:D->DSt->Option DSt)(tc:DSt->M Bool)(fe:DSt->M D):List D->DSt->Option (List D)
 | [],_=>some []
 | d::ds,Y=>match h d Y with
  | none=>none
  | some Y1=>match tc Y1 with
   | some (.ok true)=>(match fe Y1 with
    | some (.ok y)=>(jcn h tc fe ds Y1).map (y::·)
    | _=>none)
   | some (.ok false)=>jcn h tc fe ds Y1
   | _=>none
def jef(own:Nat)(caps:qf)(Y:DSt):DSt:=List.replicate own none++caps.map fun p=>(Y[p.2]?).join
def ja8(own:Nat)(caps:qf)(fi:DSt->M (List D))(h:D->DSt->Option DSt)(tc:DSt->M Bool)(fe:DSt->M D):DSt->M D:=fun Y=>(fi Y).b fun ds=>M.o ((jcn h tc fe ds (jef own caps Y)).bind jar)
def tYes:DSt->M Bool:=fun _=>M.p true
def DC(X:Cx)(O:List Nat)(E:XK)(ifs:List Expr)(f:DSt->M Bool):Prop:=PC0 X ifs (tB X.K O E f)
def jw4:DC X O E [] tYes:=by
 rintro U s Z H Q I ⟨J,Hz,F,Y,r,R,hf,h⟩;cases hf;exact jzg _ s Z H Q I (h H (Same.refl H))
def jL3(h:DT X O E a f):DC X O E [a] f:=jOk h
def jmx(h:(jef own caps Y)[i]? = some (some d)):∃ p,caps[i-own]? = some p/\own<=i/\Y[p.2]? = some (some d):=by
 unfold jef at h
 grind
def jpk{p:Str×Nat}(h:caps[i-own]? = some p)(hi:own<=i)(hv:Z[p.2]? = some (some v)):(jdc own caps Z)[i]? = some (some v):=by
 unfold jdc
 grind
def jew(O:List Nat)(caps:qf):Bool:=caps.all fun p=>!O.contains p.2
inductive CInv(J:Rho)(K:W.Frag)(H1:Hp)(F:qd)(Dd:Addr)(tot:List D)(cd:DSt->Option (List D))(Z:St)(H:Hp):Prop
 | mk (Y:DSt) (done:List D) (zs:List V) (rest:List D) (hR:RS J K H1 H F [] Z Y) (hD:H Dd=some (.lst zs)) (hz:Reps J K (hid H F) done zs) (hr:cd Y=some rest) (ht:done++rest=tot)
def jms{J:Rho}{K:W.Frag}{O:List Nat}{own:Nat}{caps:qf}{h:D->DSt->Option DSt}{tc:DSt->M Bool}{fe:DSt->M D}{Z:St}{Hz H1:Hp}{F:qd}{Y:DSt}{Q:VK}{ds tot:List D}{Jq:It}{Dd:Addr}(hcf:jew O caps=true)
  (R1:RS J K Hz H1 F O Z Y) (it:ItD J K Jq ds (hid H1 (fob F Z O))) (hD:H1 Dd=none) (hcd:jcn h tc fe ds (jef own caps Y)=some tot) (hz:tot.length<=sizeLine)
  (k:∀ zs H',Same H1 H'->H' Dd=some (.lst zs)->Reps J K (hid H' fun b=>fob F Z O b || b == Dd) tot zs->Q (.ref Dd) H') :
  ∃ W:Nat->Nat->St->Hp->Prop,(∃ m,W 0 m (jdc own caps Z) (upd H1 Dd (.lst [])))/\∀ i m Z' H',W i m Z' H' ->
  (Jq.stop i H'/\Q (.ref Dd) H')\/(Jq.go i H'/\∃ N:St->Hp->Prop,(∀ Z2 H2,N Z2 H2->∃ m',m'<m/\W (i+1) m' Z2 H2) /\
   ∀ x H2,Jq.yld i H' x H2->tG K [] h x Z' H2 fun Z3 H3=>tB K [] E0 tc Z3 H3 fun b H4=>if b=true then tD K [] E0 fe Z3 H4 fun v H5=>∃ ys,H5 Dd=some (.lst ys)/\ys.length<sizeLine/\N Z3 (upd H5 Dd (.lst (ys++[v]))) else N Z3 H4):=by
 let F':=fun b=>fob F Z O b || b == Dd
 have F't:∀ b,F' b=true↔fob F Z O b=true\/b=Dd:=fun b=>by grind
 have vis:∀ {H2:Hp},Same H1 H2->Same (hid H1 (fob F Z O)) (hid H2 F'):=fun {H2} e b o q=>by
  obtain⟨q1,q2⟩:=hid_some.mp q;refine hid_some.mpr ⟨?_,e b o q2⟩
  grind
 have R0:RS J K H1 (upd H1 Dd (.lst [])) F' [] (jdc own caps Z) (jef own caps Y):=by
  refine⟨by simp[jdc,jef],jal hD,fun b hb=>?_,fun i d hd _=>?_,fun i hi=>absurd hi (by simp),fun i hi=>absurd hi (by simp)⟩
  .rcases (F't b).mp hb with z|z
   .refine jkf fun q=>?_
    rw[R1.fresh q] at z;cases z
   grind [jaj]
  .obtain⟨p,p1,p2,p3⟩:=jmx hd;have hO:p.2∉O:=fun z=>by
    have:=List.all_eq_true.mp hcf p (List.mem_of_getElem? p1)
    grind
   obtain⟨v,q1,q2⟩:=R1.val p.2 d p3 hO;exact⟨v,jpk p1 p2 q1,by rw[jcg];exact q2.mono (vis (jal hD))⟩
 refine⟨fun i m Z' H'=>m=ds.length-i/\i<=ds.length/\CInv J K H1 F' Dd tot (jcn h tc fe (ds.drop i)) Z' H',
  ⟨ds.length,by simp,Nat.zero_le _,_,[],[],tot,R0,jaj,Reps.nil,hcd,rfl⟩,?_⟩
 rintro i m Z' H' ⟨rfl,hil,Y',done,zs,rest,R',hDd,rz,hr,htot⟩;obtain⟨j1,j2⟩:=it H' _ i (by rw[jcg];exact vis R'.same) fun p hp=>R'.fresh hp
 by_cases hlt:i<ds.length
 .obtain⟨go,yld⟩:=j1 hlt;refine .inr ⟨go,_,
   fun Z2 H2 q=>⟨_,by lia,rfl,hlt,q⟩,fun x H2 y=>?_⟩
  obtain⟨s2,d,hd,rd⟩:=yld x H2 y;have hdr:ds.drop i=d::ds.drop (i+1):=by
   rw[List.drop_eq_getElem_cons hlt];have:=by rw[zax hlt] at hd;exact zby hd
   rw[this]
  rw[hdr] at hr;unfold jcn at hr
  cases e2:h d Y' with
  | none=>grind
  | some Y1 =>
   rw[e2] at hr;dsimp only at hr;refine⟨J,H1,F',Y',d,Y1,R'.mono s2,rd,e2,fun Z3 ef R3=>?_⟩;have keepD:∀ {H5:Hp},Same H2 H5->H5 Dd=some _/\Reps J K _ _ zs:=fun {H5} e=>⟨e _ _ (s2 _ _ hDd),rz.mono (jad (s2.trans e))⟩
   split at hr
   .rename_i e3;refine⟨J,H1,F',Y1,_,R3,e3,fun H4 s4=>iteT ?_⟩
    split at hr
    .rename_i yv e4;refine⟨J,H1,F',Y1,_,R3.mono s4,e4,fun v H5 s5 r5=>?_⟩;rw[jcg] at r5;obtain⟨k1,k2⟩:=keepD (s4.trans s5)
     cases e5:jcn h tc fe (ds.drop (i+1)) Y1 with
     | none=>grind
     | some rest' =>
      have hh:hid (upd H5 Dd (.lst (zs++[v]))) F'=hid H5 F':=jdr ((F't Dd).mpr (.inr rfl));refine⟨zs,k1,?_,Y1,done++[yv],_,_,?_,jaj,?_,e5,by grind⟩
      .have l1:=k2.length
       grind
      .have R5:=R3.mono (s4.trans s5);refine⟨R5.len,jl7 R5.same hD,fun b hb=>jkf (R5.fin b hb),fun j d' hj hO=>?_,fun j hj=>absurd hj (by simp),fun j hj=>absurd hj (by simp)⟩;obtain⟨v',w1,w2⟩:=R5.val j d' hj hO
       grind [jcg]
      .rw[hh];exact k2.append (Reps.cons r5 Reps.nil)
    .cases hr
   .rename_i e3;refine⟨J,H1,F',Y1,_,R3,e3,fun H4 s4=>iteF ?_⟩;obtain⟨k1,k2⟩:=keepD s4;exact⟨Y1,_,zs,_,R3.mono s4,k1,k2,hr,htot⟩
   .cases hr
 .have ei:i=ds.length:=by lia
  subst ei;rw[List.drop_length] at hr;cases hr;rw[List.append_nil] at htot;subst htot;exact .inl ⟨j2 rfl,k zs H' R'.same hDd rz⟩
def js5{J:Rho}{K:W.Frag}{O:List Nat}{E:XK}{own:Nat}{caps:qf}{fi:DSt->M (List D)}{h:D->DSt->Option DSt}{tc:DSt->M Bool}{fe:DSt->M D}{Z:St}{Hz H:Hp}{F:qd}{Y:DSt}{Q:VK}{d:D}(hcf:jew O caps=true)
  (R:RS J K Hz H F O Z Y) (hf:ja8 own caps fi h tc fe Y=some (.ok d))
  (k:∀ tot,d=.lst tot->∀ (Dd:Addr) zs H1 H',Same H H1->H1 Dd=none->Same H1 H'->H' Dd=some (.lst zs)->Reps J K (hid H' fun b=>fob F Z O b || b == Dd) tot zs->Q (.ref Dd) H'):jAw own caps (tI K O E fi) (tG K [] h) (tB K [] E0 tc) (tD K [] E0 fe) Z H Q:=by
 rcases M.b_inv hf with ⟨ds,e1,hf⟩|⟨y,e1,z⟩
 .refine⟨J,_,F,Y,_,R,e1,fun Jq H1 s1 it Dd hD=>?_⟩;obtain⟨dd,hd,ee⟩:=M.o_inv hf;cases ee;obtain⟨tot,hcd,hd⟩:=Option.bind_eq_some_iff.mp hd;unfold jar at hd
  split at hd
  .rename_i hz;cases hd;exact jms hcf (R.mono s1) it hD hcd hz fun zs H' s2 hDd rz=>k _ rfl Dd zs H1 H' s1 hD s2 hDd rz
  .cases hd
 .cases z
def jq6(hcf:jew O caps=true)
  (hh:tD K O E (ja8 own caps fi h tc fe) Z H Q):jAw own caps (tI K O E fi) (tG K [] h) (tB K [] E0 tc) (tD K [] E0 fe) Z H Q:=by
 obtain⟨J,Hz,F,Y,r,R,hf,k⟩:=hh
 cases r with
 | ok d =>
  refine js5 hcf R hf fun tot e Dd zs H1 H' s1 hD s2 hDd rz=>?_
  subst e;exact k _ H' (s1.trans s2) (rep_lst.mpr ⟨Dd,zs,rfl,SqL.of (hid_some.mpr ⟨(R.mono s1).fresh hD,hDd⟩),rz.mono (jc4 fun b q=>by simp[q])⟩)
 | error y =>
  rcases M.b_inv hf with ⟨ds,e1,hf⟩|⟨y',e1,h⟩
  .obtain⟨_,_,z⟩:=M.o_inv hf;cases z
  .cases h;exact⟨J,_,F,Y,_,R,e1,k⟩
structure Cp(X:Cx)(O:List Nat)(E:XK)(elt tg iter:Expr)(ifs:List Expr)(scope:Scope)(own:List Str)(caps:qf)(fi:DSt->M (List D))(h:D->DSt->Option DSt)(tc:DSt->M Bool)(fe:DSt->M D):Prop where
 hc:X.calm=true
 ck:CapsOk X scope caps
 hi:DI X O E tg iter fi
 hg:∀ C s0 H0 ex,DG (jch X scope (own++caps.map (·.1)) C s0 H0 ex) [] tg h
 ht:∀ C s0 H0 ex,DC (jch X scope (own++caps.map (·.1)) C s0 H0 ex) [] E0 ifs tc
 he:∀ C s0 H0 ex,DE (jch X scope (own++caps.map (·.1)) C s0 H0 ex) [] E0 elt fe
 hcf:jew O caps=true
 hs:∀ x,foldedSetIterable iter X.env x=pure x
def jHq(c:Cp X O E elt tg iter ifs scope own caps fi h tc fe):DE X O E (.ListComp elt [⟨tg,iter,ifs,0⟩] scope pos) (ja8 own.length caps fi h tc fe) :=
 fun U s Z H Q I hh=>jsb (g:=tG X.K [] h) (tc:=tB X.K [] E0 tc) (te:=tD X.K [] E0 fe) c.hc c.ck c.hi c.hg c.ht c.he c.hs _ s Z H Q I (jq6 c.hcf hh)
end
mutual
def okD:D->Bool
 | .ty _=>false
 | .obj _=>false
 | .tup ds=>okDs ds
 | .lst ds=>okDs ds
 | _=>true
def okDs:List D->Bool
 | []=>true
 | d::ds=>okD d&&okDs ds
end
mutual
def depD:D->Nat
 | .tup ds=>depDs ds+1
 | .lst ds=>depDs ds+1
 | _=>0
def depDs:List D->Nat
 | []=>0
 | d::ds=>max (depD d) (depDs ds)
end
mutual
def eqB:D->D->Bool
 | .non,.non=>true
 | .bl a,.bl b=>a == b
 | .bl a,.int b=>(if a then 1 else 0) == b
 | .int a,.bl b=>a == (if b then 1 else 0)
 | .int a,.int b=>a == b
 | .str a,.str b=>a == b
 | .tup a,.tup b=>eqBs a b
 | .lst a,.lst b=>eqBs a b
 | _,_=>false
def eqBs:List D->List D->Bool
 | [],[]=>true
 | a::as,b::bs=>eqB a b&&eqBs as bs
 | _,_=>false
end
mutual
def jkn:∀ d:D,okD d=true->eqB d d=true
 | .non,_=>by unfold eqB;rfl
 | .bl _,_=>by unfold eqB;simp
 | .int _,_=>by unfold eqB;simp
 | .str _,_=>by unfold eqB;simp
 | .ty _,h=>by unfold okD at h;cases h
 | .obj _,h=>by unfold okD at h;cases h
 | .tup ds,h=>by unfold okD at h;unfold eqB;exact eqBs_refl ds h
 | .lst ds,h=>by unfold okD at h;unfold eqB;exact eqBs_refl ds h
def eqBs_refl:∀ ds:List D,okDs ds=true->eqBs ds ds=true
 | [],_=>by unfold eqBs;rfl
 | d::ds,h=>by
  simp_all [okDs,Bool.and_eq_true,eqBs,jkn,eqBs_refl]
end
theorem jtc:∀ {as bs:List D},eqBs as bs=true->as.length=bs.length
 | [],[],_=>rfl
 | [],_::_,h=>by grind [eqBs]
 | _::_,[],h=>by grind [eqBs]
 | a::as,b::bs,h=>by
  unfold eqBs at h;rw[Bool.and_eq_true] at h;simp[jtc h.2]
theorem jtb:∀ {as bs:List D},as.length=bs.length->∀ (k:Nat->Bool),(∀ j a b,as[j]? = some a->bs[j]? = some b->k j=eqB a b)->(List.range as.length).all k=eqBs as bs
 | [],[],_,k,_=>by rfl
 | [],_::_,h,_,_=>by simp at h
 | _::_,[],h,_,_=>by simp at h
 | a::as,b::bs,h,k,hk=>by
  rw[List.length_cons,List.range_succ_eq_map,List.all_cons,List.all_map,hk 0 a b rfl rfl];congr 1;exact jtb (by simpa using h) _ fun j x y e1 e2=>hk _ x y (by grind) (by grind)
theorem jn5:∀ {ds:List D} {i:Nat} {d:D},okDs ds=true->ds[i]? = some d->okD d=true
 | [],_,_,_,e=>by simp at e
 | d::ds,0,x,h,e=>by simp_all [okDs]
 | d::ds,i+1,x,h,e=>by unfold okDs at h;rw[Bool.and_eq_true] at h;exact jn5 h.2 (by simpa using e)
theorem jpb:∀ {ds:List D} {i:Nat} {d:D},ds[i]? = some d->depD d<=depDs ds
 | [],_,_,e=>by simp at e
 | d::ds,0,x,e=>by grind [depDs]
 | d::ds,i+1,x,e=>by have:=jpb (by simpa using e);unfold depDs;lia
section
variable {X:Cx}
def jNr(I:Inv X U Z H s)(h1:SqT X.K H l xs)(h2:SqL X.K H l ys):False:=by
 obtain⟨i1,_,p1,_⟩:=I.tuple h1;obtain⟨i2,_,p2,_⟩:=I.list h2;exact SeqAt.ne_of_list_tuple p2.isList p1 rfl
mutual
def jz3(I:Inv X U Z H s):∀ {d e:D} {v:V},okD d=true->okD e=true->Rep J X.K H d v->Rep J X.K H e v->d=e:=by
  intro d e v od oe h k;cases d<;>cases e<;>unfold okD at od oe<;>unfold Rep at h k<;>first
    | (cases od;done)
    | (cases oe;done)
    | (subst h;first|(cases k<;>rfl)|(obtain⟨_,_,z,_⟩:=k;cases z))
    | (subst k;obtain⟨_,_,z,_⟩:=h;cases z)
    | (obtain⟨a,xs,rfl,q1,q2⟩:=h
       obtain⟨b,ys,z,p1,p2⟩:=k;cases z
       first|exact (jNr I q1 p1).elim|exact (jNr I p1 q1).elim|(first|rw[I.tuple_inj q1 p1] at q2|rw[I.list_inj q1 p1] at q2);rw[reps_inj I od oe q2 p2])
def reps_inj(I:Inv X U Z H s):∀ {ds es:List D} {vs:List V},okDs ds=true->okDs es=true->Reps J X.K H ds vs->Reps J X.K H es vs->ds=es
 | [],[],_,_,_,_,_=>rfl
 | [],_::_,_,_,_,h,k=>by cases reps_nil.mp h;obtain⟨_,_,z,_⟩:=reps_cons.mp k;cases z
 | _::_,[],_,_,_,h,k=>by cases reps_nil.mp k;obtain⟨_,_,z,_⟩:=reps_cons.mp h;cases z
 | d::ds,e::es,vs,od,oe,h,k=>by
  obtain⟨v,r,rfl,h1,h2⟩:=reps_cons.mp h;obtain⟨v',r',z,k1,k2⟩:=reps_cons.mp k;cases z;unfold okDs at od oe;rw[Bool.and_eq_true] at od oe;rw[jz3 I od.1 oe.1 h1 k1,reps_inj I od.2 oe.2 h2 k2]
end
def Itm(J:Rho)(K:W.Frag)(H:Hp)(ds:List D)(ix:List Value):Prop:=ix.length=ds.length/\∀ (j:Nat) d,ds[j]? = some d->∃ v u,ix[j]? = some u/\Rep J K H d v/\RelV v u
def Itm.mk(q:Reps J X.K H ds xs)(r:Vals xs ix):Itm J X.K H ds ix:=⟨r.length.symm.trans q.length,fun j d h=>by
 obtain⟨v,e,w⟩:=q.get h;obtain⟨u,f,z⟩:=r.get e;exact⟨v,u,f,w,z⟩⟩
inductive VW(J:Rho)(K:W.Frag)(H:Hp)(s:Shared):D->Value->Prop
 | n:VW J K H s .non .none
 | b k:VW J K H s (.bl k) (.bool k)
 | i x t:VW J K H s (.int x) (.int x t)
 | s x t:VW J K H s (.str x) (.str x t)
 | t ds l ix (p:s.heap.IsTuple l (List.toArray ix)) (q:Itm J K H ds ix):VW J K H s (.tup ds) (.ref l)
 | l ds l ix (p:s.heap.IsList l (List.toArray ix)) (q:Itm J K H ds ix):VW J K H s (.lst ds) (.ref l)
def vw(I:Inv X U Z H s)(o:okD d=true)(h:Rep J X.K H d v)(r:RelV v a):VW J X.K H s d a:=by
  cases d<;>unfold Rep at h<;>first
    | (cases o;done)
    | (subst h;first|(constructor)|(obtain⟨t,rfl⟩:=r;constructor))
    | (obtain⟨l,xs,rfl,q1,q2⟩:=h
       cases r
       first
         | (obtain⟨ix,rx,px,_⟩:=I.tuple q1;exact .t _ _ _ px (.mk q2 rx))
         | (obtain⟨ix,rx,px,_⟩:=I.list q1;exact .l _ _ _ px.isList (.mk q2 rx)))
def eqJ(ds es:List D)(j:Nat):Bool:=match ds[j]?,es[j]? with
 | some x,some y=>eqB x y
 | _,_=>false
def jxg(h:ds.length=es.length):(List.range ds.length).all (eqJ ds es)=eqBs ds es:=jtb h _ fun j a b h1 h2=>by unfold eqJ;rw[h1,h2]
def jri(h:ds.length≠es.length):eqBs ds es=false:=by
 cases z:eqBs ds es with
 | false=>rfl
 | true=>exact absurd (jtc z) h
def jz2(h:RelV v (.ref l)):v=.ref l:=by cases v<;>simp_all [RelV]
def jFh(I:Inv X U Z H s):∀ (n:Nat) (A:Around) (d e:D) (v u:V) (a b:Value),depD d<=n->A.units+n+1<cLine->okD d=true->okD e=true->Rep J X.K H d v->Rep J X.K H e u->RelV v a->RelV u b ->
    SeqAt.RcAt A s a b (eqB d e)/\SeqAt.EqAt A s a b (eqB d e)/\SeqAt.RcNeAt A s a b (!eqB d e):=by
  intro n
  induction n using Nat.strongRecOn with
  | _ n ih =>
  intro A d e v u a b hd hu od oe rd re ra rb;have hu':A.units<cLine:=by lia
  have both:∀ {l m:Addr} {r:Bool},a=.ref l->b=.ref m->eqB d e=r->SeqAt.RcAt A s (.ref l) (.ref m) r->SeqAt.EqAt A s (.ref l) (.ref m) r:=by
    rintro l m r rfl rfl rfl R
    by_cases z:l=m
    . subst z;cases jz2 ra;cases jz2 rb;rw[jz3 I od oe rd re,jkn e oe];exact .same _
    . exact .of_refs z R
  have go:∀ {ds es:List D} {ix iy:List _},depDs ds+1<=n->okDs ds=true->okDs es=true->Itm J X.K H ds ix->Itm J X.K H es iy->∀ j (h1:j<ix.toArray.size) (h2:j<iy.toArray.size),SeqAt.EqAt A.in1 s ix.toArray[j] iy.toArray[j] (eqJ ds es j):=by
    rintro ds es ix iy hn o1 o2 ⟨l1,g1⟩ ⟨l2,g2⟩ j h1 h2;have e1:=zax (l:=ds) (i:=j) (l1 ▸ h1);have e2:=zax (l:=es) (i:=j) (l2 ▸ h2);obtain⟨v1,u1,f1,r1,s1⟩:=g1 j _ e1;obtain⟨v2,u2,f2,r2,s2⟩:=g2 j _ e2;have:=jpb e1;have:=(ih (n-1) (by lia) A.in1 _ _ v1 v2 u1 u2 (by lia) (by show A.units+1+(n-1)+1<cLine;lia) (jn5 o1 e1) (jn5 o2 e2) r1 r2 s1 s2).2.1;unfold eqJ
    grind
  cases (vw I od rd ra)<;>cases (vw I oe re rb)<;>simp only[eqB,Bool.not_false,Bool.not_true]<;>first
    | (refine⟨?_,?_,?_⟩<;>first
        | ((with_reducible first|refine' .none_none ..|refine' .same ..|refine' .none_bool ..|refine' .none_int ..|refine' .none_str ..|refine' .none_tuple ..|refine' .bool_none ..|refine' .bool_bool ..|refine' .bool_int ..|refine' .bool_str ..|refine' .bool_tuple ..|refine' .int_none ..|refine' .int_bool ..|refine' .int_int ..|refine' .int_str ..|refine' .int_tuple ..|refine' .str_none ..|refine' .str_bool ..|refine' .str_int ..|refine' .str_str ..|refine' .str_tuple ..|refine' .tuple_none ..|refine' .tuple_bool ..|refine' .tuple_int ..|refine' .tuple_str ..|refine' .tuple_list ..)
           all_goals try assumption
           done)
        | ((with_reducible first|refine' .none_list ..|refine' .bool_list ..|refine' .int_list ..|refine' .str_list ..|refine' .list_none ..|refine' .list_bool ..|refine' .list_int ..|refine' .list_str ..|refine' .list_tuple ..)
           all_goals try assumption))
    | skip
  . rename_i ds l ix p q es m iy p' q';have fin:((List.range (min ix.toArray.size iy.toArray.size)).all (eqJ ds es)&&ix.toArray.size == iy.toArray.size)=eqBs ds es:=by
      rw[zbx,zbx,q.1,q'.1]
      by_cases hl:ds.length=es.length
      . rw[<- jxg hl];simp[hl]
      . rw[jri hl];simp[hl]
    have R:=SeqAt.RcAt.tuples p p' hu' (go hd od oe q q');have N:=SeqAt.RcNeAt.tuples p p' hu' (go hd od oe q q');rw[fin] at R N;exact⟨R,both rfl rfl (by rfl) R,N⟩
  . rename_i ds l ix p q es m iy p' q'
    by_cases hl:ds.length=es.length
    . have sz:=q.1.trans (hl.trans q'.1.symm);have R:=SeqAt.RcAt.lists p p' sz hu' (go hd od oe q q');have N:=SeqAt.RcNeAt.lists p p' sz hu' (go hd od oe q q');rw[zbx,q.1,jxg hl] at R N;exact⟨R,both rfl rfl (by rfl) R,N⟩
    . have sz:(ix.toArray.size != iy.toArray.size)=true:=by simp[q.1,q'.1,hl]
      have R:=SeqAt.RcAt.lists_lengths p p' sz hu';rw[jri hl];exact⟨R,both rfl rfl (jri hl) R,SeqAt.RcNeAt.lists_lengths p p' sz hu'⟩
def jIe(I:Inv X U Z H s)(n:Nat)(A:Around)(d e:D)(v u:V)(a b:Value)(h1:depD d<=n)(h2:A.units+n+1<cLine)(h3:okD d=true)(h4:okD e=true)(h5:Rep J X.K H d v)(h6:Rep J X.K H e u)(h7:RelV v a)(h8:RelV u b):SeqAt.RcAt A s a b (eqB d e)/\SeqAt.EqAt A s a b (eqB d e) :=
 have h:=jFh I n A d e v u a b h1 h2 h3 h4 h5 h6 h7 h8;⟨h.1,h.2.1⟩
end
def BIGN:Nat:=Classical.choose (⟨2 ^ 100000,rfl⟩:∃ n:Nat,n=2 ^ 100000)
def jv9:BIGN=2 ^ 100000:=Classical.choose_spec (⟨_,rfl⟩:∃ n:Nat,n=2 ^ 100000)
def BIG:Int:=(BIGN:Int)
def DIVN:Nat:=Classical.choose (⟨2 ^ 9000,rfl⟩:∃ n:Nat,n=2 ^ 9000)
theorem jwa:DIVN=2 ^ 9000:=Classical.choose_spec (⟨_,rfl⟩:∃ n:Nat,n=2 ^ 9000)
def DIVB:Int:=(DIVN:Int)
def jhi(i:Int):Bool:=decide (-BIG<i)&&decide (i<BIG)
def gAdd:D->D->Option D
 | .int i,.int j=>some (.int (i+j))
 | .str x,.str y=>if x.length+y.length<=sizeLine then some (.str (x++y)) else none
 | _,_=>none
def gSub:D->D->Option D
 | .int i,.int j=>some (.int (i-j))
 | _,_=>none
def gMul:D->D->Option D
 | .int i,.int j=>if (jhi i&&jhi j)=true then some (.int (i*j)) else none
 | .str x,.int n=>if x.length<=4096/\-4096<=n/\n<=4096 then some (.str (Txt.mul x n)) else none
 | _,_=>none
def gMod:D->D->Option D
 | .int i,.int j=>if 0<j then some (.int (i % j)) else none
 | _,_=>none
def gFdiv:D->D->Option D
 | .int i,.int j=>if 0<j/\j<DIVB then some (.int (i / j)) else none
 | _,_=>none
def gPow:D->D->Option D
 | .int i,.int j=>if 0<=j/\j<=1000/\-(2 ^ 60)<i/\i<2 ^ 60 then some (.int (i ^ j.toNat)) else none
 | _,_=>none
def gCmp(p:Int->Int->Bool)(q:Str->Str->Bool):D->D->Option D
 | .int i,.int j=>some (.bl (p i j))
 | .str x,.str y=>some (.bl (q x y))
 | _,_=>none
def gLt:=gCmp (fun i j=>decide (i<j)) (fun x y=>decide (x.cps.toList<y.cps.toList))
def gLe:=gCmp (fun i j=>decide (i<=j)) (fun x y=>!decide (y.cps.toList<x.cps.toList))
def gGt:=gCmp (fun i j=>decide (j<i)) (fun x y=>decide (y.cps.toList<x.cps.toList))
def gGe:=gCmp (fun i j=>decide (j<=i)) (fun x y=>!decide (x.cps.toList<y.cps.toList))
def gEq:D->D->Option D:=fun x y=>if (okD x&&okD y&&decide (depD x<=20))=true then some (.bl (eqB x y)) else none
def gNe:D->D->Option D:=fun x y=>if (okD x&&okD y&&decide (depD x<=20))=true then some (.bl !(eqB x y)) else none
def jFm:D->Bool
 | .non=>true
 | _=>false
def gIs:D->D->Option D
 | x,.non=>some (.bl (jFm x))
 | _,_=>none
def gNeg:D->Option D
 | .int i=>some (.int (-i))
 | _=>none
noncomputable def gIx:D->D->Option D
 | .lst ds,.int i=>atI ds i
 | .tup ds,.int i=>atI ds i
 | .str z,.int i=>if z.length<=sizeLine then (atI z.cps.toList i).map fun c=>.str ⟨#[c]⟩ else none
 | _,_=>none
def jsv(h:jhi i=true):Builtin.Int.intBits i<=100001:=by
 unfold jhi at h;rw[Bool.and_eq_true,decide_eq_true_eq,decide_eq_true_eq] at h;unfold Builtin.Int.intBits
 split
 .omega
 .have hn:i.natAbs≠0:=by
   intro z;have:i=0:=by omega
   subst this;simp at *
  have hlt:i.natAbs<BIGN:=by
   unfold BIG at h;omega
  rw[jv9] at hlt;have:=(Nat.log2_lt hn).mpr hlt;omega
def jG3(h1:jhi i=true)(h2:jhi j=true):IntMulOk i j:=by
 have b1:=jsv h1;have b2:=jsv h2;unfold IntMulOk;have:Builtin.Int.intTooBig ((Builtin.Int.intBits i)+(Builtin.Int.intBits j))=false:=by
  unfold Builtin.Int.intTooBig bitsLine;simp;omega
 grind
section
variable {X:Cx}
def jJy:OpD X.K gAdd (fun x y H Q=>rI0 (fun i j=>.int (i+j)) x y H Q\/∃ i j,x=.str i/\y=.str j/\i.length+j.length<=sizeLine/\Q (.str (i++j)) H):=by
 intro x y d hd J H G u v Q hG ru rv k;unfold gAdd at hd
 split at hd
 .cases hd;exact .inl ⟨_,_,rep_int.mp ru,rep_int.mp rv,k _ H (Same.refl H) (rep_int.mpr rfl)⟩
 .split at hd
  .rename_i hz;cases hd;exact .inr ⟨_,_,rep_str.mp ru,rep_str.mp rv,hz,k _ H (Same.refl H) (rep_str.mpr rfl)⟩
  .cases hd
 .cases hd
def op_addD:OpR X (binaryOp .Add) (fun x y H Q=>rI0 (fun i j=>.int (i+j)) x y H Q\/∃ i j,x=.str i/\y=.str j/\i.length+j.length<=sizeLine/\Q (.str (i++j)) H):=op_add.or jvk
def jJ3:OpD X.K gSub (rI0 fun i j=>.int (i-j)):=by
 intro x y d hd J H G u v Q hG ru rv k;unfold gSub at hd
 split at hd
 .cases hd;exact⟨_,_,rep_int.mp ru,rep_int.mp rv,k _ H (Same.refl H) (rep_int.mpr rfl)⟩
 .cases hd
def op_mulD:OpR X (binaryOp .Mult) (fun x y H Q=>rI (fun i j=>(jhi i&&jhi j)=true) (fun i j=>.int (i*j)) x y H Q\/∃ z n,x=.str z/\y=.int n/\(z.length<=4096/\-4096<=n/\n<=4096)/\Q (.str (Txt.mul z n)) H):=by
 refine OpR.or (opI fun i j t u s E Q hc q=>PyProof.Rows.mul_int q (by simp_all [jG3])) ?_;intro U s Z H x y v u Q I rx ry h;obtain⟨z,n,rfl,rfl,⟨h1,h2,h3⟩,q⟩:=h;obtain⟨t,rfl⟩:=rx;obtain⟨t',rfl⟩:=ry;refine SB.mul (PyProof.Rows.mulOk_of _ _ h1 h3 (by omega) (by decide) (by decide)) fun t' k=>⟨.str _,H,I.tok _,⟨_,rfl⟩,q⟩
def jJ1:OpD X.K gMul (fun x y H Q=>rI (fun i j=>(jhi i&&jhi j)=true) (fun i j=>.int (i*j)) x y H Q\/∃ z n,x=.str z/\y=.int n/\(z.length<=4096/\-4096<=n/\n<=4096)/\Q (.str (Txt.mul z n)) H):=by
 intro x y d hd J H G u v Q hG ru rv k;unfold gMul at hd
 split at hd
 .split at hd
  .rename_i hz;cases hd;exact .inl ⟨_,_,rep_int.mp ru,rep_int.mp rv,hz,k _ H (Same.refl H) (rep_int.mpr rfl)⟩
  .cases hd
 .split at hd
  .rename_i hz;cases hd;exact .inr ⟨_,_,rep_str.mp ru,rep_int.mp rv,hz,k _ H (Same.refl H) (rep_str.mpr rfl)⟩
  .cases hd
 .cases hd
def jJ0:OpD X.K gMod (rI (fun _ j=>0<j) fun i j=>.int (i % j)):=by
 intro x y d hd J H G u v Q hG ru rv k;unfold gMod at hd
 split at hd
 .split at hd
  .rename_i hz;cases hd;exact⟨_,_,rep_int.mp ru,rep_int.mp rv,hz,k _ H (Same.refl H) (rep_int.mpr rfl)⟩
  .cases hd
 .cases hd
def jDa:OpR X (binaryOp .FloorDiv) (rI (fun _ j=>0<j/\j<DIVB) fun i j=>.int (i / j)):=opI fun i j t u s E Q hc q=>by
 refine PyProof.Rows.floordiv_int (by omega) (by grind) (.inl (PyProof.noPylong_of_log2 ?_));have hlt:j.natAbs<DIVN:=by
  have:=hc.2;unfold DIVB at this;omega
 rw[jwa] at hlt;exact (Nat.log2_lt (by omega)).mpr hlt
def jDc:OpD X.K gFdiv (rI (fun _ j=>0<j/\j<DIVB) fun i j=>.int (i / j)):=by
 intro x y d hd J H G u v Q hG ru rv k;unfold gFdiv at hd
 split at hd
 .split at hd
  .rename_i hz;cases hd;exact⟨_,_,rep_int.mp ru,rep_int.mp rv,hz,k _ H (Same.refl H) (rep_int.mpr rfl)⟩
  .cases hd
 .cases hd
def jJ2:OpD X.K gPow (rI CPow fun i j=>.int (i ^ j.toNat)):=by
 intro x y d hd J H G u v Q hG ru rv k;unfold gPow at hd
 split at hd
 .split at hd
  .rename_i hz;cases hd;exact⟨_,_,rep_int.mp ru,rep_int.mp rv,⟨hz.1,by omega,by omega⟩,k _ H (Same.refl H) (rep_int.mpr rfl)⟩
  .cases hd
 .cases hd
def jjp:OpD X.K (gCmp p q) (fun x y H Q=>rI0 (fun i j=>.bl (p i j)) x y H Q\/∃ i j,x=.str i/\y=.str j/\Q (.bl (q i j)) H):=by
 intro x y d hd J H G u v Q hG ru rv k;unfold gCmp at hd
 split at hd
 .cases hd;exact .inl ⟨_,_,rep_int.mp ru,rep_int.mp rv,k _ H (Same.refl H) (rep_bl.mpr rfl)⟩
 .cases hd;exact .inr ⟨_,_,rep_str.mp ru,rep_str.mp rv,k _ H (Same.refl H) (rep_bl.mpr rfl)⟩
 .cases hd
def jr9{q:Str->Str->Bool}(h:∀ {prog:Program} {w:World} {A:Around} {E:qc} {s:Shared} {Q:qc} (x y:Str) (t u:Tok),Q (.bool (q x y)) s->wpAny (model prog w) A (compareOp op (.str x t) (.str y u)) Q E s) :
  OpR X (compareOp op) (fun x y H Q=>∃ i j,x=.str i/\y=.str j/\Q (.bl (q i j)) H):=by
 intro U s Z H x y v u Q I rx ry k;obtain⟨i,j,rfl,rfl,k⟩:=k;obtain⟨t,rfl⟩:=rx;obtain⟨t',rfl⟩:=ry;exact h i j t t' ⟨.bl _,H,I,rfl,k⟩
def jF4:OpR X (compareOp .Lt) (fun x y H Q=>rI0 (fun i j=>.bl (decide (i<j))) x y H Q\/∃ i j,x=.str i/\y=.str j/\Q (.bl (decide (i.cps.toList<j.cps.toList))) H):=op_lt.or jy7
def jOc:OpR X (compareOp .LtE) (fun x y H Q=>rI0 (fun i j=>.bl (decide (i<=j))) x y H Q\/∃ i j,x=.str i/\y=.str j/\Q (.bl (!decide (j.cps.toList<i.cps.toList))) H):=op_le.or (jr9 fun x y t u h=>P.le_str h)
def jF2:OpR X (compareOp .Gt) (fun x y H Q=>rI0 (fun i j=>.bl (decide (j<i))) x y H Q\/∃ i j,x=.str i/\y=.str j/\Q (.bl (decide (j.cps.toList<i.cps.toList))) H):=op_gt.or (jr9 fun x y t u h=>P.gt_str h)
def jOb:OpR X (compareOp .GtE) (fun x y H Q=>rI0 (fun i j=>.bl (decide (j<=i))) x y H Q\/∃ i j,x=.str i/\y=.str j/\Q (.bl (!decide (i.cps.toList<j.cps.toList))) H):=op_ge.or (jr9 fun x y t u h=>P.ge_str h)
def rEqD(K:W.Frag)(neg:Bool):R2:=fun u v H Q=>∃ J x y,okD x=true/\okD y=true/\depD x<=20/\Rep J K H x u/\Rep J K H y v/\Q (.bl (if neg then !eqB x y else eqB x y)) H
def jOa(hu:X.A.units+30<cLine):OpR X (compareOp .Eq) (rEqD X.K false):=by
 intro U s Z H x y v u Q I rx ry h;obtain⟨J,d,e,o1,o2,hd,r1,r2,q⟩:=h;exact (jIe I 20 X.A d e x y v u hd (by omega) o1 o2 r1 r2 rx ry).1 _ _ _ _ ⟨.bl _,H,I,rfl,q⟩
def jOh:OpD X.K gEq (rEqD X.K false):=by
 intro x y d hd J H G u v Q hG ru rv k;unfold gEq at hd
 split at hd
 .rename_i h;rw[Bool.and_eq_true,Bool.and_eq_true,decide_eq_true_eq] at h;cases hd;exact⟨J,x,y,h.1.1,h.1.2,h.2,ru.mono jaf,rv.mono jaf,k _ H (Same.refl H) (rep_bl.mpr rfl)⟩
 .cases hd
def jF6:OpD X.K gNe (rEqD X.K true):=by
 intro x y d hd J H G u v Q hG ru rv k;unfold gNe at hd
 split at hd
 .rename_i h;rw[Bool.and_eq_true,Bool.and_eq_true,decide_eq_true_eq] at h;cases hd;exact⟨J,x,y,h.1.1,h.1.2,h.2,ru.mono jaf,rv.mono jaf,k _ H (Same.refl H) (rep_bl.mpr rfl)⟩
 .cases hd
def jy8(hu:X.A.units+30<cLine):OpR X (compareOp .NotEq) (rEqD X.K true):=by
 intro U s Z H x y v u Q I rx ry h;obtain⟨J,d,e,o1,o2,hd,r1,r2,q⟩:=h;exact (jFh I 20 X.A d e x y v u hd (by omega) o1 o2 r1 r2 rx ry).2.2 _ _ _ _ ⟨.bl _,H,I,rfl,q⟩
def jF5:OpD X.K gIs (fun x y H Q=>y=.non/\Q (.bl (decide (x=.non))) H):=by
 intro x y d hd J H G u v Q hG ru rv k
 cases y with
 | non =>
  cases hd;refine⟨rep_non.mp rv,?_⟩;have e:decide (u=V.non)=jFm x:=by
   cases x with
   | non=>cases rep_non.mp ru;rfl
   | bl _=>cases rep_bl.mp ru;rfl
   | int _=>cases rep_int.mp ru;rfl
   | str _=>cases rep_str.mp ru;rfl
   | ty _=>cases rep_ty.mp ru;rfl
   | obj _=>obtain⟨_,_,rfl⟩:=rep_obj.mp ru;rfl
   | tup _=>obtain⟨_,_,rfl,_⟩:=rep_tup.mp ru;rfl
   | lst _=>obtain⟨_,_,rfl,_⟩:=rep_lst.mp ru;rfl
  rw[e];exact k _ H (Same.refl H) (rep_bl.mpr rfl)
 | _=>cases hd
def jLh:UnD X.K gNeg (rU fun i=>.int (-i)):=by
 intro x d hd J H G u Q hG ru k
 cases x with
 | int i=>cases hd;exact⟨i,rep_int.mp ru,k _ H (Same.refl H) (rep_int.mpr rfl)⟩
 | _=>cases hd
def joe(h:Reps J K H ds xs)(e:atI ds i=some d):∃ v,atI xs i=some v/\Rep J K H d v:=by
 unfold atI at e |-
 rw[h.length]
 cases z:ixN _ i with
 | none=>grind
 | some j=>rw[z] at e;exact h.get e
def jiz:OpD X.K gIx (rIx X.K):=by
 intro x y d hd J H G u v Q hG ru rv k;unfold gIx at hd
 split at hd
 .obtain⟨a,xs,rfl,q1,q2⟩:=rep_lst.mp ru;obtain⟨w,e,r⟩:=joe q2 hd;exact .inl ⟨a,xs,_,w,rfl,rep_int.mp rv,jcj jaf q1,e,k w H (Same.refl H) r⟩
 .obtain⟨a,xs,rfl,q1,q2⟩:=rep_tup.mp ru;obtain⟨w,e,r⟩:=joe q2 hd;exact .inr (.inl ⟨a,xs,_,w,rfl,rep_int.mp rv,jcb jaf q1,e,k w H (Same.refl H) r⟩)
 .split at hd
  .rename_i z i hz
   cases e:atI z.cps.toList i with
   | none=>grind
   | some c =>
    rw[e] at hd;cases hd;exact .inr (.inr ⟨z,i,c,rep_str.mp ru,rep_int.mp rv,hz,e,k _ H (Same.refl H) (rep_str.mpr rfl)⟩)
  .cases hd
 .cases hd
noncomputable def kLen:List D->Option D
 | [.lst ds]=>some (.int ds.length)
 | [.tup ds]=>some (.int ds.length)
 | [.str z]=>if z.length<=sizeLine then some (.int z.length) else none
 | _=>none
def jhl(h:Reps J K H [d] vs):∃ v,vs=[v]/\Rep J K H d v:=by
 obtain⟨v,r,rfl,q1,q2⟩:=reps_cons.mp h;cases reps_nil.mp q2
 grind
def jD0(h:Reps J K H [d,e] vs):∃ v u,vs=[v,u]/\Rep J K H d v/\Rep J K H e u:=by
 obtain⟨v,r,rfl,q1,q2⟩:=reps_cons.mp h;obtain⟨u,rfl,q3⟩:=jhl q2
 grind
def jwo:CallR X (.builtin "len") (fun xs H Q=>(∃ p ys,xs=[.ref p]/\(SqL X.K H p ys\/SqT X.K H p ys)/\Q (.int ys.length) H)\/∃ z,xs=[.str z]/\z.length<=sizeLine/\Q (.int z.length) H):=call_len_seq.or jo4
def jHa:CaD X.K kLen (fun xs H Q=>(∃ p ys,xs=[.ref p]/\(SqL X.K H p ys\/SqT X.K H p ys)/\Q (.int ys.length) H)\/∃ z,xs=[.str z]/\z.length<=sizeLine/\Q (.int z.length) H):=by
 intro xs d hd J H G us Q hG ru k;unfold kLen at hd
 split at hd
 .cases hd;obtain⟨v,rfl,q⟩:=jhl ru;obtain⟨a,ys,rfl,q1,q2⟩:=rep_lst.mp q;exact .inl ⟨a,ys,rfl,.inl (jcj jaf q1),k _ H (Same.refl H) (rep_int.mpr (by rw[q2.length]))⟩
 .cases hd;obtain⟨v,rfl,q⟩:=jhl ru;obtain⟨a,ys,rfl,q1,q2⟩:=rep_tup.mp q;exact .inl ⟨a,ys,rfl,.inr (jcb jaf q1),k _ H (Same.refl H) (rep_int.mpr (by rw[q2.length]))⟩
 .split at hd
  .rename_i z hz;cases hd;obtain⟨v,rfl,q⟩:=jhl ru;cases rep_str.mp q;exact .inr ⟨z,rfl,hz,k _ H (Same.refl H) (rep_int.mpr rfl)⟩
  .cases hd
 .cases hd
def kTuple:List D->Option D
 | [.lst ds]=>some (.tup ds)
 | [.tup ds]=>some (.tup ds)
 | _=>none
def jo2:CaD X.K kTuple (fun xs H Q=>∃ p ys,xs=[.ref p]/\((SqL X.K H p ys/\∀ l,H l=none->Q (.ref l) (upd H l (.tup ys)))\/(SqT X.K H p ys/\Q (.ref p) H))):=by
 intro xs d hd J H G us Q hG ru k;unfold kTuple at hd
 split at hd
 .cases hd;obtain⟨v,rfl,q⟩:=jhl ru;obtain⟨a,ys,rfl,q1,q2⟩:=rep_lst.mp q;exact⟨a,ys,rfl,.inl ⟨jcj jaf q1,fun l hl=>k _ _ (jal hl) (jbc hl (hG l hl) q2)⟩⟩
 .cases hd;obtain⟨v,rfl,q⟩:=jhl ru;obtain⟨a,ys,rfl,q1,q2⟩:=rep_tup.mp q;exact⟨a,ys,rfl,.inr ⟨jcb jaf q1,k _ H (Same.refl H) q⟩⟩
 .cases hd
def kList:List D->Option D
 | [.lst ds]=>some (.lst ds)
 | [.tup ds]=>some (.lst ds)
 | _=>none
def jBl:CaD X.K kList (fun xs H Q=>∃ p ys,xs=[.ref p]/\(SqL X.K H p ys\/SqT X.K H p ys)/\∀ l,H l=none->Q (.ref l) (upd H l (.lst ys))):=by
 intro xs d hd J H G us Q hG ru k;unfold kList at hd
 split at hd
 .cases hd;obtain⟨v,rfl,q⟩:=jhl ru;obtain⟨a,ys,rfl,q1,q2⟩:=rep_lst.mp q;exact⟨a,ys,rfl,.inl (jcj jaf q1),fun l hl=>k _ _ (jal hl) (jcq hl (hG l hl) q2)⟩
 .cases hd;obtain⟨v,rfl,q⟩:=jhl ru;obtain⟨a,ys,rfl,q1,q2⟩:=rep_tup.mp q;exact⟨a,ys,rfl,.inr (jcb jaf q1),fun l hl=>k _ _ (jal hl) (jcq hl (hG l hl) q2)⟩
 .cases hd
def kMin:List D->Option D
 | [.int i,.int j]=>some (.int (if j<i then j else i))
 | _=>none
def kAbs:List D->Option D
 | [.int i]=>some (.int (if i<0 then -i else i))
 | _=>none
def jG7:CaD X.K kAbs (fun xs H Q=>∃ i,xs=[.int i]/\Q (.int (if i<0 then -i else i)) H):=by
 intro xs d hd J H G us Q hG ru k;unfold kAbs at hd
 split at hd
 .cases hd;obtain⟨v,rfl,q1⟩:=jhl ru;cases rep_int.mp q1;exact⟨_,rfl,k _ H (Same.refl H) (rep_int.mpr rfl)⟩
 .cases hd
def kInt:List D->Option D
 | [.int i]=>some (.int i)
 | [.bl k]=>some (.int (if k then 1 else 0))
 | _=>none
def jnt:List D->Option (List Int)
 | []=>some []
 | .int i::ds=>(jnt ds).map (i::·)
 | _::_=>none
theorem jtm:∀ {ds:List D} {ns:List Int},jnt ds=some ns->ds=ns.map .int
 | [],_,h=>by cases h;rfl
 | .int i::ds,ns,h=>by
  unfold jnt at h
  cases e:jnt ds with
  | none=>rw[e] at h;cases h
  | some ms=>rw[e] at h;cases h;rw[jtm e];rfl
 | .non::_,_,h=>by cases h
 | .bl _::_,_,h=>by cases h
 | .str _::_,_,h=>by cases h
 | .ty _::_,_,h=>by cases h
 | .obj _::_,_,h=>by cases h
 | .tup _::_,_,h=>by cases h
 | .lst _::_,_,h=>by cases h
theorem jxt(ns:List Int):jnt (ns.map .int)=some ns:=by
 induction ns<;>grind [List.map_cons,jnt]
def kSum:List D->Option D
 | [d]=>match seqD d with
  | some ds=>(jnt ds).map fun ns=>.int ns.sum
  | none=>none
 | _=>none
def jzq(ns:List Int):∀ k,k<=ns.length->preSum (fun i=>ns.getD i 0) k=(ns.take k).sum:=by
 intro k
 induction k with
 | zero=>intro _;rfl
 | succ k ih =>
  intro h;show preSum _ k+ns.getD k 0=_;rw[ih (by omega),List.take_succ,List.sum_append]
  grind
def jwt(hc:X.calm=true):CallR X (.builtin "sum") (fun xs H Q=>∃ k p,∃ ns:List Int,xs=[.ref p]/\SqV k X.K H p (ns.map V.int)/\Q (.int ns.sum) H):=by
 intro U s Z H xs us Q I r h;obtain⟨k,p,ns,rfl,hq,q⟩:=h;obtain⟨u,rfl,rx⟩:=r.one;cases rx;obtain⟨its,rv,src,hz⟩:=I.src hq;have hl:=rv.length;rw[zav] at hl;have hh:X.A.in1.handled=none:=I.ok.hd hc;have val:∀ (i:Nat) v,its.toArray[i]? = some v->∃ t,v=.int (ns.getD i 0) t:=fun i v e=>by
  have hi:i<ns.length:=by rw[hl];have:=(Array.getElem?_eq_some_iff.mp e).1;simpa using this
  obtain⟨v',e1,r1⟩:=rv.get (i:=i) (x:=.int ns[i]) (by grind);have:=by
   have e':=by simpa using e
   rw[e'] at e1;exact zby e1
  subst this;rw[List.getD_eq_getElem?_getD,zax hi];exact r1
 have fin:∀ {it:Addr} {s2:Shared} {h':Heap} {tk:Nat} {t':Tok},s.heap.objs.size=it->(∀ b o,s.heap.get? b=some o->s2.heap.get? b=some o)->s2={ s with heap:=s2.heap }->(∀ b o,b∉[it]->s2.heap.get? b=some o->h'.get? b=some o) ->
   EP X _ Z Q (.int (preSum _ _) t') { s2 with heap:=h',toks:=tk }:=fun {it s2 h' tk t'} e1 e2 e3 e4=>by
  have ep:preSum (fun i=>ns.getD i 0) its.toArray.size=ns.sum:=by
   rw[zbx,<- hl,jzq ns _ (zac _),List.take_length]
  rw[ep,e3];refine⟨.int _,H,I.kept fun b o e=>e4 b o ?_ (e2 b o e),⟨_,rfl⟩,q⟩;intro z;have:=by simpa using z
  rw[this,<- e1] at e;exact absurd (zbv e) (Nat.lt_irrefl _)
 refine call_sum_walkG ?_
 cases k with
 | true =>
  have src':=src;have hp:p<s.heap.objs.size:=by obtain⟨o,e,_⟩:=src';exact zbv e
  refine wpAny_pyIter_tuple src' ?_;refine⟨_,_,_,_,_,_,_,rfl,Walks.tuple hh _ p (zcw hp) _,⟨⟨_,zbz _ rfl,rfl,rfl⟩,src'.at fun o e=>zaz _ e⟩,fun b hb=>?_,val,fun h' tk t' kp=>fin rfl (fun b o e=>zaz _ e) rfl kp⟩;rw[Heap.size_push]
  grind
 | false =>
  have src':=src;have hp:p<s.heap.objs.size:=by obtain⟨o,e,_⟩:=src';exact zbv e
  refine wpAny_pyIter_list src' ?_;refine⟨_,_,_,_,_,_,_,rfl,Walks.list hh _ p (zcw hp) _,⟨⟨_,zbz _ rfl,rfl,rfl⟩,src'.at fun o e=>zaz _ e⟩,fun b hb=>?_,val,fun h' tk t' kp=>fin rfl (fun b o e=>zaz _ e) rfl kp⟩;rw[Heap.size_push]
  grind
def jHc:CaD X.K kSum (fun xs H Q=>∃ k p,∃ ns:List Int,xs=[.ref p]/\SqV k X.K H p (ns.map V.int)/\Q (.int ns.sum) H):=by
 intro xs d hd J H G us Q hG ru k;unfold kSum at hd
 split at hd
 .split at hd
  .rename_i ds es
   cases e:jnt ds with
   | none=>grind
   | some ns =>
    rw[e] at hd;cases hd;obtain⟨v,rfl,q⟩:=jhl ru;obtain⟨kk,l,ys,rfl,q1,q2⟩:=jqi es q;rw[jtm e] at q2;rw[reps_ints.mp q2] at q1;exact⟨kk,l,ns,rfl,jqg jaf q1,k _ H (Same.refl H) (rep_int.mpr rfl)⟩
  .cases hd
 .cases hd
noncomputable def isiD(T:String):D->Option Bool
 | .non=>some (T == "NoneType")
 | .bl _=>some (T == "bool" || T == "int")
 | .int _=>some (T == "int")
 | .str _=>some (T == "str")
 | .tup _=>some (T == "tuple")
 | .lst _=>some (T == "list")
 | _=>none
noncomputable def kIsi:List D->Option D
 | [d,.ty T]=>if T="int"\/T="bool"\/T="tuple"\/T="list"\/T="str" then (isiD T d).map .bl else none
 | _=>none
end
section
variable {X:Cx}
def rIsi(K:W.Frag):List V->Hp->VK->Prop:=fun xs H Q=>∃ J d v T b,xs=[v,.ty T]/\Rep J K H d v/\kIsi [d,.ty T]=some (.bl b)/\Q (.bl b) H
def jo3:CallR X (.builtin "isinstance") (rIsi X.K):=by
 intro U s Z H xs us Q I r h;obtain⟨J,d,v,T,b,rfl,rd,hk,q⟩:=h;obtain⟨u,c,rfl,ru,rc⟩:=r.two;cases rc;have fin:∀ tk,EP X _ Z Q _ { s with toks:=tk }:=fun tk=>⟨.bl b,H,I.tok _,rfl,q⟩
 have hk2:(if T="int"\/T="bool"\/T="tuple"\/T="list"\/T="str" then (isiD T d).map _ else none)=some _:=hk
 by_cases hT:T="int"\/T="bool"\/T="tuple"\/T="list"\/T="str"
 .rw[if_pos hT] at hk2;have hk:=hk2
  cases d with
  | ty _=>cases hk
  | obj _=>cases hk
  | non =>
   cases rep_non.mp rd;cases ru
   rcases hT with rfl|rfl|rfl|rfl|rfl<;>(cases hk;exact W.kia_one W.kitx_none I.kIn True.intro rfl (fun z=>nomatch z) fin)
  | bl x =>
   cases rep_bl.mp rd;cases ru
   rcases hT with rfl|rfl|rfl|rfl|rfl<;>(cases hk;exact W.kia_one W.kitx_bool I.kIn True.intro rfl (fun z=>nomatch z) fin)
  | int x =>
   cases rep_int.mp rd;obtain⟨t,rfl⟩:=ru
   rcases hT with rfl|rfl|rfl|rfl|rfl<;>(cases hk;exact W.kia_one W.kitx_int I.kIn True.intro rfl (fun z=>nomatch z) fin)
  | str x =>
   cases rep_str.mp rd;obtain⟨t,rfl⟩:=ru
   rcases hT with rfl|rfl|rfl|rfl|rfl<;>(cases hk;exact W.kia_one W.kitx_str I.kIn True.intro rfl (fun z=>nomatch z) fin)
  | tup x =>
   obtain⟨a,ys,rfl,q1,q2⟩:=rep_tup.mp rd;cases ru;obtain⟨its,_,⟨o,e,hc,_⟩,_⟩:=I.tuple q1;rcases hT with rfl|rfl|rfl|rfl|rfl<;>(cases hk;exact W.kia_one W.kitx_tuple I.kIn ⟨o,e,hc⟩ rfl (fun z=>nomatch z) fin)
  | lst x =>
   obtain⟨a,ys,rfl,q1,q2⟩:=rep_lst.mp rd;cases ru;obtain⟨its,_,p,_⟩:=I.list q1;obtain⟨o,e,hc,_⟩:=p.isList;rcases hT with rfl|rfl|rfl|rfl|rfl<;>(cases hk;exact W.kia_one W.kitx_list I.kIn ⟨o,e,hc⟩ rfl (fun z=>nomatch z) fin)
 grind
def jG9:CaD X.K kIsi (rIsi X.K):=by
 intro xs d hd J H G us Q hG ru k;have hd0:=hd;unfold kIsi at hd
 split at hd
 .rename_i d0 T
  split at hd
  .obtain⟨v,u,rfl,q1,q2⟩:=jD0 ru;cases rep_ty.mp q2
   cases e:isiD T d0 with
   | none=>grind
   | some b =>
    rw[e] at hd;cases hd;exact⟨J,d0,v,T,b,rfl,q1.mono jaf,hd0,k _ H (Same.refl H) (rep_bl.mpr rfl)⟩
  .cases hd
 .cases hd
def jHo(hg:Gl X x)(hm:X.mg x=none)(hv:bootBuiltins x=some (.type T))(hn:x≠"__name__")(hd:(x == ("__debug__":Str))=false):DE X O E (.Name x pos) (fC (.ty T)) :=
 jjz (t:=tC (.ty T)) (v:=.ty T) (jJ7 hg hm hv rfl hn hd) fun _ _=>rep_ty.mpr rfl
def jBu(hg:Gl X x)(hm:X.mg x=some (.int i t))(hd:(x == ("__debug__":Str))=false):DE X O E (.Name x pos) (fC (.int i)) :=
 jjz (t:=tC (.int i)) (v:=.int i) (joc hg hm ⟨t,rfl⟩ hd) fun _ _=>rep_int.mpr rfl
end
inductive spD(K:W.Frag)(n:Nat)(m:List D->M D)(vs:List V)(H:Hp)(Q:VK)(E:XK):Prop
 | mk (hn:vs.length=n) (J:Rho) (ds:List D) (r:Except XD D) (F:qd) (hF:∀ b,F b=true->H b≠none) (hr:Reps J K (hid H F) ds vs) (hf:m ds=some r) (k:match (generalizing:=false) r with
  | .ok d=>∀ v H',Same H H'->Rep J K (hid H' F) d v->Q v H'
  | .error x=>okX K H E x)
inductive CalX(P:Program)(w:World)(K:W.Frag)(mg:qa)(base:Heap)(k:Nat)(x:Str)(n:Nat)(sp:Sp):Prop
 | mk (f:Addr) (fd:FuncData) (ps:List Str) (h1:ps.length=n) (h2:mg x=some (.ref f)) (h3:W.keepIn K (.ref f)=true) (h4:Binds K fd ps []) (h5:FnOk P w K mg base CX0 k f fd ps sp)
structure Cal(P:Program)(w:World)(K:W.Frag)(mg:qa)(base:Heap)(k:Nat)(x:Str)(n:Nat)(m:List D->M D):Prop where
 ex:CalX P w K mg base k x n (spD K n m)
 ar:∀ ds r,m ds=some r->ds.length=n
def jot(K:W.Frag)(mg:qa)(x:Str)(st:Stmt)(ps:List Str):Prop:=∃ f fd,mg x=some (.ref f)/\Fun K x x st f fd/\Binds K fd ps []
def startD(n:Nat)(ds:List D):DSt:=ds.map some++List.replicate (n-ds.length) none
def outD:Out->M D
 | .rt d=>M.p d
 | .nx _=>M.p .non
 | _=>none
def mir(n N:Nat)(g:DSt->M Out):List D->M D:=fun ds=>if ds.length=n then (g (startD N ds)).b outD else none
def jm9{i:Nat}(h:(startD N ds)[i]? = some (some d)):ds[i]? = some d:=by
 unfold startD at h
 grind
theorem jqo{i:Nat}(h:vs[i]? = some v):(L2.start N vs)[i]? = some (some v):=by
 unfold L2.start;rw[List.getElem?_append_left (by simpa using ((zbb.mp h).1)),zba,h];rfl
def fn_D(F:Fun K x x st f fd)(S:FnScope N ps (jab st))
  (hbody:∀ (f:Addr) (cdv:Value) (A:Around) (outer:List Env) (s:Shared) (H:Hp) (E:XK),Room k (A.deeper (PyProof.Rows.envOfC x (jab st) s.heap.objs.size f cdv)) ->
   DSs (cxOf CX0 P w K mg base N x (jab st) f cdv A outer s H E).nox [] O' [] E (jaw st) g):FnOk P w K mg base CX0 (k+1) f fd ps (spD K ps.length (mir ps.length N.length g)):=by
 refine F.ok S (fun vs H Q E h=>h.1) fun cdv A outer s H vs Q E hr h=>?_
 obtain⟨hl,J,ds,r,F',fin,rp,hmr,k0⟩:=h;refine⟨_,hbody f cdv A _ s H E hr,?_⟩;unfold mir at hmr;rw[if_pos (by rw[<- rp.length];exact hl)] at hmr;have R:RS J K H H F' [] (L2.start N vs) (startD N.length ds):=by
  refine⟨?_,Same.refl H,fin,fun i d hd _=>?_,fun i hi=>absurd hi (by simp),fun i hi=>absurd hi (by simp)⟩
  .simp[L2.start,startD,rp.length]
  .obtain⟨v,e,rv⟩:=rp.get (jm9 hd);exact⟨v,jqo e,by rw[jcg];exact rv⟩
 rcases M.b_inv hmr with ⟨o,e1,hmr⟩|⟨y,e1,rfl⟩
 .refine⟨J,H,F',_,_,R,e1,?_⟩
  cases o with
  | rt d=>cases hmr;exact fun v H' s' rv=>k0 v H' s' rv
  | nx Y=>cases hmr;exact fun Z' H' f' R'=>k0 _ H' R'.same (rep_non.mpr rfl)
  | bk Y=>cases hmr
  | ct Y=>cases hmr
 .exact⟨J,H,F',_,_,R,e1,k0⟩
def jE4(hf:jot K mg x st ps)(S:FnScope N ps (jab st))
  (hbody:∀ (f:Addr) (cdv:Value) (A:Around) (outer:List Env) (s:Shared) (H:Hp) (E:XK),Room k (A.deeper (PyProof.Rows.envOfC x (jab st) s.heap.objs.size f cdv)) ->
   DSs (cxOf CX0 P w K mg base N x (jab st) f cdv A outer s H E).nox [] O' [] E (jaw st) g):Cal P w K mg base (k+1) x ps.length (mir ps.length N.length g):=by
 obtain⟨f,fd,hm,F,hb⟩:=hf;refine⟨⟨f,fd,ps,rfl,hm,F.kp,hb,fn_D F S hbody⟩,fun ds r h=>?_⟩
 grind [mir]
def jCd{kV doc pm cdv ct:Value}(X:K.In h)(G:h.Ns mainGlobals mg)
  (hb:∀ (kV doc pm:Value) (an:Option Addr) (cdv ct:Value) (us:List Value),us.length=ps.length->bindArgs (W.fnOf x x (jb4 st) (jaw st) (jab st) .none kV doc pm an cdv ct) ⟨us,[]⟩=pure (ps.zip us))
  (a:W.nsIn K mainGlobals x=some (some (.ref f))) (l:K.lookup f=some ⟨oc,od,.func (W.fnOf x x (jb4 st) (jaw st) (jab st) .none kV doc pm an cdv ct),osl⟩)
  (c:W.codeIn K cdv x=true) (k:W.keepIn K (.ref f)=true):jot K mg x st ps:=by
 have F:=jxj l c k;exact⟨f,_,W.mg_of X G a,F,F.binds hb⟩
def jxi(hf:jot K mg "law" st [x])(hm:mg "law"=some (.ref f))
  (hb:∀ (kV doc pm:Value) (an:Option Addr) (cdv ct:Value) (s:Shared) (u:Value),BindsTo s (W.fnOf "law" "law" (jb4 st) (jaw st) (jab st) .none kV doc pm an cdv ct) ⟨[u],[]⟩ [(x,u)]) :
  ∃ fd,Fun K "law" "law" st f fd/\∀ (s:Shared) (u:Value),BindsTo s fd ⟨[u],[]⟩ [(x,u)]:=by
 obtain⟨f',fd,hm',F,_⟩:=hf;rw[hm] at hm';cases hm';refine⟨fd,F,fun s u=>?_⟩;obtain⟨oc,od,kV,doc,pm,an,cdv,ct,osl,rfl,lk,hcd⟩:=F.ex
 grind
def fCall(m:List D->M D)(fl:DSt->M (List D)):DSt->M D:=fun Y=>(fl Y).b m
section
variable {X:Cx}{O:List Nat}{E:XK}{e:Expr}{es:List Expr}{fl:DSt->M (List D)}{pos p:Pos}{x:Str}{k n:Nat}{m:List D->M D}
def jHp(C:Cal X.prog X.w X.K X.mg X.base k x n m)(hr:Room k X.A)(ha:DA X O E (e::es) fl)(hg:Gl X x)(hdb:(x == ("__debug__":Str))=false)(he:zsE e es X.env)
  (hpl:zbT pos es X.env):DE X O E (.Call (.Name x p) (e::es) [] pos) (fCall m fl):=by
 obtain⟨f,fd,ps,hl,hm,hk,hb,F⟩:=C.ex;rintro U s Z H Q I ⟨J,Hz,G,Y,r,R,hf,h⟩;refine jsa F hr hg hm hk hb .nil (fun _ _ _ _ _ _ _ z=>z.elim) ha hdb he hpl _ s Z H Q I (E:=E) ?_;refine bD R hf h fun ds hf vs H1 s1 r1=>?_
 rw[List.append_nil];refine⟨by rw[r1.length];exact C.ar ds r hf,J,ds,r,_,fun b hb z=>?_,r1,hf,?_⟩
 .rw[(R.mono s1).fresh z] at hb;cases hb
 .cases r with
  | ok d=>exact fun v H' s' rv=>h v H' (s1.trans s') rv
  | error y=>exact fun c dx H' s' xr=>h c dx H' (R.same.trans (s1.trans s')) xr
end
def hu30(hr:Room k A):A.units+30<cLine:=Nat.lt_of_le_of_lt (Nat.add_le_add_left (by decide) _) hr.units
def jE2:bootBuiltins "len"=some (.builtin "len"):=by decide +kernel
def jLy:bootBuiltins "sum"=some (.builtin "sum"):=by decide +kernel
def jLu:bootBuiltins "abs"=some (.builtin "abs"):=by decide +kernel
def jfi:bootBuiltins "isinstance"=some (.builtin "isinstance"):=by decide +kernel
def jnb:bootBuiltins "tuple"=some (.type "tuple"):=by decide +kernel
def jwj:bootBuiltins "list"=some (.type "list"):=by decide +kernel
def jE1:bootBuiltins "int"=some (.type "int"):=by decide +kernel
def jE3:bootBuiltins "str"=some (.type "str"):=by decide +kernel
def jG6:bootBuiltins "bool"=some (.type "bool"):=by decide +kernel
def jLv:bootBuiltins "all"=some (.builtin "all"):=by decide +kernel
def jLx:bootBuiltins "set"=some (.type "set"):=by decide +kernel
def jq4:bootBuiltins "reversed"=some (.type "reversed"):=by decide +kernel
noncomputable def gCat:D->D->Option D
 | .int i,.int j=>some (.int (i+j))
 | .str x,.str y=>if x.length+y.length<=sizeLine then some (.str (x++y)) else none
 | .lst xs,.lst ys=>if xs.length+ys.length<=sizeLine then some (.lst (xs++ys)) else none
 | .tup xs,.tup ys=>if xs.length+ys.length<=sizeLine/\xs≠[]/\ys≠[] then some (.tup (xs++ys)) else none
 | _,_=>none
def jKn(K:W.Frag):R2:=fun x y H Q=>∃ l b xs zs,x=.ref l/\y=.ref b/\SqL K H l xs/\SqL K H b zs/\xs.length+zs.length<=sizeLine/\∀ p,H p=none->Q (.ref p) (upd H p (.lst (xs++zs)))
section
variable {X:Cx}
def op_catQ:OpR X (binaryOp .Add) (jKn X.K):=by
 intro U s Z H x y v u Q I rx ry h;obtain⟨l,b,xs,zs,rfl,rfl,hH,hB,hz,q⟩:=h;cases rx;cases ry;obtain⟨its,r,⟨⟨cls,dd,data,sl⟩,n,ho,hc,_,hd⟩,_⟩:=I.list hH;obtain⟨its2,r2,⟨⟨cls2,dd2,data2,sl2⟩,n2,ho2,hc2,_,hd2⟩,_⟩:=I.list hB;subst hc hd hc2 hd2;have l1:=r.length;have l2:=r2.length;have ea:its.toArray++its2.toArray=(its++its2).toArray:=by simp
 refine concat_meets ⟨_,ho,rfl⟩ ⟨_,ho2,rfl⟩ noFill_list_add seq_list_add PySem.F.slot_list_add PySem.F.entry_list_add (PySem.F.args_list_add_2 _ _) (PyProof.Rows.list_addW l b _ _ n n2 dd dd2 sl sl2 (by grind)) ⟨ho,ho2,?_⟩;rw[ea];exact⟨.ref _,_,I.lnew (r.append r2) (by grind),rfl,q _ I.fresh⟩
def jJu:OpR X (binaryOp .Add) (fun x y H Q=>(rI0 (fun i j=>.int (i+j)) x y H Q\/∃ i j,x=.str i/\y=.str j/\i.length+j.length<=sizeLine/\Q (.str (i++j)) H)\/jKn X.K x y H Q\/jzz X.K x y H Q):=op_addD.or (op_catQ.or jy5)
def jJz:OpD X.K gCat (fun x y H Q=>(rI0 (fun i j=>.int (i+j)) x y H Q\/∃ i j,x=.str i/\y=.str j/\i.length+j.length<=sizeLine/\Q (.str (i++j)) H)\/jKn X.K x y H Q\/jzz X.K x y H Q):=by
 intro x y d hd J H G u v Q hG ru rv k;unfold gCat at hd
 split at hd
 .cases hd;exact .inl (.inl ⟨_,_,rep_int.mp ru,rep_int.mp rv,k _ H (Same.refl H) (rep_int.mpr rfl)⟩)
 .split at hd
  .rename_i hz;cases hd;exact .inl (.inr ⟨_,_,rep_str.mp ru,rep_str.mp rv,hz,k _ H (Same.refl H) (rep_str.mpr rfl)⟩)
  .cases hd
 .split at hd
  .rename_i hz;cases hd;obtain⟨l,xs,rfl,q1,q2⟩:=rep_lst.mp ru;obtain⟨m,ys,rfl,p1,p2⟩:=rep_lst.mp rv;exact .inr (.inl ⟨l,m,xs,ys,rfl,rfl,jcj jaf q1,jcj jaf p1,by rw[q2.length,p2.length];exact hz,fun p hp=>k _ _ (jal hp) (jcq hp (hG p hp) (q2.append p2))⟩)
  .cases hd
 .split at hd
  .rename_i hz;cases hd;obtain⟨l,xs,rfl,q1,q2⟩:=rep_tup.mp ru;obtain⟨m,ys,rfl,p1,p2⟩:=rep_tup.mp rv;exact .inr (.inr ⟨l,m,xs,ys,rfl,rfl,jcb jaf q1,jcb jaf p1,(fun z=>by have:=q2.length;grind),by rw[q2.length,p2.length];exact hz.1,fun z=>absurd z (fun z=>by have:=p2.length;grind),fun _ p hp=>k _ _ (jal hp) (jbc hp (hG p hp) (q2.append p2))⟩)
  .cases hd
 .cases hd
def fRep(fl:DSt->M (List D))(fb:DSt->M D):DSt->M D:=fun Y=>(fl Y).b fun xs=>if xs.length<=sizeLine then (fb Y).b fun y=>match y with
  | .int k=>if -(2 ^ 63)<=k/\k<2 ^ 63/\xs.length*k.toNat<=sizeLine then M.p (.lst (List.replicate k.toNat xs).flatten) else none
  | _=>none
 else none
theorem Reps.rep(h:Reps J K H ds vs):∀ k:Nat,Reps J K H (List.replicate k ds).flatten (List.replicate k vs).flatten
 | 0=>Reps.nil
 | k+1=>h.append (Reps.rep h k)
def jHu(hl:DA X O E es fl)(hb:DE X O E b fb):DE X O E (.BinOp (.List es p2) .Mult b pos) (fRep fl fb):=by
 rintro U s Z H Q I ⟨J,Hz,F,Y,rr,R,hf,k⟩;refine jOq jOf (jp9 hl) hb _ s Z H Q I ?_;refine bD R hf k fun xs hf us H1 s1 r1=>?_
 split at hf
 .rename_i hz0;refine⟨by rw[r1.length];exact hz0,fun p hp=>?_⟩;have s2:Same H1 (upd H1 p (.lst us)):=jal hp;rcases M.b_inv hf with ⟨y,e2,hf⟩|⟨y,e2,rfl⟩
  .cases y with
   | int n =>
    dsimp only at hf
    split at hf
    .rename_i hz;cases hf;refine⟨J,_,F,Y,_,R.mono (s1.trans s2),e2,fun w H2 s3 r2=>?_⟩;cases rep_int.mp r2;exact⟨p,n,us,rfl,rfl,s3 _ _ jaj,hz.1,hz.2.1,by rw[r1.length];exact hz.2.2,fun q hq=>(k _ _ (s1.trans (s2.trans (s3.trans (jal hq)))) (jcq hq ((R.mono (s1.trans (s2.trans s3))).fresh hq) ((r1.mono (jad (s2.trans s3))).rep _)))⟩
    .cases hf
   | _=>cases hf
  .exact⟨J,_,F,Y,_,R.mono (s1.trans s2),e2,k⟩
 .cases hf
abbrev tOD:=@tZ (Option Int)
def DO(X:Cx)(O:List Nat)(E:XK)(e:Option Expr)(f:DSt->M (Option Int)):Prop:=PO X e (tOD X.K O E f)
def oNone:DSt->M (Option Int):=fun _=>M.p none
def intD:D->Option (Option Int)
 | .int i=>some (some i)
 | _=>none
def jdn(f:DSt->M D):DSt->M (Option Int):=fun Y=>(f Y).b fun d=>M.o (intD d)
def jH0:DO X O E none oNone:=by
 rintro U s Z H Q I ⟨J,Hz,F,Y,r,R,hf,k⟩;cases hf;exact jKe _ s Z H Q I (k H (Same.refl H))
def jH1(h:DE X O E e fa):DO X O E (some e) (jdn fa):=by
 rintro U s Z H Q I ⟨J,Hz,F,Y,r,R,hf,k⟩;refine jKf h _ s Z H Q I ?_;refine bD R hf k fun x hf v H1 s1 r1=>?_
 obtain⟨o,ho,rfl⟩:=M.o_inv hf
 cases x with
 | int i=>cases ho;exact⟨i,rep_int.mp r1,k H1 s1⟩
 | _=>cases ho
def cutL{α:Type}(xs:List α)(lo hi:Option Int):List α:=(xs.drop (HT.sIx xs.length 0 lo)).take (HT.sIx xs.length xs.length hi-HT.sIx xs.length 0 lo)
noncomputable def cutD:D->Option Int->Option Int->Option D
 | .lst ds,lo,hi=>some (.lst (cutL ds lo hi))
 | .tup ds,lo,hi=>if HT.sIx ds.length 0 lo=0/\HT.sIx ds.length ds.length hi=ds.length then none else some (.tup (cutL ds lo hi))
 | .str x,lo,hi=>if x.length<=sizeLine then some (.str (Txt.slice x lo hi)) else none
 | _,_,_=>none
def rSlS:V->Option Int->Option Int->Hp->VK->Prop:=fun x lo hi H Q=>∃ z,x=.str z/\z.length<=sizeLine/\Q (.str (Txt.slice z lo hi)) H
def jPl:SlR X rSlS:=by
 intro U s Z H x v vl vu lo hi sl Q I rx hs pl pu h;obtain⟨z,rfl,hz,q⟩:=h;obtain⟨t,rfl⟩:=rx;have fin:∀ {l u:Option _},l.map _=lo->u.map _=hi->s.heap.IsSlice sl l u none->wpAny (model X.prog X.w) X.A (getItem (.str z t) _) _ X.xe s:=fun {l u} e1 e2 h=>by
  refine wpAny_getItem_str_slice h rfl ?_;have hw:∀ t' k,EP X _ Z Q (.str _ t') { s with toks:=k }:=fun t' k=>⟨.str _,H,I.tok _,⟨_,rfl⟩,q⟩
  rw[<- e1,<- e2] at hw;exact post_val_or_str ⟨zdz (Txt.slice_le z _ _) hz,hw⟩
 obtain⟨os,ho,hc,hd⟩:=hs;refine⟨_,_,PySem.F.slot_str_getitem.lookup,typeIs_str _ _ _,?_⟩
 cases pl with
 | none=>cases pu with
  | none=>exact fin (l:=none) (u:=none) rfl rfl ⟨os,ho,hc,hd⟩
  | int j tj=>exact fin (l:=none) (u:=some (j,tj)) rfl rfl ⟨os,ho,hc,hd⟩
 | int i ti=>cases pu with
  | none=>exact fin (l:=some (i,ti)) (u:=none) rfl rfl ⟨os,ho,hc,hd⟩
  | int j tj=>exact fin (l:=some (i,ti)) (u:=some (j,tj)) rfl rfl ⟨os,ho,hc,hd⟩
theorem Reps.take:∀ {ds:List D} {vs:List V} (n:Nat),Reps J K H ds vs->Reps J K H (ds.take n) (vs.take n)
 | _,_,0,_=>Reps.nil
 | [],_,n+1,h=>by rw[reps_nil.mp h];exact Reps.nil
 | d::ds,_,n+1,h=>by
  obtain⟨v,r,rfl,q,t⟩:=reps_cons.mp h;exact Reps.cons q (Reps.take n t)
theorem Reps.drop:∀ {ds:List D} {vs:List V} (n:Nat),Reps J K H ds vs->Reps J K H (ds.drop n) (vs.drop n)
 | _,_,0,h=>h
 | [],_,n+1,h=>by rw[reps_nil.mp h];exact Reps.nil
 | d::ds,_,n+1,h=>by
  obtain⟨v,r,rfl,q,t⟩:=reps_cons.mp h;exact Reps.drop n t
def Reps.cut(h:Reps J K H ds vs)(lo hi:Option Int):Reps J K H (cutL ds lo hi) (cutV vs lo hi):=by
 unfold cutL cutV;rw[h.length];exact (h.drop _).take _
def fSl(fa:DSt->M D)(fl fh:DSt->M (Option Int)):DSt->M D:=fun Y=>(fa Y).b fun x=>(fl Y).b fun lo=>(fh Y).b fun hi=>M.o (cutD x lo hi)
def jBx{fl fh:DSt->M (Option Int)}(ha:DE X O E e fa)(hl:DO X O E lo fl)(hh:DO X O E hi fh):DE X O E (.Subscript e (.Slice lo hi none p2) pos) (fSl fa fl fh):=by
 rintro U s Z H Q I ⟨J,Hz,F,Y,r,R,hf,k⟩;refine jDn (sl_list.or (sl_tup.or jPl)) ha hl hh _ s Z H Q I ?_;refine bD R hf k fun x hf v H1 s1 r1=>?_
 refine bDB (R.mono s1) hf k fun l hf H2 s2=>?_
 refine bDB (R.mono (s1.trans s2)) hf k fun h hf H3 s3=>?_
 obtain⟨d,hd,rfl⟩:=M.o_inv hf;have r3:=r1.mono (jad (s2.trans s3));have R3:=R.mono (s1.trans (s2.trans s3));have sm:=s1.trans (s2.trans s3)
 cases x with
 | lst ds =>
  cases hd;obtain⟨q,xs,rfl,q2,q3⟩:=rep_lst.mp r3;exact .inl ⟨q,xs,rfl,jcj jaf q2,fun p hp=>k _ _ (sm.trans (jal hp)) (jcq hp (R3.fresh hp) (q3.cut l h))⟩
 | tup ds =>
  have hd':(if HT.sIx _ 0 l=0/\HT.sIx _ _ h=ds.length then none else some _)=some d:=hd
  split at hd'
  .cases hd'
  .rename_i hn;cases hd';obtain⟨q,xs,rfl,q2,q3⟩:=rep_tup.mp r3;exact .inr (.inl ⟨q,xs,rfl,jcb jaf q2,by rw[q3.length];exact hn,fun p hp=>k _ _ (sm.trans (jal hp)) (jbc hp (R3.fresh hp) (q3.cut l h))⟩)
 | str z =>
  have hd':(if z.length<=sizeLine then some _ else none)=some d:=hd
  split at hd'
  .rename_i hz;cases hd';exact .inr (.inr ⟨z,rep_str.mp r3,hz,k _ _ sm (rep_str.mpr rfl)⟩)
  .cases hd'
 | _=>cases hd
def flatD:D->Bool
 | .non=>true
 | .bl _=>true
 | .int _=>true
 | .str _=>true
 | _=>false
def inD(x:D)(ds:List D):Bool:=ds.any fun y=>eqB y x
def gIn:D->D->Option D:=fun x y=>match seqD y with
 | some ds=>if (flatD x&&ds.all flatD)=true then some (.bl (inD x ds)) else none
 | none=>none
def gNotIn:D->D->Option D:=fun x y=>match seqD y with
 | some ds=>if (flatD x&&ds.all flatD)=true then some (.bl !(inD x ds)) else none
 | none=>none
def jnn(h:flatD d=true)(r:Rep J K H d v):jmi v=true:=by
 cases d with
 | non=>cases rep_non.mp r;rfl
 | bl _=>cases rep_bl.mp r;rfl
 | int _=>cases rep_int.mp r;rfl
 | str _=>cases rep_str.mp r;rfl
 | _=>cases h
def jId{d e:D}(h:flatD d=true)(h2:flatD e=true)(r:Rep J K H d v)(r2:Rep J K H e u):eqV v u=eqB d e:=by
 cases d with
 | non=>cases rep_non.mp r;(cases e with
  | non=>cases rep_non.mp r2;rfl
  | bl _=>cases rep_bl.mp r2;rfl
  | int _=>cases rep_int.mp r2;rfl
  | str _=>cases rep_str.mp r2;rfl
  | _=>cases h2)
 | bl _=>cases rep_bl.mp r;(cases e with
  | non=>cases rep_non.mp r2;rfl
  | bl _=>cases rep_bl.mp r2;rfl
  | int _=>cases rep_int.mp r2;rfl
  | str _=>cases rep_str.mp r2;rfl
  | _=>cases h2)
 | int _=>cases rep_int.mp r;(cases e with
  | non=>cases rep_non.mp r2;rfl
  | bl _=>cases rep_bl.mp r2;rfl
  | int _=>cases rep_int.mp r2;rfl
  | str _=>cases rep_str.mp r2;rfl
  | _=>cases h2)
 | str _=>cases rep_str.mp r;(cases e with
  | non=>cases rep_non.mp r2;rfl
  | bl _=>cases rep_bl.mp r2;rfl
  | int _=>cases rep_int.mp r2;rfl
  | str _=>cases rep_str.mp r2;rfl
  | _=>cases h2)
 | _=>cases h
theorem jxr(hx:flatD x=true)(rx:Rep J K H x v):∀ {ds:List D} {vs:List V},ds.all flatD=true->Reps J K H ds vs->vs.all jmi=true/\inV v vs=inD x ds
 | [],_,_,h=>by rw[reps_nil.mp h];exact⟨rfl,rfl⟩
 | d::ds,_,ha,h=>by
  obtain⟨u,r,rfl,q,t⟩:=reps_cons.mp h;rw[List.all_cons,Bool.and_eq_true] at ha;obtain⟨i1,i2⟩:=jxr hx rx ha.2 t;refine⟨by rw[List.all_cons,jnn ha.1 q,i1];rfl,?_⟩;unfold inV inD at i2 |-
  rw[List.any_cons,List.any_cons,jId ha.1 hx q rx,i2]
def jOi:OpD X.K gIn (rIn X.K false):=by
 intro x y d hd J H G u v Q hG ru rv k;unfold gIn at hd
 split at hd
 .rename_i ds hs
  split at hd
  .rename_i hz;cases hd;rw[Bool.and_eq_true] at hz;obtain⟨kk,l,xs,rfl,q1,q2⟩:=jqi hs rv;obtain⟨i1,i2⟩:=jxr hz.1 ru hz.2 q2;refine⟨l,xs,rfl,?_,jnn hz.1 ru,i1,k _ H (Same.refl H) (rep_bl.mpr (by rw[i2];rfl))⟩
   cases kk with
   | true=>exact .inr (jcb jaf (sqv_t.mp q1))
   | false=>exact .inl (jcj jaf (sqv_l.mp q1))
  .cases hd
 .cases hd
def jy9:OpD X.K gNotIn (rIn X.K true):=by
 intro x y d hd J H G u v Q hG ru rv k;unfold gNotIn at hd
 split at hd
 .rename_i ds hs
  split at hd
  .rename_i hz;cases hd;rw[Bool.and_eq_true] at hz;obtain⟨kk,l,xs,rfl,q1,q2⟩:=jqi hs rv;obtain⟨i1,i2⟩:=jxr hz.1 ru hz.2 q2;refine⟨l,xs,rfl,?_,jnn hz.1 ru,i1,k _ H (Same.refl H) (rep_bl.mpr (by rw[i2];rfl))⟩
   cases kk with
   | true=>exact .inr (jcb jaf (sqv_t.mp q1))
   | false=>exact .inl (jcj jaf (sqv_l.mp q1))
  .cases hd
 .cases hd
def scalD:D->Bool
 | .non=>true
 | .bl _=>true
 | .int _=>true
 | .str _=>true
 | .ty _=>true
 | .obj _=>true
 | _=>false
def jM5(f:DSt->M D):DSt->M D:=fun Y=>(f Y).b fun d=>if scalD d=true then M.p d else none
def jkt(h:scalD d=true)(r:Rep J K H d v):Rep J K H' d v:=by
 cases d with
 | non=>exact rep_non.mpr (rep_non.mp r)
 | bl _=>exact rep_bl.mpr (rep_bl.mp r)
 | int _=>exact rep_int.mpr (rep_int.mp r)
 | str _=>exact rep_str.mpr (rep_str.mp r)
 | ty _=>exact rep_ty.mpr (rep_ty.mp r)
 | obj _=>exact rep_obj.mpr (rep_obj.mp r)
 | _=>cases h
def jH8(hO:∀ i∈O',i∈O)(h:DT X O' E e t):DT X O E e t:=by
 rintro U s Z H Q I ⟨J,Hz,F,Y,r,R,hf,k⟩;refine h _ s Z H Q I ⟨J,_,F,Y,r,R.thaw hO,hf,?_⟩;omega
def gAug(i:Nat)(g:D->D->Option D)(f:DSt->M D):DSt->M Out:=fun Y=>(M.o (Y[i]?).join).b fun x=>(f Y).b fun y=>(M.o (g x y)).b fun d=>M.p (.nx (Y.set i (some d)))
end
theorem Reps.set(hr:Rep J K H d v):∀ {ds:List D} {vs:List V} (j:Nat),Reps J K H ds vs->Reps J K H (ds.set j d) (vs.set j v)
 | [],_,j,h=>by rw[reps_nil.mp h];exact Reps.nil
 | e::ds,_,0,h=>by
  obtain⟨u,r,rfl,q,t⟩:=reps_cons.mp h;exact Reps.cons hr t
 | e::ds,_,j+1,h=>by
  obtain⟨u,r,rfl,q,t⟩:=reps_cons.mp h;exact Reps.cons q (Reps.set hr j t)
section
variable {X:Cx}
def jMl(hN:X.N.Nodup)(hop:OpR X (inplaceOp op) r)(hg:OpD X.K g r)(he:DE X O E e fa)(ho:O.contains i=false)(hi:X.N[i]? = some x)(hx:Loc X.env.scope x)
  (hf:X.fn x=true\/X.env.scope.names.lookup x=some .local):DS X O O B E (.AugAssign (.Name x pos') op e pos) (gAug i g fa):=by
 rintro U s Z H Dn I ⟨J,Hz,F,Y,rr,R,hgg,k⟩;have ho':i∉O:=fun z=>by grind
 refine jOy hN hi hx he (fun U s Z H x y v u Q I rx ry q=>hop _ s Z H x y v u Q I rx ry q) hf _ s Z H Dn I ?_;rcases M.b_inv hgg with ⟨x0,e0,hgg⟩|⟨y,e0,rfl⟩
 .obtain⟨x1,hx1,ee⟩:=M.o_inv e0;cases ee;obtain⟨v,q1,q2⟩:=R.val i x0 (join_some hx1) ho';refine⟨v,q1,?_⟩;refine bD R hgg k fun y hgg u H1 s1 r1=>?_
  rcases M.b_inv hgg with ⟨d,e2,hgg⟩|⟨z,e2,rfl⟩
  .cases hgg;obtain⟨d1,hd1,ee⟩:=M.o_inv e2;cases ee;exact hg x0 y d hd1 J H1 _ v u _ (fun p hp=>(R.mono s1).fresh hp) (q2.mono (jad s1)) r1 fun w H2 s2 r2=>k _ H2 (joj ho' (s1.trans s2)) ((R.mono (s1.trans s2)).set ho' r2)
  .obtain⟨_,_,ee⟩:=M.o_inv e2;cases ee
 .obtain⟨_,_,ee⟩:=M.o_inv e0;cases ee
def jFk(i:Nat)(fi fv:DSt->M D):DSt->M Out:=fun Y=>(fv Y).b fun d=>(fi Y).b fun k=>match (Y[i]?).join,k with
 | some (.lst ds),.int k=>match ixN ds.length k with
  | some j=>M.p (.nx (Y.set i (some (.lst (ds.set j d)))))
  | none=>none
 | _,_=>none
def jB3(ho:O.contains i=true)(hix:DE X O E ix fb)(he:DE X O E e fa)(hi:X.N[i]? = some x)(hv:Vis X.env.scope x)
  (hd:(x == ("__debug__":Str))=false) (hcd:(x == ("__classdict__":Str))=false)
  (ha:∀ v,assign (.Subscript (.Name x p1) ix p2) X.env v=(do
   let ov <- holding [v] (eval (.Name x p1) X.env)
   let iv <- holding [v,ov] (eval ix X.env)
   standAt p2
   holding [v,ov,iv] (setItem ov iv v)
   release [v,ov,iv] []))
  (hs:swapsWithSole [.Subscript (.Name x p1) ix p2] e pos.line X.env=pure false) (hw:swappedStores [.Subscript (.Name x p1) ix p2] e X.env=pure none)
  (h1:(assignEach [.Subscript (.Name x p1) ix p2] X.env).map (·.2)=[assign (.Subscript (.Name x p1) ix p2) X.env]):DS X O O B E (.Assign [.Subscript (.Name x p1) ix p2] e pos) (jFk i fb fa):=by
 rintro U s Z H Dn I ⟨J,Hz,F,Y,r,R,hg,k⟩;have ho':=zbc.mp ho;refine jOx he (jOs (jl1 hi hv hd hcd) hix jEb ha) hs hw h1 _ s Z H Dn I ?_;refine bD R hg k fun d hg v H1 s1 r1=>?_
 obtain⟨l,xs0,ds0,q1,q2,q3,q4,q5⟩:=(R.mono s1).own i ho';refine⟨_,q2,?_⟩;refine bD (R.mono s1) hg k fun kk hg w H2 s2 r2=>?_
 have R2:=R.mono (s1.trans s2);obtain⟨l',xs,ds,p1,p2,p3,p4,p5⟩:=R2.own i ho';rw[q2] at p2;cases p2
 rw[q1] at p1;cases p1
 have hj:(Y[i]?).join=some (.lst ds0):=by rw[q1];rfl
 rw[hj] at hg
 cases kk with
 | int n =>
  dsimp only at hg
  cases hjx:ixN _ n with
  | none=>rw[hjx] at hg;cases hg
  | some j =>
   rw[hjx] at hg;cases hg;refine⟨l,xs,n,j,rfl,rep_int.mp r2,p3,by rw[p5.length];exact hjx,?_⟩;refine k Z _ ?_ (R2.write ho' q2 (p5.set (r1.mono (jad s2)) j));rw[jdr (fob_t.mpr (.inr ⟨i,ho',q2⟩))];exact jad (s1.trans s2)
 | _=>cases hg
def gAsg(h:D->DSt->Option DSt)(f:DSt->M D):DSt->M Out:=fun Y=>(f Y).b fun d=>match h d Y with
 | some Y'=>M.p (.nx Y')
 | none=>none
def ju3(i j l:Nat):D->DSt->Option DSt:=fun d Y=>match d with
 | .tup [x,y,z]=>some (((Y.set i (some x)).set j (some y)).set l (some z))
 | _=>none
def jHw(hc:X.calm=true)(hN:X.N.Nodup)(a:NmOk X O i x)(b:NmOk X O j y)(c:NmOk X O l z):DG X O (.Tuple [.Name x px,.Name y py,.Name z pz] kk pos) (ju3 i j l) :=
 jre (is:=[i,j,l]) (ps:=[(x,px),(y,py),(z,pz)]) hc hN ⟨a,b,c,trivial⟩ (fun d Y Y' e=>by unfold ju3 at e;split at e<;>cases e;exact⟨_,rfl,rfl⟩) rfl rfl
def SmR(X:Cx)(name:Str)(r:Str->V->Hp->VK->Prop):Prop:=∀ (U:qb) (s:Shared) (Z:St) (x:Str) (t:Tok) (pos:Pos) (a:Sem Value) (Q:VK),
 wpAny (model X.prog X.w) X.A a (fun v s₁=>∃ y H1,Inv X U Z H1 s₁/\RelV y v/\r x y H1 Q) X.xe s->MethodOnS X.prog X.w X.A X.xe name (.str x t) pos [(false,a)] (EP X U Z Q) s
def SmD(K:W.Frag)(g:Str->D->Option D)(r:Str->V->Hp->VK->Prop):Prop:=∀ x y d,g x y=some d->∀ (J:Rho) (H:Hp) (G:qd) v (Q:VK),(∀ p,H p=none->G p=false)->Rep J K (hid H G) y v->(∀ w H',Same H H'->Rep J K (hid H' G) d w->Q w H')->r x v H Q
def fSm(g:Str->D->Option D)(fo fe:DSt->M D):DSt->M D:=fun Y=>(fo Y).b fun x=>match x with
 | .str z=>(fe Y).b fun y=>M.o (g z y)
 | _=>none
def jQs(hr:SmR X name r)(hg:SmD X.K g r)(ho:DE X O E o fo)(he:DE X O E e fe)(hbase:attributeBase o name X.env (eval o X.env)=eval o X.env)(hs:starEach [e] X.env=[(false,eval e X.env)])(hline:(apos.endLine == pos.line)=true) :
  DE X O E (.Call (.Attribute o name apos) [e] [] pos) (fSm g fo fe):=by
 rintro U s Z H Q I ⟨J,Hz,F,Y,rr,R,hf,k⟩;refine Call_method1 hbase hs hline (thn (ho _ s Z H (fun v H1=>∃ z,v=.str z/\tD X.K O E fe Z H1 fun y H2=>r z y H2 Q) I ?_) fun u s1 ⟨v,H1,I1,rv,z,hz,q⟩=>?_)
 .refine bD R hf k fun x hf u H1 s1 r1=>?_
  cases x with
  | str z =>
   refine⟨z,rep_str.mp r1,?_⟩;refine bD (R.mono s1) hf k fun y hf v H2 s2 r2=>?_
   obtain⟨d,hd,rfl⟩:=M.o_inv hf;exact hg z y d hd J H2 _ v Q (fun p hp=>(R.mono (s1.trans s2)).fresh hp) r2 fun w H3 s3 r3=>k w H3 (s1.trans (s2.trans s3)) r3
  | _=>cases hf
 .subst hz;obtain⟨t,rfl⟩:=rv;exact hr _ s1 Z z t pos _ Q (thn (he _ s1 Z H1 _ I1 q) fun u s2 ⟨y,H2,I2,ry,q2⟩=>⟨y,H2,I2,ry,q2⟩)
def gStarts(x:Str):D->Option D
 | .str y=>some (.bl (Txt.startswith x y))
 | _=>none
def jAk:SmR X "startswith" (fun x y H Q=>∃ z,y=.str z/\Q (.bl (Txt.startswith x z)) H):=fun U s Z x t pos a Q h=>SB.startswith (thn h fun v s1 ⟨y,H1,I1,ry,z,hz,q⟩=>by
 subst hz;obtain⟨u,rfl⟩:=ry;exact⟨z,u,rfl,.bl _,H1,I1,rfl,q⟩)
def jv0:SmD X.K gStarts (fun x y H Q=>∃ z,y=.str z/\Q (.bl (Txt.startswith x z)) H):=by
 intro x y d hd J H G v Q hG rv k
 cases y with
 | str z=>cases hd;exact⟨z,rep_str.mp rv,k _ H (Same.refl H) (rep_bl.mpr rfl)⟩
 | _=>cases hd
def gZfill(x:Str):D->Option D
 | .int i=>if PadOk i=true then some (.str (Txt.zfill x i)) else none
 | _=>none
def jEf:SmR X "zfill" (fun x y H Q=>∃ i,y=.int i/\PadOk i=true/\Q (.str (Txt.zfill x i)) H):=fun U s Z x t pos a Q h=>SB.zfill (thn h fun v s1 ⟨y,H1,I1,ry,i,hi,hp,q⟩=>by
 subst hi;obtain⟨u,rfl⟩:=ry;exact⟨i,u,rfl,hp,fun t' k=>⟨.str _,H1,I1.tok _,⟨_,rfl⟩,q⟩⟩)
def jAm:SmD X.K gZfill (fun x y H Q=>∃ i,y=.int i/\PadOk i=true/\Q (.str (Txt.zfill x i)) H):=by
 intro x y d hd J H G v Q hG rv k
 cases y with
 | int i =>
  have hd':(if PadOk i=true then some _ else none)=some d:=hd
  split at hd'
  .rename_i hp;cases hd';exact⟨i,rep_int.mp rv,hp,k _ H (Same.refl H) (rep_str.mpr rfl)⟩
  .cases hd'
 | _=>cases hd
def kStr:List D->Option D
 | [.int i]=>if i.natAbs.log2<1920 then some (.str (toString i)) else none
 | _=>none
def jHb:CaD X.K kStr (fun xs H Q=>∃ i,xs=[.int i]/\i.natAbs.log2<1920/\Q (.str (toString i)) H):=by
 intro xs d hd J H G us Q hG ru k;unfold kStr at hd
 split at hd
 .split at hd
  .rename_i i hz;cases hd;obtain⟨v,rfl,q1⟩:=jhl ru;cases rep_int.mp q1;exact⟨_,rfl,hz,k _ H (Same.refl H) (rep_str.mpr rfl)⟩
  .cases hd
 .cases hd
noncomputable def kIntT:List D->Option D
 | [.int i]=>some (.int i)
 | [.bl k]=>some (.int (if k then 1 else 0))
 | [.str x]=>if x.length<=640 then (PySem.intText? x).map .int else none
 | _=>none
def jwm:CallR X (.type "int") (fun xs H Q=>((∃ i,xs=[.int i]/\Q (.int i) H)\/∃ k,xs=[.bl k]/\Q (.int (if k then 1 else 0)) H)\/∃ x n,xs=[.str x]/\x.length<=640/\PySem.intText? x=some n/\Q (.int n) H) :=
 call_int1.or (by
  intro U s Z H xs us Q I r h;obtain⟨x,n,rfl,hl,hn,q⟩:=h;obtain⟨u,rfl,t,rfl⟩:=r.one;exact W.KIN.call_text hn hl ⟨.int n,H,I.tok _,⟨_,rfl⟩,q⟩)
def jBj:CaD X.K kIntT (fun xs H Q=>((∃ i,xs=[.int i]/\Q (.int i) H)\/∃ k,xs=[.bl k]/\Q (.int (if k then 1 else 0)) H)\/∃ x n,xs=[.str x]/\x.length<=640/\PySem.intText? x=some n/\Q (.int n) H):=by
 intro xs d hd J H G us Q hG ru k;unfold kIntT at hd
 split at hd
 .cases hd;obtain⟨v,rfl,q1⟩:=jhl ru;cases rep_int.mp q1;exact .inl (.inl ⟨_,rfl,k _ H (Same.refl H) (rep_int.mpr rfl)⟩)
 .cases hd;obtain⟨v,rfl,q1⟩:=jhl ru;cases rep_bl.mp q1;exact .inl (.inr ⟨_,rfl,k _ H (Same.refl H) (rep_int.mpr rfl)⟩)
 .split at hd
  .rename_i x hz;obtain⟨v,rfl,q1⟩:=jhl ru;cases rep_str.mp q1
   cases e:PySem.intText? x with
   | none=>grind
   | some n =>
    rw[e] at hd;cases hd;exact .inr ⟨x,n,rfl,hz,e,k _ H (Same.refl H) (rep_int.mpr rfl)⟩
  .cases hd
 .cases hd
def jBv(hg:Gl X x)(hm:X.mg x=some (.str z t))(hd:(x == ("__debug__":Str))=false):DE X O E (.Name x pos) (fC (.str z)) :=
 jjz (t:=tC (.str z)) (v:=.str z) (joc hg hm ⟨t,rfl⟩ hd) fun _ _=>rep_str.mpr rfl
end
end DL
namespace L2
open PyProof.Rows
section
variable {X:Cx}
def iRg3(ta:TA):TI:=fun Z H R=>ta Z H fun vs H1=>∃ i j k:Int,vs=[.int i,.int j,.int k]/\0<k/\k<2 ^ 60/\R (Itv (fun n=>.int (i+(n:Nat)*k)) (Builtin.Range.rangeSize i j k).toNat) H1
def jzl(hg:Gl X "range")(hm:X.mg "range"=none)(ha:PA X (a::es) ta)(hs:starEach (a::es) X.env=(false,eval a X.env)::starEach es X.env)(hp:zbT pos es X.env) :
  PI X tg (.Call (.Name "range" p) (a::es) [] pos) (iRg3 ta):=by
 intro U s Z H R I h;refine Call_ (jj5 I hg hm boot_range (PyProof.Rows.callWith_type1 (thn (ha pos _ s Z H _ I h) fun us s1 hzz=>?_) hs hp));obtain⟨vs,H1,I1,r1,q1⟩:=hzz;obtain⟨i,j,k,e,hk,hk2,q⟩:=q1;subst e
 cases r1 with
 | cons p1 r1 =>
  cases r1 with
  | cons p2 r1 =>
   cases r1 with
   | cons p3 r1 =>
    cases r1;obtain⟨t1,rfl⟩:=p1;obtain⟨t2,rfl⟩:=p2;obtain⟨t3,rfl⟩:=p3;refine call_range_3 (by omega) (jod I1 hk q) (.inl (PyProof.noPylong_of_log2 ?_));have:k.natAbs<2 ^ 60:=by omega
    exact Nat.lt_trans ((Nat.log2_lt (by omega)).mpr this) (by decide)
end
end L2
namespace DL
open L2
section
variable {X:Cx}
def jb9(lo:Int)(st:Int)(n:Nat):List D:=(List.range n).map fun i=>.int (lo+(i:Nat)*st)
noncomputable def jd2:List D->Option (List D)
 | [.int i,.int j,.int k]=>if 0<k/\k<2 ^ 60 then some (jb9 i k (Builtin.Range.rangeSize i j k).toNat) else none
 | _=>none
def jw8(hg:Gl X "range")(hm:X.mg "range"=none)(ha:DA X O E (a::es) fl)(hs:starEach (a::es) X.env=(false,eval a X.env)::starEach es X.env)(hp:zbT pos es X.env) :
  DI X O E tg (.Call (.Name "range" p) (a::es) [] pos) (jby jd2 fl):=by
 rintro U s Z H R I ⟨J,Hz,F,Y,r,RS0,hf,k⟩;refine jzl hg hm ha hs hp _ s Z H R I ?_;refine bD RS0 hf k fun d hf vs H1 s1 r1=>?_
 obtain⟨ds,hd,rfl⟩:=M.o_inv hf;unfold jd2 at hd
 split at hd
 .rename_i i0 j kk
  split at hd
  .rename_i hk;cases hd;obtain⟨v,r',rfl,q1,q2⟩:=reps_cons.mp r1;obtain⟨v2,r2,rfl,q3,q4⟩:=reps_cons.mp q2;obtain⟨v3,r3,rfl,q5,q6⟩:=reps_cons.mp q4;cases reps_nil.mp q6;cases rep_int.mp q1;cases rep_int.mp q3;cases rep_int.mp q5;refine⟨i0,j,kk,rfl,hk.1,hk.2,k _ H1 s1 ?_⟩;refine jto (by unfold jb9;simp) fun i d hd H=>?_
   unfold jb9 at hd;rw[zba] at hd
   cases q:(List.range _)[i]? with
   | none=>rw[q] at hd;cases hd
   | some m =>
    rw[q] at hd;have:=by
     have:=(zbb.mp q).2;simpa using this.symm
    subst this;cases hd;exact rep_int.mpr rfl
  .cases hd
 .cases hd
def blsD:List D->Option (List Bool)
 | []=>some []
 | .bl b::ds=>(blsD ds).map (b::·)
 | _::_=>none
theorem jwg:∀ {ds:List D} {ns:List Bool},blsD ds=some ns->ds=ns.map .bl
 | [],_,h=>by cases h;rfl
 | .bl i::ds,ns,h=>by
  unfold blsD at h
  cases e:blsD ds with
  | none=>rw[e] at h;cases h
  | some ms=>rw[e] at h;cases h;rw[jwg e];rfl
 | .non::_,_,h=>by cases h
 | .int _::_,_,h=>by cases h
 | .str _::_,_,h=>by cases h
 | .ty _::_,_,h=>by cases h
 | .obj _::_,_,h=>by cases h
 | .tup _::_,_,h=>by cases h
 | .lst _::_,_,h=>by cases h
theorem reps_bls:∀ {ns:List Bool} {vs:List V},Reps J K H (ns.map .bl) vs↔vs=ns.map V.bl
 | [],vs=>reps_nil
 | n::ns,vs=>by
  constructor
  .rintro⟨v,r,rfl,h1,h2⟩;rw[rep_bl.mp h1,reps_bls.mp h2];rfl
  .rintro rfl;exact⟨_,_,rfl,rep_bl.mpr rfl,reps_bls.mpr rfl⟩
def kAll:List D->Option D
 | [.lst ds]=>(blsD ds).map fun ns=>.bl (ns.all id)
 | _=>none
def jwe(ns:List Bool):(List.range ns.length).all (fun i=>ns.getD i true)=ns.all id:=by
 induction ns with
 | nil=>rfl
 | cons n ns ih =>
  rw[List.length_cons,List.range_succ_eq_map,List.all_cons,List.all_map,List.all_cons];congr 1
def jwl(hc:X.calm=true):CallR X (.builtin "all") (fun xs H Q=>∃ p,∃ ns:List Bool,xs=[.ref p]/\SqL X.K H p (ns.map V.bl)/\Q (.bl (ns.all id)) H):=by
 intro U s Z H xs us Q I r h;obtain⟨p,ns,rfl,hq,q⟩:=h;obtain⟨u,rfl,rx⟩:=r.one;cases rx;obtain⟨its,rv,src,hz⟩:=I.list hq;have hl:=rv.length;rw[zav] at hl;have hh:X.A.in1.handled=none:=I.ok.hd hc;have src':=src.isList;refine call_all_walk ?_;refine wpAny_pyIter_list src' ?_;refine⟨_,_,_,_,_,_,(fun i=>ns.getD i true),rfl,Walks.list hh _ p (zcw (by obtain⟨o,e,_⟩:=src';exact zbv e)) _,⟨⟨_,zbz _ rfl,rfl,rfl⟩,src'.at fun o e=>zaz _ e⟩,fun i v s' Q' E' hP hQ=>?_,fun h' tk kp=>?_⟩
 .have e:=hP;have hi:i<ns.length:=by rw[hl];have:=(Array.getElem?_eq_some_iff.mp e).1;simpa using this
  obtain⟨v',e1,r1⟩:=rv.get (by rw[zba,zax hi];rfl);have:=by
   have e':=by simpa using e
   rw[e'] at e1;exact zby e1
  subst this;subst r1;refine wpAny_truthy_bool ?_;dsimp only at hQ;rw[List.getD_eq_getElem?_getD,zax hi] at hQ;exact hQ
 .refine⟨_,H,I.kept fun b o e=>kp b o ?_ (zaz _ e),?_,q⟩
  .intro z;have:=by simpa using z
   rw[this] at e;exact absurd (zbv e) (Nat.lt_irrefl _)
  .have:its.toArray.size=ns.length:=by rw[zbx];omega
   rw[this,jwe];rfl
def jG8:CaD X.K kAll (fun xs H Q=>∃ p,∃ ns:List Bool,xs=[.ref p]/\SqL X.K H p (ns.map V.bl)/\Q (.bl (ns.all id)) H):=by
 intro xs d hd J H G us Q hG ru k;unfold kAll at hd
 split at hd
 .rename_i ds
  cases e:blsD ds with
  | none=>grind
  | some ns =>
   rw[e] at hd;cases hd;obtain⟨v,rfl,q⟩:=jhl ru;obtain⟨l,ys,rfl,q1,q2⟩:=rep_lst.mp q;rw[jwg e] at q2;rw[reps_bls.mp q2] at q1;exact⟨l,ns,rfl,jcj jaf q1,k _ H (Same.refl H) (rep_bl.mpr rfl)⟩
 .cases hd
def strsD:List D->Option (List Str)
 | []=>some []
 | .str b::ds=>(strsD ds).map (b::·)
 | _::_=>none
theorem jon:∀ {ds:List D} {ns:List Str},strsD ds=some ns->ds=ns.map .str
 | [],_,h=>by cases h;rfl
 | .str i::ds,ns,h=>by
  unfold strsD at h
  cases e:strsD ds with
  | none=>rw[e] at h;cases h
  | some ms=>rw[e] at h;cases h;rw[jon e];rfl
 | .non::_,_,h=>by cases h
 | .int _::_,_,h=>by cases h
 | .bl _::_,_,h=>by cases h
 | .ty _::_,_,h=>by cases h
 | .obj _::_,_,h=>by cases h
 | .tup _::_,_,h=>by cases h
 | .lst _::_,_,h=>by cases h
def jAu(ns:List Str):strsD (ns.map .str)=some ns:=by
 induction ns<;>grind [List.map_cons,strsD]
theorem reps_strs:∀ {ns:List Str} {vs:List V},Reps J K H (ns.map .str) vs↔vs=ns.map V.str
 | [],vs=>reps_nil
 | n::ns,vs=>by
  constructor
  .rintro⟨v,r,rfl,h1,h2⟩;rw[rep_str.mp h1,reps_strs.mp h2];rfl
  .rintro rfl;exact⟨_,_,rfl,rep_str.mpr rfl,reps_strs.mpr rfl⟩
def jgp(x:Str):D->Option D
 | .lst ds=>match strsD ds with
  | some ys=>if (ys.map (·.length)).sum+ys.length*x.length<=16777216 then some (.str (Txt.join x ys)) else none
  | none=>none
 | _=>none
theorem jqx:∀ {ys:List Str} {us:List Value},Vals (ys.map V.str) us->PyProof.Rows.StrsAre us ys
 | [],_,h=>by cases h;exact .nil
 | y::ys,_,h=>by
  cases h with
  | cons r t =>
   obtain⟨tk,rfl⟩:=r;exact .cons y tk (jqx t)
def jR1(K:W.Frag):V->List V->Hp->VK->Prop:=fun x vs H Q=>∃ z l ys,x=.str z/\vs=[.ref l]/\SqL K H l (ys.map V.str)/\(ys.map (·.length)).sum+ys.length*z.length<=16777216/\Q (.str (Txt.join z ys)) H
def jJi:MtR X "str.join" (jR1 X.K):=by
 intro U s Z H x xs v us Q I rx rxs h;obtain⟨z,l,ys,rfl,rfl,hq,hz,q⟩:=h;obtain⟨t,rfl⟩:=rx;obtain⟨u,rfl,ru⟩:=rxs.one;cases ru;obtain⟨its,rv,src,_⟩:=I.list hq;exact PyProof.Rows.join_list src.isList (by grind [jqx]) hz fun t' k=>⟨.str _,H,I.tok _,⟨_,rfl⟩,q⟩
def jHs(ho:DE X O E o fo)(he:DE X O E e fe)(hbase:attributeBase o "join" X.env (eval o X.env)=eval o X.env)
  (hfew:((backTo pos (starEach [e] X.env)).all (fun x=>!x.1)&&(backToKw pos (keywordEach [] X.env)).all (fun x=>x.1.isSome)
   && decide ([e].length+([]:List Keyword).length+(if ([]:List Keyword).isEmpty then 0 else 1)<30))=true)
  (hline:(apos.endLine == pos.line)=true) (hs:starEach [e] X.env=[(false,eval e X.env)]):DE X O E (.Call (.Attribute o "join" apos) [e] [] pos) (fSm jgp fo fe):=by
 rintro U s Z H Q I ⟨J,Hz,F,Y,rr,R,hf,k⟩;refine jvl PySem.F.plainAttrs_str PySem.F.slot_str_join PySem.F.type_str_join jJi ho (jet he jht hs) hbase hfew hline hs rfl _ s Z H Q I ?_;refine bD R hf k fun x hf u H1 s1 r1=>?_
 cases x with
 | str z =>
  cases rep_str.mp r1;refine⟨rfl,?_⟩;refine bD (R.mono s1) hf k fun y hf v H2 s2 r2=>?_
  obtain⟨d,hd,rfl⟩:=M.o_inv hf
  cases y with
  | lst ds =>
   unfold jgp at hd;dsimp only at hd
   cases e3:strsD ds with
   | none=>grind
   | some ys =>
    rw[e3] at hd;dsimp only at hd
    split at hd
    .rename_i hz;cases hd;obtain⟨l,us,rfl,q1,q2⟩:=rep_lst.mp r2;rw[jon e3] at q2;rw[reps_strs.mp q2] at q1;exact⟨z,l,ys,rfl,rfl,jcj jaf q1,hz,k _ H2 (s1.trans s2) (rep_str.mpr rfl)⟩
    .cases hd
  | _=>cases hd
 | _=>cases hf
end
end DL
namespace L2
open PyProof.Rows
def jkg:fillsNumberSlot (.type "tuple") "mul"=pure false :=
 PySem.fillsNumberSlot_seq PySem.F.slot_tuple_mul.lookup (by decide +kernel) PySem.F.slot_tuple_rmul.lookup (by decide +kernel)
def jqc:seqRepeat? (.type "tuple")=pure (some (.builtin "tuple.__mul__")):=by
 rfl
def jmo(a:Int)(t:Tok)(l:Addr)(items:Array Value)(n:Nat)(dd:Option Addr)(sl:qe) :
  Meets (Builtin.«int.__rmul__» ⟨[.int a t,.ref l],[]⟩) (fun _ R s=>s.heap.get? l=some { cls:=.type "tuple",dict:=dd,data:=.seq items n,slots:=sl }/\R (.ok (.ret Value.notImplemented)) s) :=
 .of_wp fun prog w A R s h=>by obtain⟨hl,h⟩:=h;wp_walk;exact⟨_,rfl,h⟩
def jv5(l:Addr)(items:Array Value)(n:Nat)(u:Tok)(dd:Option Addr)(sl:qe)(hne:items.isEmpty=false) :
  Meets (Builtin.«tuple.__mul__» ⟨[.ref l,.int 1 u],[]⟩) (fun _ R s=>s.heap.get? l=some { cls:=.type "tuple",dict:=dd,data:=.seq items n,slots:=sl }/\R (.ok (.ret (.ref l))) s) :=
 .of_wp fun prog w A R s h=>by
  obtain⟨hl,h⟩:=h
  wp_walk
  exact⟨_,rfl,h⟩
def jv6(l:Addr)(items:Array Value)(n:Nat)(k:Int)(u:Tok)(dd:Option Addr)(sl:qe)(hne:items.isEmpty=false)(h2:2<=k)(h3:k<=1000)(hsz:items.size*k.toNat<=100000) :
  Meets (Builtin.«tuple.__mul__» ⟨[.ref l,.int k u],[]⟩) (fun _ R s=>s.heap.get? l=some { cls:=.type "tuple",dict:=dd,data:=.seq items n,slots:=sl }/\R (.ok (.ret (.ref s.heap.objs.size))) { s with heap:=s.heap.push { cls:=.type "tuple",data:=.seq (List.foldl (fun x1 x2=>x1++x2) #[] (List.replicate k.toNat items)) } }) :=
 .of_wp fun prog w A R s h=>by
  obtain⟨hl,h⟩:=h;have c1:(decide (k < -(2 ^ 63)) || decide (k >= 2 ^ 63))=false:=by simp;lia
  have c2:(items.isEmpty || k == 1)=false:=by rw[hne];simp;lia
  have c3:(decide (k<=0) || items.isEmpty)=false:=by rw[hne];simp;lia
  obtain⟨m,rfl⟩:=Int.eq_ofNat_of_zero_le (show 0<=k by lia);have hsz':=by simpa using hsz
  have c5:Builtin.Tuple.tupleTooMany ((items.size)*(m))=false:=by
   unfold Builtin.Tuple.tupleTooMany;simp[sizeLine]
   lia
  refine wpAny_ite_false (decide_eq_false (by simp_all)) ?_
  wp_walk
  refine wpAny_ite_false (decide_eq_false (by grind)) ?_;refine wpAny_ite_false (decide_eq_false (by grind)) ?_;refine wpAny_ite_false (decide_eq_false (by lia)) ?_;refine wpAny_ite_false (decide_eq_false (by grind)) ?_;refine zay ?_;refine wpAny_newObj_type (zab ⟨_,rfl,h⟩) ?_
  .show (List.foldl _ #[] _).size<=sizeLine;rw[AutoListH.size_joined];have:100000<=sizeLine:=by decide
   rw[Nat.mul_comm];simp
   lia
end L2
namespace DL
open L2
def jO9(K:W.Frag):R2:=fun x y H Q=>∃ l k xs,x=.ref l/\y=.int k/\SqT K H l xs/\xs≠[]/\1<=k/\k<=1000/\xs.length*k.toNat<=100000/\(k=1->Q (.ref l) H)/\(k≠1->∀ p,H p=none->Q (.ref p) (upd H p (.tup (List.replicate k.toNat xs).flatten)))
section
variable {X:Cx}
def jJx:OpR X (binaryOp .Mult) (jO9 X.K):=by
 intro U s Z H x y v u Q I rx ry h;obtain⟨l,k,xs,rfl,rfl,hH,hne,h1,h2,hz,q1,q2⟩:=h;cases rx;obtain⟨t,rfl⟩:=ry;obtain⟨its,r,⟨⟨cls,dd,data,sl⟩,e,hc,n,hd⟩,_⟩:=I.tuple hH;subst hc hd;have l1:=r.length;have hne':its.toArray.isEmpty=false:=by
  cases its with
  | nil=>grind
  | cons _ _=>rfl
 have hnew:=by
  have:=jla its k.toNat [];exact this
 refine wpAny_binaryOp_repeat_ref rfl ⟨_,e,rfl⟩ (fun s'=>typeIs_int s' k t) jkg F.fills_int_mul F.slot_int_rmul jqc F.slot_int_index.lookup
  (call_meets F.slot_int_rmul (typeIs_int s k t) F.entry_int_rmul (F.args_int_rmul_2 _ _) (jmo k t l _ n dd sl)
   ⟨e,rfl,⟨_,e,rfl⟩,?_⟩)
 by_cases hk:k=1
 .subst hk;exact call_meets F.slot_tuple_mul ⟨_,e,rfl⟩ F.entry_tuple_mul (F.args_tuple_mul_2 _ _) (jv5 l _ n t dd sl hne') ⟨e,.ref l,H,I,rfl,q1 rfl⟩
 .refine call_meets F.slot_tuple_mul ⟨_,e,rfl⟩ F.entry_tuple_mul (F.args_tuple_mul_2 _ _) (jv6 l _ n k t dd sl hne' (by lia) h2 (by rw[zbx,<- l1];exact hz)) ⟨e,?_⟩;rw[hnew];refine⟨.ref _,_,I.laid (fun b ob q=>zaz _ q) (zac _) ?_,rfl,q2 hk _ (I.hok.fresh (zac _))⟩;refine⟨?_,_,r.rep _,PyProof.Rows.IsTup.new _ _⟩;rw[jx9,Nat.mul_comm];have:100000<=sizeLine:=by decide
  lia
def gMulT:D->D->Option D
 | .tup xs,.int k=>if xs≠[]/\1<=k/\k<=1000/\xs.length*k.toNat<=100000 then some (.tup (List.replicate k.toNat xs).flatten) else none
 | x,y=>gMul x y
def jO7(K:W.Frag):R2:=fun x y H Q=>(rI (fun i j=>(jhi i&&jhi j)=true) (fun i j=>.int (i*j)) x y H Q\/∃ z n,x=.str z/\y=.int n/\(z.length<=4096/\-4096<=n/\n<=4096)/\Q (.str (Txt.mul z n)) H)\/jO9 K x y H Q
def jJw:OpR X (binaryOp .Mult) (jO7 X.K):=op_mulD.or jJx
def jDd:OpD X.K gMulT (jO7 X.K):=by
 intro x y d hd J H G u v Q hG ru rv k;unfold gMulT at hd
 split at hd
 .split at hd
  .rename_i hz;cases hd;obtain⟨l,xs,rfl,q1,q2⟩:=rep_tup.mp ru;refine .inr ⟨l,_,xs,rfl,rep_int.mp rv,jcb jaf q1,(fun z=>by have:=q2.length;grind),hz.2.1,hz.2.2.1,by rw[q2.length];lia,fun e=>?_,fun _ p hp=>k _ _ (jal hp) (jbc hp (hG p hp) (q2.rep _))⟩;subst e;refine k _ H (Same.refl H) ?_
   grind
  .cases hd
 .exact .inl (jJ1 x y d hd J H G u v Q hG ru rv k)
end
end DL
namespace L2
open PyProof.Rows
abbrev xOb(C:Addr)(od:Option Addr)(vs:Array Value)(sl:qe):Obj:=⟨.ref C,od,.fields vs,sl⟩
def XO(a C:Addr)(od:Option Addr)(f:Bool):HO:=.ext fun h=>∃ vs sl,h.get? a=some (xOb C od vs sl)/\(f=true->vs[1]? = some .none)
inductive XDv(a:Addr)(fs:List (Str×V))(h:Heap):Prop
 | mk (mA:qa) (hn:h.Ns1 a mA) (hr:∀ f,RelO (fs.lookup f) (mA f)) (hw:PySem.Within mA (fs.map (·.1))) (hl:fs.length<=1000)
def XDc(a:Addr)(fs:List (Str×V)):HO:=.ext (XDv a fs)
def jQc:XO a C od f≠.tup xs:=fun z=>by cases z
def jSs:XDc a fs≠.tup xs:=fun z=>by cases z
end L2
namespace DL
open L2
inductive SO where
 | ins (c:Str) (fs:List (Str×D))|lst (ds:List D)|dck (kvs:List (Str×D))|exc (c:Str) (j:Option Nat×Bool)|xd (fs:List (Str×D))
abbrev Sto:=List SO
abbrev MS(α:Type):=Sto->Option (Except XD α×Sto)
noncomputable def MS.b{α β:Type}(m:MS α)(f:α->MS β):MS β:=fun Ω=>match m Ω with
 | none=>none
 | some (.error x,Ω')=>some (.error x,Ω')
 | some (.ok a,Ω')=>f a Ω'
noncomputable def MS.p{α:Type}(a:α):MS α:=fun Ω=>some (.ok a,Ω)
noncomputable def MS.l{α:Type}(m:M α):MS α:=fun Ω=>m.map fun r=>(r,Ω)
noncomputable def MS.o{α:Type}(m:Option α):MS α:=fun Ω=>m.map fun r=>(.ok r,Ω)
inductive MS.BInv{α β:Type}(m:MS α)(f:α->MS β)(Ω Ω':Sto)(r:Except XD β):Prop
 | ok (a:α) (Ω1:Sto) (h1:m Ω=some (.ok a,Ω1)) (h2:f a Ω1=some (r,Ω'))
 | err (x:XD) (h1:m Ω=some (.error x,Ω')) (h2:r=.error x)
def MS.b_inv(h:m.b f Ω=some (r,Ω')):MS.BInv m f Ω Ω' r:=by
 unfold MS.b at h
 cases e:m Ω with
 | none=>grind
 | some p =>
  rw[e] at h;obtain⟨q,Ω1⟩:=p
  cases q with
  | error x=>cases h;exact .err x e rfl
  | ok a=>exact .ok a Ω1 e h
def MS.b_b{α β γ:Type}{m:MS α}{f:α->MS β}{g:β->MS γ}{Ω:Sto}{r:Option (Except XD γ×Sto)}(h:(m.b f).b g Ω=r):m.b (fun x=>(f x).b g) Ω=r:=by
 rw[<- h];unfold MS.b;rcases m Ω with _|⟨_|_,_⟩<;>rfl
def MS.l_inv(h:MS.l m Ω=some (r,Ω')):m=some r/\Ω'=Ω:=by
 unfold MS.l at h;cases e:m<;>grind
theorem MS.o_inv(h:MS.o m Ω=some (r,Ω')):∃ a,m=some a/\r=.ok a/\Ω'=Ω:=by
 unfold MS.o at h;cases e:m<;>grind
@[simp] theorem MS.b_p(a:α)(f:α->MS β):(MS.p a).b f=f a:=rfl
def RLe(J J':Rho):Prop:=∀ i a,J i=some a->J' i=some a
theorem RLe.refl(J:Rho):RLe J J:=fun _ _ h=>h
def RLe.trans(a:RLe J J')(b:RLe J' J''):RLe J J'':=fun i x h=>b i x (a i x h)
mutual
def Rep.rho(e:RLe J J'):∀ {d:D} {v:V},Rep J K H d v->Rep J' K H d v
 | .non,_,h=>by unfold Rep at h |-;exact h
 | .bl _,_,h=>by unfold Rep at h |-;exact h
 | .int _,_,h=>by unfold Rep at h |-;exact h
 | .str _,_,h=>by unfold Rep at h |-;exact h
 | .ty _,_,h=>by unfold Rep at h |-;exact h
 | .obj _,_,h=>by
  unfold Rep at h |-
  obtain⟨a,q1,q2⟩:=h;exact⟨a,e _ _ q1,q2⟩
 | .tup _,_,h=>by
  unfold Rep at h |-
  obtain⟨a,xs,q1,q2,q3⟩:=h;exact⟨a,xs,q1,q2,Reps.rho e q3⟩
 | .lst _,_,h=>by
  unfold Rep at h |-
  obtain⟨a,xs,q1,q2,q3⟩:=h;exact⟨a,xs,q1,q2,Reps.rho e q3⟩
def Reps.rho(e:RLe J J'):∀ {ds:List D} {vs:List V},Reps J K H ds vs->Reps J' K H ds vs
 | [],_,h=>by unfold Reps at h |-;exact h
 | _::_,_,h=>by
  unfold Reps at h |-
  obtain⟨v,vs,q1,q2,q3⟩:=h;exact⟨v,vs,q1,Rep.rho e q2,Reps.rho e q3⟩
end
def putD(f:Str)(d:D):List (Str×D)->List (Str×D)
 | []=>[(f,d)]
 | (g,x)::r=>if g=f then (g,d)::r else (g,x)::putD f d r
def Flds(J:Rho)(K:W.Frag)(H:Hp):List (Str×D)->List (Str×V)->Prop
 | [],vs=>vs=[]
 | (f,d)::fs,vs=>∃ v r,vs=(f,v)::r/\Rep J K H d v/\Flds J K H fs r
theorem Flds.mono(e:RLe J J')(s:Same H H'):∀ {fs:List (Str×D)} {vs:List (Str×V)},Flds J K H fs vs->Flds J' K H' fs vs
 | [],_,h=>h
 | (f,d)::fs,_,⟨v,r,q1,q2,q3⟩=>⟨v,r,q1,(q2.rho e).mono s,Flds.mono e s q3⟩
theorem Flds.length:∀ {fs:List (Str×D)} {vs:List (Str×V)},Flds J K H fs vs->vs.length=fs.length
 | [],_,h=>by cases h;rfl
 | (f,d)::fs,_,⟨v,r,q1,q2,q3⟩=>by subst q1;simp[Flds.length q3]
theorem Flds.get:∀ {fs:List (Str×D)} {vs:List (Str×V)} {f:Str} {d:D},Flds J K H fs vs->fs.lookup f=some d->∃ v,vs.lookup f=some v/\Rep J K H d v
 | [],_,_,_,_,e=>by cases e
 | (g,x)::fs,_,f,d,⟨v,r,q1,q2,q3⟩,e=>by
  subst q1;simp only[List.lookup_cons] at e |-
  cases h:f == g with
  | true=>grind
  | false=>rw[h] at e;exact Flds.get q3 e
theorem Flds.none:∀ {fs:List (Str×D)} {vs:List (Str×V)} {f:Str},Flds J K H fs vs->fs.lookup f=Option.none->vs.lookup f=Option.none
 | [],_,_,h,_=>by cases h;rfl
 | (g,x)::fs,_,f,⟨v,r,q1,q2,q3⟩,e=>by
  subst q1;simp only[List.lookup_cons] at e |-
  cases h:f == g with
  | true=>grind
  | false=>rw[h] at e;exact Flds.none q3 e
theorem Flds.put(hr:Rep J K H d v):∀ {fs:List (Str×D)} {vs:List (Str×V)},Flds J K H fs vs->Flds J K H (putD f d fs) (putF f v vs)
 | [],_,h=>by cases h;exact⟨v,[],rfl,hr,rfl⟩
 | (g,x)::fs,_,⟨u,r,q1,q2,q3⟩=>by
  subst q1;unfold putD putF
  by_cases h:g=f
  .rw[if_pos h,if_pos h];exact⟨v,r,rfl,hr,q3⟩
  .rw[if_neg h,if_neg h];exact⟨u,_,rfl,q2,Flds.put hr q3⟩
inductive InsOk(J:Rho)(S:qd)(K:W.Frag)(mg:qa)(H Hv:Hp)(a:Addr)(c:Str)(fs:List (Str×D)):Prop
 | mk (C dx:Addr) (vfs:List (Str×V)) (h1:mg c=some (.ref C)) (h2:H a=some (.ins C dx vfs)) (h3:H dx=some (.own a)) (h4:S dx=true) (h5:Flds J K Hv fs vfs)
inductive TabG(Hv:Hp)(l c:Nat)(q:Str)(ps:Array Value):Prop
 | nil (h:ps=#[])
 | one (c':Addr) (o:Obj) (vs:Array Value) (t:Tok) (h:ps=#[rawInt l,rawInt c,.ref c']) (h1:Hv c'=some (.frz o (.own 0))) (h2:o.data=.fields vs) (h3:vs[1]? = some (.str q t))
def TabG.mono(s:Same Hv Hv'):TabG Hv l c q ps->TabG Hv' l c q ps
 | .nil h=>.nil h
 | .one c' o vs t h h1 h2 h3=>.one c' o vs t h (s _ _ h1) h2 h3
inductive ExcOk(J:Rho)(mg:qa)(H:Hp)(a:Addr)(c:Str):Option Nat×Bool->Prop
 | no (f:Bool) (C:Addr) (h1:mg c=some (.ref C)) (h2:H a=some (XO a C none f)):ExcOk J mg H a c (none,f)
 | yes (f:Bool) (j:Nat) (C dx:Addr) (h1:mg c=some (.ref C)) (h2:J j=some dx) (h3:H a=some (XO a C (some dx) f)):ExcOk J mg H a c (some j,f)
def ExcOk.mono{J J':Rho}{mg:qa}{H H':Hp}{a:Addr}{c:Str}{j:Option Nat×Bool}(l:∀ i b,J i=some b->J' i=some b)(e:H' a=H a)(h:ExcOk J mg H a c j):ExcOk J' mg H' a c j:=by
 cases h with
 | no f C h1 h2=>exact .no f C h1 (by grind)
 | yes f j C dx h1 h2 h3=>exact .yes f j C dx h1 (l _ _ h2) (by grind)
def SOk(J:Rho)(S:qd)(K:W.Frag)(mg:qa)(H Hv:Hp)(a:Addr):SO->Prop
 | .ins c fs=>InsOk J S K mg H Hv a c fs
 | .lst ds=>∃ xs,H a=some (.lst xs)/\Reps J K Hv ds xs
 | .exc c j=>ExcOk J mg H a c j
 | .xd fs=>∃ vfs,H a=some (XDc a vfs)/\Flds J K Hv fs vfs
 | .dck kvs=>∃ vk:List (Key×V),H a=some (.dK vk)/\vk.map (·.1)=kvs.map (fun p=>Sum.inr p.1)/\Reps J K Hv (kvs.map (·.2)) (vk.map (·.2))
inductive AtOk(J:Rho)(S:qd)(K:W.Frag)(mg:qa)(H Hv:Hp)(i:Nat)(so:SO):Prop
 | mk (a:Addr) (h1:J i=some a) (h2:S a=true) (h3:SOk J S K mg H Hv a so)
def TV(H Hv:Hp):Prop:=∀ b xs,H b=some (.tup xs)->Hv b=some (.tup xs)
def jqu(t:TV H Hv)(ho:∀ xs,o≠.tup xs):TV (upd H a o) Hv:=fun b xs q=>by
 by_cases hb:b=a
 .subst hb;rw[jaj] at q
  grind
 .rw[jam hb] at q;exact t b xs q
def jA4(t:TV H Hv)(v:Same Hv Hv'):TV H Hv':=fun b xs q=>v b _ (t b xs q)
def jLg(t:TV H (hid H F))(fr:∀ b,H b=none->F b=false)(e:Same H H'):TV H' (hid H' F):=fun b xs q=>by
 cases z:H b with
 | none=>exact hid_some.mpr ⟨fr b z,q⟩
 | some o =>
  have:=e b o z;rw[q] at this;cases this;exact jad e b _ (t b xs z)
structure StoOk(J:Rho)(S:qd)(K:W.Frag)(mg:qa)(H Hv:Hp)(Ω:Sto):Prop where
 ats:∀ (i:Nat) so,Ω[i]? = some so->AtOk J S K mg H Hv i so
 inj:∀ i j a,J i=some a->J j=some a->i=j
 top:∀ i,Ω.length<=i->J i=none
 fin:∀ b,S b=true->H b≠none
 tv:TV H Hv
abbrev nof:qd:=fun _=>false
def un(F S:qd):qd:=fun b=>F b || S b
def un_t:un F S b=true↔F b=true\/S b=true:=by unfold un;grind
def un_f:un F S b=false↔F b=false/\S b=false:=by unfold un;grind
section
variable {J J':Rho}{S S':qd}{K:W.Frag}{mg:qa}{H H' Hv Hv':Hp}{Ω:Sto}
def SOk.gen{a:Addr}{so:SO}(l:RLe J J')(old:∀ b,S b=true->S' b=true)(e:H' a=H a)(ed:∀ b,S b=true->H b=some (.own a)->H' b=some (.own a))(v:Same Hv Hv')(h:SOk J S K mg H Hv a so):SOk J' S' K mg H' Hv' a so:=by
 cases so with
 | ins c fs =>
  obtain⟨C,dx,vfs,q1,q2,q3,q4,q5⟩:=h;exact⟨C,dx,vfs,q1,by grind,ed _ q4 q3,old _ q4,q5.mono l v⟩
 | lst ds =>
  obtain⟨xs,q1,q2⟩:=h;exact⟨xs,by grind,(q2.rho l).mono v⟩
 | dck kvs =>
  obtain⟨vk,q1,q2,q3⟩:=h;exact⟨vk,by grind,q2,(q3.rho l).mono v⟩
 | exc c j=>exact ExcOk.mono l e h
 | xd fs =>
  obtain⟨vfs,q1,q2⟩:=h;exact⟨vfs,by grind,q2.mono l v⟩
def SOk.mono{a:Addr}{so:SO}(hs:S a=true)(e:∀ b,S b=true->H' b=H b)(v:Same Hv Hv')(h:SOk J S K mg H Hv a so):SOk J S K mg H' Hv' a so :=
 h.gen (RLe.refl _) (fun _ z=>z) (e a hs) (fun b hb z=>(e b hb).trans z) v
def StoOk.mono(h:StoOk J S K mg H Hv Ω)(e:∀ b,S b=true->H' b=H b)(v:Same Hv Hv')(t:TV H' Hv'):StoOk J S K mg H' Hv' Ω :=
 ⟨fun i so hi=>let ⟨a,q1,q2,q3⟩:=h.ats i so hi;⟨a,q1,q2,q3.mono q2 e v⟩,h.inj,h.top,fun b hb=>by rw[e b hb];exact h.fin b hb,t⟩
end
structure RM(Jz:Rho)(Sz:qd)(Hz:Hp)(F:qd)(K:W.Frag)(mg:qa)(O:List Nat)(J:Rho)(S:qd)(H:Hp)(Z:St)(Y:DSt)(Ω:Sto):Prop where
 rs:RS J K (hid H (fob nof Z O)) H (un F S) O Z Y
 rho:RLe Jz J
 same:∀ b o,Sz b=false->Hz b=some o->H b=some o
 old:∀ b,Sz b=true->S b=true
 new:∀ b,S b=true->Sz b=true\/Hz b=none
 own0:∀ i∈O,∀ a,Z[i]? = some (some (.ref a))->Hz a=none
 ff:∀ b,F b=true->S b=false
 sto:StoOk J S K mg H (hid H (fob (un F S) Z O)) Ω
section
variable {Jz J:Rho}{Sz S F:qd}{Hz H1 H H':Hp}{K:W.Frag}{mg:qa}{O O':List Nat}{Z:St}{Y:DSt}{Ω:Sto}
def RS.rebase(R:RS J K H1 H F O Z Y):RS J K (hid H (fob nof Z O)) H F O Z Y :=
 ⟨R.len,jaf,R.fin,R.val,fun i hi=>by
  obtain⟨a,xs,ds,q1,q2,q3,q4,q5⟩:=R.own i hi;refine⟨a,xs,ds,q1,q2,q3,⟨?_,q4.2⟩,q5⟩;unfold hid;rw[if_pos (fob_t.mpr (.inr ⟨i,hi,q2⟩))],R.nd⟩
def RM.at_store(R:RM Jz Sz Hz F K mg O J S H Z Y Ω)(e:Same H H'):∀ b,S b=true->H' b=H b:=fun b hb=>by
 cases q:H b with
 | none=>exact absurd q (R.sto.fin b hb)
 | some o=>exact e b o q
def RM.mono(R:RM Jz Sz Hz F K mg O J S H Z Y Ω)(e:Same H H'):RM Jz Sz Hz F K mg O J S H' Z Y Ω :=
 ⟨(R.rs.mono e).rebase,R.rho,fun b o h1 h2=>e b o (R.same b o h1 h2),R.old,R.new,R.own0,R.ff,R.sto.mono (R.at_store e) (jad e) (jLg R.sto.tv (fun _ h=>R.rs.fresh h) e)⟩
def RM.thaw(R:RM Jz Sz Hz F K mg O J S H Z Y Ω)(h:∀ i∈O',i∈O):RM Jz Sz Hz F K mg O' J S H Z Y Ω :=
 ⟨(R.rs.thaw h).rebase,R.rho,R.same,R.old,R.new,fun i hi=>R.own0 i (h i hi),R.ff,R.sto.mono (fun _ _=>rfl) (jc4 (jtt h)) (jA4 R.sto.tv (jc4 (jtt h)))⟩
theorem RM.fresh(R:RM Jz Sz Hz F K mg O J S H Z Y Ω)(h:H p=none):fob (un F S) Z O p=false:=R.rs.fresh h
def RM.fresh0(R:RM Jz Sz Hz F K mg O J S H Z Y Ω)(h:H p=none):Hz p=none\/Sz p=true:=by
 cases e:Sz p with
 | true=>grind
 | false =>
  cases e0:Hz p with
  | none=>grind
  | some o=>rw[R.same p o e e0] at h;cases h
def RM.noS(R:RM Jz Sz Hz F K mg O J S H Z Y Ω)(h:H p=none):S p=false:=by
 cases e:S p with
 | false=>rfl
 | true=>exact absurd h (R.sto.fin p e)
def RM.fresh00(R:RM Jz Sz Hz F K mg O J S H Z Y Ω)(h:H p=none):Hz p=none:=by
 rcases R.fresh0 h with q|q
 .exact q
 .have:=R.noS h;rw[R.old p q] at this;cases this
def RM.set(R:RM Jz Sz Hz F K mg O J S H Z Y Ω)(ho:i∉O)(hr:Rep J K (hid H (fob (un F S) Z O)) d v):RM Jz Sz Hz F K mg O J S H (Z.set i (some v)) (Y.set i (some d)) Ω:=by
 refine⟨(R.rs.set ho hr).rebase,R.rho,R.same,R.old,R.new,fun j hj a q=>?_,R.ff,by rw[je5 ho];exact R.sto⟩;rw[zbw (by grind)] at q;exact R.own0 j hj a q
def RM.write(R:RM Jz Sz Hz F K mg O J S H Z Y Ω)(hi:i∈O)(ha:Z[i]? = some (some (.ref a)))(hr:Reps J K (hid H (fob (un F S) Z O)) ds xs) :
  RM Jz Sz Hz F K mg O J S (upd H a (.lst xs)) Z (Y.set i (some (.lst ds))) Ω:=by
 obtain⟨a',ys,es,q1,q2,q3,q4,q5⟩:=R.rs.own i hi;have hS:=(un_f.mp q4.2).2;refine⟨(R.rs.write hi ha hr).rebase,R.rho,fun b o h1 h2=>?_,R.old,R.new,R.own0,R.ff,?_⟩
 .rw[jam (jau h2 (R.own0 i hi a ha))];exact R.same b o h1 h2
 .rw[(jdr (fob_t.mpr (.inr ⟨i,hi,ha⟩)))];refine R.sto.mono (fun b hb=>?_) (Same.refl _) (jqu R.sto.tv fun _ z=>nomatch z);rw[jam]
  grind
def RM.take(R:RM Jz Sz Hz F K mg O J S H Z Y Ω)(ho:i∉O)(hi:i<Y.length)(hp:H p=none)(hr:Reps J K (hid H (fob (un F S) Z O)) ds xs) :
  RM Jz Sz Hz F K mg (i::O) J S (upd H p (.lst xs)) (Z.set i (some (.ref p))) (Y.set i (some (.lst ds))) Ω/\Same (hid H (fob (un F S) Z O)) (hid (upd H p (.lst xs)) (fob (un F S) (Z.set i (some (.ref p))) (i::O))):=by
 have lZ:i<Z.length:=by rw[R.rs.len];exact hi
 have vs:Same (hid H (fob (un F S) Z O)) (hid (upd H p (.lst xs)) (fob (un F S) (Z.set i (some (.ref p))) (i::O))):=by rw[jkp ho lZ hp];exact Same.refl _
 refine⟨⟨(R.rs.take ho hi (Same.refl H) hp hr).rebase,R.rho,fun b o h1 h2=>?_,R.old,R.new,fun j hj a q=>?_,R.ff,R.sto.mono (fun b hb=>?_) vs (jA4 (jqu R.sto.tv fun _ z=>nomatch z) vs)⟩,vs⟩
 .have h3:=R.same b o h1 h2;rw[jam (jau h3 hp)];exact h3
 .rcases List.mem_cons.mp hj with rfl|hj
  .rw[zcz lZ] at q;cases q;exact R.fresh00 hp
  .rw[zbw (by grind)] at q;exact R.own0 j hj a q
 .rw[jam];rintro rfl;rw[R.noS hp] at hb;cases hb
end
def kX{α β:Type}(Rel:Rho->W.Frag->Hp->α->β->Prop)(Jz:Rho)(Sz:qd)(Hz:Hp)(F:qd)(K:W.Frag)(mg:qa)(O:List Nat)(Z:St)(Y:DSt)(Q:β->Hp->Prop)(J:Rho)(V:Hp):Except XD α->Sto->Prop
 | .ok d,Ω'=>∀ v J' S' H',RM Jz Sz Hz F K mg O J' S' H' Z Y Ω'->RLe J J'->Same V (hid H' (fob (un F S') Z O))->Rel J' K (hid H' (fob (un F S') Z O)) d v->Q v H'
 | .error _,_=>True
def kX.up{α β:Type}{Rel:Rho->W.Frag->Hp->α->β->Prop}{Jz J J1:Rho}{Sz F:qd}{Hz V V1:Hp}{K:W.Frag}{mg:qa}{O:List Nat}{Z:St}{Y:DSt}{Q:β->Hp->Prop}{r:Except XD α}{Ω':Sto}(k:kX Rel Jz Sz Hz F K mg O Z Y Q J V r Ω')(l:RLe J J1)(s:Same V V1):kX Rel Jz Sz Hz F K mg O Z Y Q J1 V1 r Ω':=by
 cases r with
 | ok d=>exact fun v J' S' H' R l' s'=>k v J' S' H' R (l.trans l') (s.trans s')
 | error y=>trivial
inductive tX{α β:Type}(Rel:Rho->W.Frag->Hp->α->β->Prop)(K:W.Frag)(mg:qa)(O:List Nat)(f:DSt->MS α)(Z:St)(H:Hp)(Q:β->Hp->Prop):Prop
 | mk (Jz:Rho) (Sz:qd) (Hz:Hp) (F:qd) (J:Rho) (S:qd) (Y:DSt) (Ω:Sto) (R:RM Jz Sz Hz F K mg O J S H Z Y Ω) (r:Except XD α) (Ω':Sto) (hf:f Y Ω=some (r,Ω')) (k:kX Rel Jz Sz Hz F K mg O Z Y Q J (hid H (fob (un F S) Z O)) r Ω')
abbrev tE:=@tX _ _ Rep
def bE{α β γ:Type}{Rel:Rho->W.Frag->Hp->α->β->Prop}{K:W.Frag}{mg:qa}{O:List Nat}{Z:St}{H Hz:Hp}{Jz J:Rho}{Sz S F:qd}{Y:DSt}{Ω:Sto}{Q:β->Hp->Prop}{fo:DSt->MS α}{g:α->MS γ}{p:Except XD γ×Sto}(R:RM Jz Sz Hz F K mg O J S H Z Y Ω)(hf:(fo Y).b g Ω=some p)
  (c:∀ d Ω1,g d Ω1=some p->∀ v J' S' H',RM Jz Sz Hz F K mg O J' S' H' Z Y Ω1->RLe J J'->Same (hid H (fob (un F S) Z O)) (hid H' (fob (un F S') Z O))->Rel J' K (hid H' (fob (un F S') Z O)) d v->Q v H'):tX Rel K mg O fo Z H Q:=by
 rcases MS.b_inv (r:=p.1) (Ω':=p.2) hf with ⟨d,Ω1,e1,h⟩|⟨x,e1,_⟩
 .exact⟨_,_,_,F,J,S,Y,Ω,R,_,Ω1,e1,c d Ω1 h⟩
 .exact⟨_,_,_,F,J,S,Y,Ω,R,_,_,e1,trivial⟩
def ME(X:Cx)(O:List Nat)(e:Expr)(f:DSt->MS D):Prop:=PE X e (tE X.K X.mg O f)
inductive tEB(K:W.Frag)(mg:qa)(O:List Nat)(f:DSt->MS Bool)(Z:St)(H:Hp)(Q:Bool->Hp->Prop):Prop
 | mk (Jz:Rho) (Sz:qd) (Hz:Hp) (F:qd) (J:Rho) (S:qd) (Y:DSt) (Ω:Sto) (R:RM Jz Sz Hz F K mg O J S H Z Y Ω) (r:Except XD Bool) (Ω':Sto) (hf:f Y Ω=some (r,Ω')) (k:match (generalizing:=false) r with
  | .ok d=>∀ J' S' H',RM Jz Sz Hz F K mg O J' S' H' Z Y Ω'->RLe J J'->Same (hid H (fob (un F S) Z O)) (hid H' (fob (un F S') Z O))->Q d H'
  | .error _=>True)
def bEB{γ:Type}{K:W.Frag}{mg:qa}{O:List Nat}{Z:St}{H Hz:Hp}{Jz J:Rho}{Sz S F:qd}{Y:DSt}{Ω:Sto}{Q:Bool->Hp->Prop}{fo:DSt->MS Bool}{g:Bool->MS γ}{p:Except XD γ×Sto}(R:RM Jz Sz Hz F K mg O J S H Z Y Ω)(hf:(fo Y).b g Ω=some p)
  (c:∀ d Ω1,g d Ω1=some p->∀ J' S' H',RM Jz Sz Hz F K mg O J' S' H' Z Y Ω1->RLe J J'->Same (hid H (fob (un F S) Z O)) (hid H' (fob (un F S') Z O))->Q d H'):tEB K mg O fo Z H Q:=by
 rcases MS.b_inv (r:=p.1) (Ω':=p.2) hf with ⟨d,Ω1,e1,h⟩|⟨x,e1,_⟩
 .exact⟨_,_,_,F,J,S,Y,Ω,R,_,Ω1,e1,c d Ω1 h⟩
 .exact⟨_,_,_,F,J,S,Y,Ω,R,_,_,e1,trivial⟩
def MT(X:Cx)(O:List Nat)(e:Expr)(f:DSt->MS Bool):Prop:=PT X e (tEB X.K X.mg O f)
def MW(X:Cx)(O:List Nat)(e:Expr)(f:DSt->MS Bool):Prop:=PW X e (tEB X.K X.mg O f)
abbrev tEL:=@tX _ _ Reps
def MA(X:Cx)(O:List Nat)(es:List Expr)(f:DSt->MS (List D)):Prop:=PA X es (tEL X.K X.mg O f)
def lF{α:Type}(f:DSt->M α):DSt->MS α:=fun Y=>MS.l (f Y)
def jbh(f:DSt->MS D)(g:DSt->MS (List D)):DSt->MS (List D):=fun Y=>(f Y).b fun x=>(g Y).b fun xs=>MS.p (x::xs)
def m2(g:D->D->Option D)(fa fb:DSt->MS D):DSt->MS D:=fun Y=>(fa Y).b fun x=>(fb Y).b fun y=>MS.o (g x y)
def m1(g:D->Option D)(fa:DSt->MS D):DSt->MS D:=fun Y=>(fa Y).b fun x=>MS.o (g x)
def mL(k:List D->Option D)(g:DSt->MS (List D)):DSt->MS D:=fun Y=>(g Y).b fun xs=>MS.o (k xs)
def mTru(fa:DSt->MS D):DSt->MS Bool:=fun Y=>(fa Y).b fun x=>MS.o (truD x)
def mNot(ta:DSt->MS Bool):DSt->MS Bool:=fun Y=>(ta Y).b fun x=>MS.p !x
def mOr(ta tb:DSt->MS Bool):DSt->MS Bool:=fun Y=>(ta Y).b fun x=>if x=true then MS.p true else tb Y
noncomputable def getO(cs:List Str)(f:Str):D->MS D:=fun x Ω=>match x with
 | .obj i=>match Ω[i]? with
  | some (.ins c fs)=>if cs.contains c then (fs.lookup f).map fun d=>(.ok d,Ω) else none
  | _=>none
 | _=>none
def mGet(cs:List Str)(f:Str)(fa:DSt->MS D):DSt->MS D:=fun Y=>(fa Y).b fun x=>getO cs f x
section
variable {X:Cx}
def jae(h:DE X O E0 e f):ME X O e (lF f):=by
 rintro U s Z H Q I ⟨Jz,Sz,Hz,F,J,S,Y,Ω,R,r,Ω',hf,k⟩;obtain⟨hg,rfl⟩:=MS.l_inv hf;refine h _ s Z H Q I ⟨J,_,_,Y,r,R.rs,hg,?_⟩
 cases r with
 | ok d=>exact fun v H' s' rv=>k v J S H' (R.mono s') (RLe.refl _) (jad s') rv
 | error x=>exact fun c dx H' _ z=>z.elim
def jlw(h:DT X O E0 e f):MT X O e (lF f):=by
 rintro U s Z H Q I ⟨Jz,Sz,Hz,F,J,S,Y,Ω,R,r,Ω',hf,k⟩;obtain⟨hg,rfl⟩:=MS.l_inv hf;refine h _ s Z H Q I ⟨J,_,_,Y,r,R.rs,hg,?_⟩
 cases r with
 | ok d=>exact fun H' s'=>k J S H' (R.mono s') (RLe.refl _) (jad s')
 | error x=>exact fun c dx H' _ z=>z.elim
def jak(h:DA X O E0 es f):MA X O es (lF f):=by
 rintro p U s Z H Q I ⟨Jz,Sz,Hz,F,J,S,Y,Ω,R,r,Ω',hf,k⟩;obtain⟨hg,rfl⟩:=MS.l_inv hf;refine h p _ s Z H Q I ⟨J,_,_,Y,r,R.rs,hg,?_⟩
 cases r with
 | ok d=>exact fun v H' s' rv=>k v J S H' (R.mono s') (RLe.refl _) (jad s') rv
 | error x=>exact fun c dx H' _ z=>z.elim
def jay(ha:ME X O e fa)(hr:MA X O es fl)(hs:autoParam (zsE e es X.env) zau2._auto_1):MA X O (e::es) (jbh fa fl):=by
 rintro p U s Z H Q I ⟨Jz,Sz,Hz,F,J,S,Y,Ω,R,r,Ω',hf,k⟩;refine jet ha hr hs p _ s Z H Q I ?_;refine bE R hf fun x Ω1 hf u J1 S1 H1 R1 l1 v1 r1=>?_
 refine bE R1 hf fun xs Ω2 hf vs J2 S2 H2 R2 l2 v2 r2=>?_
 cases hf;exact k _ J2 S2 H2 R2 (l1.trans l2) (v1.trans v2) (Reps.cons ((r1.rho l2).mono v2) r2)
def jym(hg:OpD X.K g r)(h:tE X.K X.mg O (m2 g fa fb) Z H Q):tOp r (tE X.K X.mg O fa) (tE X.K X.mg O fb) Z H Q:=by
 obtain⟨Jz,Sz,Hz,F,J,S,Y,Ω,R,r,Ω',hf,k⟩:=h;refine bE R hf fun x Ω1 hf u J1 S1 H1 R1 l1 v1 r1=>?_
 refine bE R1 hf fun y Ω2 hf w J2 S2 H2 R2 l2 v2 r2=>?_
 obtain⟨d,hd,rfl,rfl⟩:=MS.o_inv hf;exact hg x y d hd J2 H2 _ u w Q (fun p hp=>R2.fresh hp) ((r1.rho l2).mono v2) r2 fun z H3 s3 r3=>k z J2 S2 H3 (R2.mono s3) (l1.trans l2) (v1.trans (v2.trans (jad s3))) r3
def jvh(ho:IxR X r)(hg:OpD X.K g r)(ha:ME X O a fa)(hb:ME X O b fb)(hs:autoParam (ji4 b) zau4._auto_1):ME X O (.Subscript a b pos) (m2 g fa fb) :=
 fun U s Z H Q I h=>jDl ho ha hb hs _ s Z H Q I (jym hg h)
def jC2(hg:CaD X.K k r)(h:tE X.K X.mg O (mL k fl) Z H Q):tCB r (tEL X.K X.mg O fl) Z H Q:=by
 obtain⟨Jz,Sz,Hz,F,J,S,Y,Ω,R,r,Ω',hf,k⟩:=h;refine bE R hf fun x Ω1 hf u J1 S1 H1 R1 l1 v1 r1=>?_
 obtain⟨d,hd,rfl,rfl⟩:=MS.o_inv hf;exact hg x d hd J1 H1 _ u Q (fun p hp=>R1.fresh hp) r1 fun z H3 s3 r3=>k z J1 S1 H3 (R1.mono s3) l1 (v1.trans (jad s3)) r3
def jyo(hc:CallR X (.type T) r)(hg:CaD X.K k r)(hG:Gl X x)(hm:X.mg x=none)(hv:bootBuiltins x=some (.type T))(ha:MA X O (e::es) fl)
  (hn:autoParam (x≠"__name__") zau0._auto_1) (hdb:autoParam (qh x) zau0._auto_1) (he:autoParam (zsE e es X.env) zau2._auto_1) (hpl:autoParam (zbT pos es X.env) zau2._auto_1) :
  ME X O (.Call (.Name x p) (e::es) [] pos) (mL k fl):=fun U s Z H Q I h=>jl0 hc hG hm hv ha hn hdb he hpl _ s Z H Q I (jC2 hg h)
def jNu(h:MA X O es fl):ME X O (.Tuple es x1 pos) (mL ja1 fl):=by
 rintro U s Z H Q I ⟨Jz,Sz,Hz,F,J,S,Y,Ω,R,r,Ω',hf,k⟩;refine jGa h _ s Z H Q I ?_;refine bE R hf fun x Ω1 hf u J1 S1 H1 R1 l1 v1 r1=>?_
 obtain⟨d,hd,rfl,rfl⟩:=MS.o_inv hf;unfold ja1 at hd
 split at hd
 .rename_i hz;cases hd;exact⟨by rw[r1.length];exact hz,fun p hp=>k _ J1 S1 _ (R1.mono (jal hp)) l1 (v1.trans (jad (jal hp))) (jbc hp (R1.fresh hp) r1)⟩
 .cases hd
def jGs(X:Cx)(cs:List Str)(f:Str):Prop:=∀ c∈cs,∀ C,X.mg c=some (.ref C)->Cls X.K C/\NoAttr X.K C f
def jCg(h:getO cs f x Ω=some (r,Ω')):∃ i cl fs d,x=.obj i/\Ω[i]? = some (.ins cl fs)/\cs.contains cl=true/\fs.lookup f=some d/\r=.ok d/\Ω'=Ω:=by
 unfold getO at h
 cases x with
 | obj i =>
  dsimp only at h
  cases hi:Ω[i]? with
  | none=>grind
  | some so =>
   rw[hi] at h
   cases so with
   | lst _=>cases h
   | dck _=>cases h
   | exc _ _=>cases h
   | xd _=>cases h
   | ins cl fs =>
    dsimp only at h
    by_cases hc:cs.contains cl=true
    .rw[if_pos hc] at h;cases hl:fs.lookup f<;>grind
    grind
 | _=>cases h
def jls(hc:jGs X cs f)(ha:ME X O e fa)(hb:autoParam (attributeBase e f X.env (eval e X.env)=eval e X.env) zau2._auto_1):ME X O (.Attribute e f pos) (mGet cs f fa):=by
 rintro U s Z H Q I ⟨Jz,Sz,Hz,F,J,S,Y,Ω,R,r,Ω',hf,k⟩;refine jOm ha hb _ s Z H Q I ?_;refine bE R hf fun x Ω1 hf u J1 S1 H1 R1 l1 v1 r1=>?_
 obtain⟨i,cl,fs,d,rfl,hi,hcl,hl,rfl,rfl⟩:=jCg hf;obtain⟨ad,q1,q2⟩:=rep_obj.mp r1;obtain⟨ad',p1,p2,C,dx,vfs,p3,p4,p5,p6,p7⟩:=R1.sto.ats i _ hi;rw[q1] at p1;cases p1
 obtain⟨g1,g2⟩:=hc cl (zbc.mp hcl) C p3;obtain⟨w,w1,w2⟩:=p7.get hl
 grind [kX]
def jt0(ha:ME X O a fa)(he:autoParam (∀ whole,isTrue a X.env whole=(do let v <- whole;standAt a.pos;holding [v] (truthy v))) zau7._auto_1):MT X O a (mTru fa):=by
 rintro U s Z H Q I ⟨Jz,Sz,Hz,F,J,S,Y,Ω,R,r,Ω',hf,k⟩;refine juh ha he _ s Z H Q I ?_;refine bE R hf fun x Ω1 hf u J1 S1 H1 R1 l1 v1 r1=>?_
 obtain⟨z,hz,rfl,rfl⟩:=MS.o_inv hf;exact⟨z,jA2 r1 hz,k J1 S1 H1 R1 l1 v1⟩
def jtz(ha:MT X O a ta):MT X O (.UnaryOp .Not a pos) (mNot ta):=by
 rintro U s Z H Q I ⟨Jz,Sz,Hz,F,J,S,Y,Ω,R,r,Ω',hf,k⟩;refine jGc ha _ s Z H Q I ?_;refine bEB R hf fun x Ω1 hf J1 S1 H1 R1 l1 v1=>?_
 cases hf;exact k J1 S1 H1 R1 l1 v1
def MW.mt(h:MW X O e f):MT X O e f:=PW.pt h
def jFy(ha:MT X O a ta):MW X O (.BoolOp .Or [a] pos) ta:=jGd ha
def jJj{rest:List Expr}(ha:MT X O a ta)(hb:MW X O (.BoolOp .Or (b::rest) pos) tb):MW X O (.BoolOp .Or (a::b::rest) pos) (mOr ta tb):=by
 rintro wh U s Z H Q I ⟨Jz,Sz,Hz,F,J,S,Y,Ω,R,r,Ω',hf,k⟩;refine jO4 ha hb wh _ s Z H Q I ?_;refine bEB R hf fun x Ω1 hf J1 S1 H1 R1 l1 v1=>?_
 cases x with
 | true=>cases hf;grind
 | false =>
  refine iteF ⟨_,_,_,F,J1,S1,Y,Ω1,R1,r,Ω',hf,?_⟩
  cases r with
  | ok d=>exact fun J2 S2 H2 R2 l2 v2=>k J2 S2 H2 R2 (l1.trans l2) (v1.trans v2)
  | error y=>trivial
end
structure RT(Jz:Rho)(Sz:qd)(Hz:Hp)(F:qd)(K:W.Frag)(mg:qa)(J:Rho)(S:qd)(H:Hp)(Ω:Sto):Prop where
 rho:RLe Jz J
 same:∀ b o,Sz b=false->Hz b=some o->H b=some o
 old:∀ b,Sz b=true->S b=true
 new:∀ b,S b=true->Sz b=true\/Hz b=none
 ff:∀ b,F b=true->S b=false
 sto:StoOk J S K mg H (hid H (un F S)) Ω
def jhq{Z:St}{O:List Nat}{F:qd}:∀ b,F b=true->fob F Z O b=true:=fun b h=>fob_t.mpr (.inl h)
def RM.rt(R:RM Jz Sz Hz F K mg O J S H Z Y Ω):RT Jz Sz Hz F K mg J S H Ω :=
 ⟨R.rho,R.same,R.old,R.new,R.ff,R.sto.mono (fun _ _=>rfl) (jc4 jhq) (jA4 R.sto.tv (jc4 jhq))⟩
def RM.base_some(R:RM Jz Sz Hz F K mg O J S H Z Y Ω)(h:H b=some o)(hn:¬ ∃ i∈O,Z[i]? = some (some (.ref b))):hid H (fob nof Z O) b=some o :=
 hid_some.mpr ⟨by cases e:fob nof Z O b with
  | false=>rfl
  | true=>rcases fob_t.mp e with q|q<;>grind,h⟩
def RM.base_S(R:RM Jz Sz Hz F K mg O J S H Z Y Ω)(hb:S b=true):¬ ∃ i∈O,Z[i]? = some (some (.ref b)):=by
 rintro⟨i,hi,q⟩;obtain⟨a,xs,ds,q1,q2,q3,q4,q5⟩:=R.rs.own i hi;rw[q] at q2;cases q2
 rw[(un_f.mp q4.2).2] at hb;cases hb
def RM.base_0(R:RM Jz Sz Hz F K mg O J S H Z Y Ω)(hb:Hz b=some o):¬ ∃ i∈O,Z[i]? = some (some (.ref b)):=by
 rintro⟨i,hi,q⟩;rw[R.own0 i hi b q] at hb;cases hb
def RM.no_tup(R:RM Jz Sz Hz F K mg O J S H Z Y Ω)(s:Same (hid H (fob nof Z O)) H')(hb:un F S b=true):H' b≠some (.tup xs):=fun q=>by
 cases e:H b with
 | none=>exact R.rs.fin b hb e
 | some o =>
  have:=s b o (R.base_some e fun ⟨i,hi,y⟩=>by
   obtain⟨a,xs,ds,q1,q2,q3,q4,q5⟩:=R.rs.own i hi
   grind)
  rw[q] at this;cases this;have:=(hid_some.mp (R.sto.tv b xs e)).1;rw[jhq b hb] at this;cases this
def RM.next(R:RM Jz Sz Hz F K mg O J S H Z Y Ω)(R':RS J K (hid H (fob nof Z O)) H' (un F S) O' Z' Y')(v:Same (hid H (fob (un F S) Z O)) (hid H' (fob (un F S) Z' O'))):RM Jz Sz Hz F K mg O' J S H' Z' Y' Ω:=by
 refine⟨R'.rebase,R.rho,fun b o h1 h2=>R'.same b o (R.base_some (R.same b o h1 h2) (R.base_0 h2)),R.old,R.new,fun i hi a q=>?_,R.ff,R.sto.mono (fun b hb=>?_) v fun b xs q=>hid_some.mpr ⟨?_,q⟩⟩
 .obtain⟨a',xs,ds,q1,q2,q3,q4,q5⟩:=R'.own i hi;rw[q] at q2;cases q2
  have h0:=q4.1
  cases e:H a with
  | none=>exact R.fresh00 e
  | some o =>
   by_cases hn:∃ i∈O,Z[i]? = some (some (.ref a))
   .obtain⟨j,hj,z⟩:=hn;exact R.own0 j hj a z
   .rw[R.base_some e hn] at h0;cases h0
 .cases e:H b with
  | none=>exact absurd e (R.sto.fin b hb)
  | some o=>exact R'.same b o (R.base_some e (R.base_S hb))
 .cases z:fob _ Z' O' b with
  | false=>rfl
  | true =>
   rcases fob_t.mp z with z|⟨i,hi,z⟩
   .exact absurd q (R.no_tup R'.same z)
   .obtain⟨a,xs,ds,q1,q2,q3,q4,q5⟩:=R'.own i hi
    grind
def RM.left(R:RM Jz Sz Hz F K mg O J S H Z Y Ω)(s:Same (hid H (fob nof Z O)) H'):RT Jz Sz Hz F K mg J S H' Ω:=by
 refine⟨R.rho,fun b o h1 h2=>s b o (R.base_some (R.same b o h1 h2) (R.base_0 h2)),R.old,R.new,R.ff,R.sto.mono (fun b hb=>?_) (fun b o q=>?_) fun b xs q=>hid_some.mpr ⟨?_,q⟩⟩
 .cases e:H b with
  | none=>exact absurd e (R.sto.fin b hb)
  | some o=>exact s b o (R.base_some e (R.base_S hb))
 .obtain⟨q1,q2⟩:=hid_some.mp q;refine hid_some.mpr ⟨?_,s b o (R.base_some q2 fun hn=>?_)⟩
  .cases e:un F S b with
   | false=>rfl
   | true=>rw[jhq b e] at q1;cases q1
  .rw[fob_t.mpr (.inr hn)] at q1;cases q1
 .cases z:un F S b with
  | false=>rfl
  | true=>exact absurd q (R.no_tup s z)
def OkE(K:W.Frag)(mg:qa)(O' B:List Nat)(Jz:Rho)(Sz:qd)(Hz:Hp)(F:qd)(J:Rho)(Hv:Hp)(Dn:Ends):Except XD Out->Sto->Prop
 | .ok (.nx Y'),Ω'=>∀ J' S' Z' H',RM Jz Sz Hz F K mg O' J' S' H' Z' Y' Ω'->RLe J J'->Same Hv (hid H' (fob (un F S') Z' O'))->Dn.nx Z' H'
 | .ok (.rt d),Ω'=>∀ v J' S' H',RT Jz Sz Hz F K mg J' S' H' Ω'->Rep J' K (hid H' (un F S')) d v->Dn.rt v H'
 | .ok (.bk Y'),Ω'=>∀ J' S' Z' H',RM Jz Sz Hz F K mg B J' S' H' Z' Y' Ω'->RLe J J'->Same Hv (hid H' (fob (un F S') Z' B))->Dn.bk Z' H'
 | .ok (.ct Y'),Ω'=>∀ J' S' Z' H',RM Jz Sz Hz F K mg B J' S' H' Z' Y' Ω'->RLe J J'->Same Hv (hid H' (fob (un F S') Z' B))->Dn.ct Z' H'
 | .error _,_=>True
def OkE.back(l:RLe J J')(e:Same Hv Hv')(h:OkE K mg O' B Jz Sz Hz F J Hv Dn r Ω') :
  OkE K mg O' B Jz Sz Hz F J' Hv' Dn r Ω':=by
 cases r with
 | error x=>trivial
 | ok o =>
  cases o with
  | nx Y'=>exact fun J1 S1 Z1 H1 R l1 v1=>h J1 S1 Z1 H1 R (l.trans l1) (e.trans v1)
  | bk Y'=>exact fun J1 S1 Z1 H1 R l1 v1=>h J1 S1 Z1 H1 R (l.trans l1) (e.trans v1)
  | ct Y'=>exact fun J1 S1 Z1 H1 R l1 v1=>h J1 S1 Z1 H1 R (l.trans l1) (e.trans v1)
  | rt d=>exact h
inductive sE(K:W.Frag)(mg:qa)(O O' B:List Nat)(g:DSt->MS Out)(Dn:Ends)(Z:St)(H:Hp):Prop
 | mk (Jz:Rho) (Sz:qd) (Hz:Hp) (F:qd) (J:Rho) (S:qd) (Y:DSt) (Ω:Sto) (R:RM Jz Sz Hz F K mg O J S H Z Y Ω) (r:Except XD Out) (Ω':Sto) (hf:g Y Ω=some (r,Ω')) (k:OkE K mg O' B Jz Sz Hz F J (hid H (fob (un F S) Z O)) Dn r Ω')
def MSt(X:Cx)(O O' B:List Nat)(st:Stmt)(g:DSt->MS Out):Prop:=PS X st (sE X.K X.mg O O' B g)
def MSs(X:Cx)(O O' B:List Nat)(st:List Stmt)(g:DSt->MS Out):Prop:=PSs X st (sE X.K X.mg O O' B g)
def eNx:DSt->MS Out:=fun Y=>MS.p (.nx Y)
def eSeq(g1 g2:DSt->MS Out):DSt->MS Out:=fun Y=>(g1 Y).b fun o=>match o with
 | .nx Y'=>g2 Y'
 | o=>MS.p o
def eSet(i:Nat)(f:DSt->MS D):DSt->MS Out:=fun Y=>(f Y).b fun d=>MS.p (.nx (Y.set i (some d)))
def eRet(f:DSt->MS D):DSt->MS Out:=fun Y=>(f Y).b fun d=>MS.p (.rt d)
def jf6(f:DSt->MS D):DSt->MS Out:=fun Y=>(f Y).b fun _=>MS.p (.nx Y)
def eIf(t:DSt->MS Bool)(g1 g2:DSt->MS Out):DSt->MS Out:=fun Y=>(t Y).b fun b=>if b=true then g1 Y else g2 Y
def eApp(i:Nat)(f:DSt->MS D):DSt->MS Out:=fun Y=>(f Y).b fun d=>match (Y[i]?).join with
 | some (.lst ds)=>if ds.length<sizeLine then MS.p (.nx (Y.set i (some (.lst (ds++[d]))))) else fun _=>none
 | _=>fun _=>none
def ePop(i j:Nat):DSt->MS Out:=fun Y=>match (Y[j]?).join with
 | some (.lst ds)=>match ds[ds.length-1]? with
  | some d=>MS.p (.nx ((Y.set j (some (.lst ds.dropLast))).set i (some d)))
  | none=>fun _=>none
 | _=>fun _=>none
noncomputable def putO(cs:List Str)(f:Str)(x d:D):MS Unit:=fun Ω=>match x with
 | .obj i=>match Ω[i]? with
  | some (.ins c fs)=>if (cs.contains c&&decide (fs.length<1000))=true then some (.ok (),Ω.set i (.ins c (putD f d fs))) else none
  | _=>none
 | _=>none
def ePut(cs:List Str)(f:Str)(fo fv:DSt->MS D):DSt->MS Out:=fun Y=>(fv Y).b fun d=>(fo Y).b fun x=>(putO cs f x d).b fun _=>MS.p (.nx Y)
def forE(g:DSt->MS Out)(tg:D->DSt->Option DSt):List D->DSt->MS Out
 | [],Y=>MS.p (.nx Y)
 | d::ds,Y=>match tg d Y with
  | none=>fun _=>none
  | some Y1=>(g Y1).b fun o=>match o with
   | .nx Y'=>forE g tg ds Y'
   | .ct Y'=>forE g tg ds Y'
   | .bk Y'=>MS.p (.nx Y')
   | .rt v=>MS.p (.rt v)
def eFor(fi:DSt->MS (List D))(tg:D->DSt->Option DSt)(g:DSt->MS Out):DSt->MS Out:=fun Y=>(fi Y).b fun ds=>forE g tg ds Y
section
variable {X:Cx}{O O' O'' B:List Nat}{c e:Expr}{es:List Expr}{fa:DSt->MS D}{fl:DSt->MS (List D)}{pos:Pos}{st:Stmt}{rest:List Stmt}{g g1 g2:DSt->MS Out}{tc:DSt->MS Bool}
def jas(hd:DS X O O' B E0 st h):MSt X O O' B st (lF h):=by
 rintro U s Z H Dn I ⟨Jz,Sz,Hz,F,J,S,Y,Ω,R,r,Ω',hf,k⟩;obtain⟨hg,rfl⟩:=MS.l_inv hf;refine hd _ s Z H Dn I ⟨J,_,_,Y,r,R.rs,hg,?_⟩
 cases r with
 | error x=>exact fun c dx H' _ z=>z.elim
 | ok o =>
  cases o with
  | nx Y'=>exact fun Z' H' v R'=>k J S Z' H' (R.next R' v) (RLe.refl _) v
  | bk Y'=>exact fun Z' H' v R'=>k J S Z' H' (R.next R' v) (RLe.refl _) v
  | ct Y'=>exact fun Z' H' v R'=>k J S Z' H' (R.next R' v) (RLe.refl _) v
  | rt d=>exact fun v H' s' rv=>k v J S H' (R.left s') rv
def jjm:MSs X O O B [] eNx:=by
 rintro U s Z H Dn I ⟨Jz,Sz,Hz,F,J,S,Y,Ω,R,r,Ω',hf,k⟩;cases hf;exact jzv _ s Z H Dn I (k J S Z H R (RLe.refl _) (Same.refl _))
def jac(h1:MSt X O O' B st g1)(h2:MSs X O' O'' B rest g2):MSs X O O'' B (st::rest) (eSeq g1 g2):=by
 rintro U s Z H Dn I ⟨Jz,Sz,Hz,F,J,S,Y,Ω,R,r,Ω',hf,k⟩;refine jug h1 h2 _ s Z H Dn I ?_;rcases MS.b_inv hf with ⟨o,Ω1,e1,hf⟩|⟨x,e1,rfl⟩
 .refine⟨_,_,_,F,J,S,Y,Ω,R,_,Ω1,e1,?_⟩
  cases o with
  | nx Y'=>exact fun J1 S1 Z1 H1 R1 l1 v1=>⟨_,_,_,F,J1,S1,Y',Ω1,R1,r,Ω',hf,k.back l1 v1⟩
  | rt d=>cases hf;exact k
  | bk Y'=>cases hf;exact k
  | ct Y'=>cases hf;exact k
 .exact⟨_,_,_,F,J,S,Y,Ω,R,_,_,e1,trivial⟩
def jai(h1:MSt X O O' B st g):MSs X O O' B [st] g:=fun U s Z H Dn I h=>jzw h1 _ s Z H Dn I h
def jJh(hO:∀ i∈O',i∈O)(h:MSs X O' O'' B sts g):MSs X O O'' B sts g:=by
 rintro U s Z H Dn I ⟨Jz,Sz,Hz,F,J,S,Y,Ω,R,r,Ω',hf,k⟩;exact h _ s Z H Dn I ⟨_,_,_,F,J,S,Y,Ω,R.thaw hO,r,Ω',hf,k.back (RLe.refl _) (jc4 (jtt hO))⟩
def jj9(hN:X.N.Nodup)(he:ME X O e fa)(ho:autoParam (O.contains i=false) zau2._auto_1)(hi:autoParam (X.N[i]? = some x) zau2._auto_1)(hx:autoParam (Loc X.env.scope x) zau5._auto_1)(hs:autoParam (swapsWith e (some (.Name x pos')) pos.line X.env=pure false) zau2._auto_1)
  (hf:autoParam (qg X x) zau6._auto_1):MSt X O O B (.Assign [.Name x pos'] e pos) (eSet i fa):=by
 rintro U s Z H Dn I ⟨Jz,Sz,Hz,F,J,S,Y,Ω,R,r,Ω',hg,k⟩;have ho':i∉O:=fun z=>by grind
 refine jqb hN hi hx he hs hf _ s Z H Dn I ?_;refine bE R hg fun d Ω1 hg v J1 S1 H1 R1 l1 v1 r1=>?_
 cases hg;exact k J1 S1 _ H1 (R1.set ho' r1) l1 (by grind [je5])
def jN0(hN:X.N.Nodup)(h:MA X O es fl)(ho:autoParam (O.contains i=false) zau2._auto_1)(hi:autoParam (X.N[i]? = some x) zau2._auto_1)(hx:autoParam (Loc X.env.scope x) zau5._auto_1)(hs:autoParam (swapsWith (.List es pos2) (some (.Name x pos')) pos.line X.env=pure false) zau2._auto_1)
  (hf:autoParam (qg X x) zau6._auto_1):MSt X O (i::O) B (.Assign [.Name x pos'] (.List es pos2) pos) (eSet i (mL jar fl)):=by
 rintro U s Z H Dn I ⟨Jz,Sz,Hz,F,J,S,Y,Ω,R,r,Ω',hg,k⟩;refine jqb hN hi hx (jp9 h) hs hf _ s Z H Dn I ?_;refine bE R (MS.b_b hg) fun ds Ω1 hg vs J1 S1 H1 R1 l1 v1 r1=>?_
 unfold jar at hg
 split at hg
 .rename_i hz;cases hg;refine⟨by rw[r1.length];exact hz,fun p hp=>?_⟩;obtain⟨t1,t2⟩:=R1.take (fun z=>by rw[zbc.mpr z] at ho;cases ho) (by rw[<- R.rs.len,I.len];exact (zbb.mp hi).1) hp r1;exact k J1 S1 _ _ t1 l1 (v1.trans t2)
 .cases hg
def jhs(he:ME X O e fa):MSt X O O' B (.Return (some e) pos) (eRet fa):=by
 rintro U s Z H Dn I ⟨Jz,Sz,Hz,F,J,S,Y,Ω,R,r,Ω',hg,k⟩;refine jGb he _ s Z H Dn I ?_;refine bE R hg fun d Ω1 hg v J1 S1 H1 R1 l1 v1 r1=>?_
 cases hg;exact k v J1 S1 H1 R1.rt (r1.mono (jc4 jhq))
def jds(he:ME X O e fa)(hs:autoParam (swapsWith e none pos.line X.env=pure false) zau2._auto_1):MSt X O O B (.Expr e pos) (jf6 fa):=by
 rintro U s Z H Dn I ⟨Jz,Sz,Hz,F,J,S,Y,Ω,R,r,Ω',hg,k⟩;refine jl2 he hs _ s Z H Dn I ?_;refine bE R hg fun d Ω1 hg v J1 S1 H1 R1 l1 v1 r1=>?_
 cases hg;exact k J1 S1 Z H1 R1 l1 v1
def jlv(hc:MT X O c tc)(h1:MSs X O O' B s1 g1)(h2:MSs X O O' B s2 g2):MSt X O O' B (.If c s1 s2 pos) (eIf tc g1 g2):=by
 rintro U s Z H Dn I ⟨Jz,Sz,Hz,F,J,S,Y,Ω,R,r,Ω',hg,k⟩;refine jO0 hc h1 h2 _ s Z H Dn I ?_;refine bEB R hg fun z Ω1 hg J1 S1 H1 R1 l1 v1=>?_
 cases z with
 | true=>exact iteT ⟨_,_,_,F,J1,S1,Y,Ω1,R1,r,Ω',hg,k.back l1 v1⟩
 | false=>exact iteF ⟨_,_,_,F,J1,S1,Y,Ω1,R1,r,Ω',hg,k.back l1 v1⟩
def jNz(ho:O.contains i=true)(he:ME X O e fa)(hp:autoParam (Mp X i x "append" e p1 p2 p3 pos) zau8._auto_1) :
  MSt X O O B (.Expr (.Call (.Attribute (.Name x p1) "append" p2) [e] [] p3) pos) (eApp i fa):=by
 rintro U s Z H Dn I ⟨Jz,Sz,Hz,F,J,S,Y,Ω,R,r,Ω',hg,k⟩;obtain⟨⟨hi,hv,hd,hcd⟩,hbase,hfew,hline,hs,hsw⟩:=hp;have ho':=zbc.mp ho;obtain⟨l,xs0,ds0,q1,q2,q3,q4,q5⟩:=R.rs.own i ho';refine jl2 (jvl PySem.F.plainAttrs_list PySem.F.slot_list_append PySem.F.type_list_append jiy (jl1 hi hv hd hcd) (jet he jht hs) hbase hfew hline hs rfl) hsw _ s Z H Dn I ?_;refine⟨_,q2,.inl ⟨rfl,_,SqL.of q3⟩,?_⟩;refine bE R hg fun d Ω1 hg v J1 S1 H1 R1 l1 v1 r1=>?_
 have hj:(Y[i]?).join=some (.lst ds0):=by rw[q1];rfl
 rw[hj] at hg;dsimp only at hg
 split at hg
 .rename_i hz;cases hg;obtain⟨l',xs,ds,p1,p2,p3,p4,p5⟩:=R1.rs.own i ho';rw[q2] at p2;cases p2
  rw[q1] at p1;cases p1
  refine⟨l,xs,v,rfl,rfl,p3,by rw[p5.length];exact hz,?_⟩;refine k J1 S1 Z _ (R1.write ho' q2 (p5.append (Reps.cons r1 Reps.nil))) l1 ?_;rw[jdr (fob_t.mpr (.inr ⟨i,ho',q2⟩))];exact v1
 .cases hg
end
theorem Reps.dropLast:∀ {ds:List D} {vs:List V},Reps J K H ds vs->Reps J K H ds.dropLast vs.dropLast
 | [],_,h=>by rw[reps_nil.mp h];exact Reps.nil
 | [d],_,h=>by
  obtain⟨v,r,rfl,_,t⟩:=reps_cons.mp h;rw[reps_nil.mp t];exact Reps.nil
 | d::e::ds,_,h=>by
  obtain⟨v,r,rfl,q,t⟩:=reps_cons.mp h;obtain⟨w,r2,rfl,q2,t2⟩:=reps_cons.mp t;exact Reps.cons q (Reps.dropLast (Reps.cons q2 t2))
def RS.updF(R:RS J K H1 H F O Z Y)(h:F a=true):RS J K (hid (upd H a o) (fob nof Z O)) (upd H a o) F O Z Y:=by
 have hh:hid (upd H a o) _=hid H (fob F Z O):=jdr (jhq a h);refine⟨R.len,jaf,fun b hb=>jkf (R.fin b hb),fun i d hd hi=>by rw[hh];exact R.val i d hd hi,fun i hi=>?_,R.nd⟩;obtain⟨l,xs,ds,q1,q2,q3,q4,q5⟩:=R.own i hi;refine⟨l,xs,ds,q1,q2,by grind [jam],⟨?_,q4.2⟩,by grind⟩;unfold hid;rw[if_pos (fob_t.mpr (.inr ⟨i,hi,q2⟩))]
def SOk.no_tup(h:SOk J S K mg H Hv a so)(xs:List V):H a≠some (.tup xs):=fun q=>by
 cases so with
 | ins c fs =>
  obtain⟨_,_,_,_,p,_⟩:=h
  grind
 | lst ds =>
  obtain⟨_,p,_⟩:=h
  grind
 | dck _ =>
  obtain⟨_,p,_⟩:=h
  grind
 | exc c j =>
  cases h with
  | no f C h1 h2=>rw[q] at h2;exact jQc (zby h2).symm
  | yes f j C dx h1 h2 h3=>rw[q] at h3;exact jQc (zby h3).symm
 | xd fs =>
  obtain⟨_,p,_⟩:=h;rw[q] at p;exact jSs (zby p).symm
def RM.putS(R:RM Jz Sz Hz F K mg O J S H Z Y Ω)(hi:Ω[i]? = some so0)(ha:J i=some a)(hS:S a=true)(hH:H a=some o0)(hno:∀ y,HO.own y≠o0)(hr:SOk J S K mg (upd H a o') (hid H (fob (un F S) Z O)) a so') :
  RM Jz Sz Hz F K mg O J S (upd H a o') Z Y (Ω.set i so')/\hid (upd H a o') (fob (un F S) Z O)=hid H (fob (un F S) Z O):=by
 have hF:un F S a=true:=un_t.mpr (.inr hS);have hh:hid (upd H a o') (fob _ Z O)=hid H _:=jdr (jhq a hF);refine⟨⟨R.rs.updF hF,R.rho,fun b o h1 h2=>?_,R.old,R.new,R.own0,R.ff,?_⟩,hh⟩
 .have hb:b≠a:=by
   rintro rfl;rcases R.new b hS with q|q
   .grind
   .grind
  rw[jam hb];exact R.same b o h1 h2
 .rw[hh];refine⟨fun j so hj=>?_,R.sto.inj,fun j hj=>R.sto.top j (by grind),fun b hb=>jkf (R.sto.fin b hb),jqu R.sto.tv fun xs z=>hr.no_tup xs (by rw[jaj,z])⟩
  by_cases hji:j=i
  .subst hji;rw[zcz ((zbb.mp hi).1)] at hj;cases hj;exact⟨a,ha,hS,hr⟩
  .rw[zbw (Ne.symm hji)] at hj;obtain⟨a',q1,q2,q3⟩:=R.sto.ats j so hj;have ne:a'≠a:=by
    rintro rfl;exact hji (R.sto.inj j i a' q1 ha)
   exact⟨a',q1,q2,q3.gen (RLe.refl _) (fun _ z=>z) (jam ne) (fun b _ z=>(jam (jJm z hH (hno _))).trans z) (Same.refl _)⟩
def RM.put(R:RM Jz Sz Hz F K mg O J S H Z Y Ω)(hi:Ω[i]? = some (.ins c fs))(ha:J i=some a)(hS:S a=true)(hC:mg c=some (.ref C))(hH:H a=some (.ins C dx vfs))
  (hdx:H dx=some (.own a)) (hSd:S dx=true) (hfl:Flds J K (hid H (fob (un F S) Z O)) fs vfs) (hr:Rep J K (hid H (fob (un F S) Z O)) d v) :
  RM Jz Sz Hz F K mg O J S (upd H a (.ins C dx (putF f v vfs))) Z Y (Ω.set i (.ins c (putD f d fs)))/\hid (upd H a (.ins C dx (putF f v vfs))) (fob (un F S) Z O)=hid H (fob (un F S) Z O) :=
 R.putS hi ha hS hH (fun _ z=>nomatch z) ⟨C,dx,_,hC,jaj,by rw[jam (jJm hdx hH fun z=>nomatch z)];exact hdx,hSd,hfl.put hr⟩
theorem jf5:un (fob F Z O) S=fob (un F S) Z O:=by
 unfold un fob
 grind
def RM.call(R:RM Jz Sz Hz F K mg O J S H Z Y Ω)(l:RLe J J')(sm:∀ b o,S b=false->H b=some o->H' b=some o)(old:∀ b,S b=true->S' b=true)(new:∀ b,S' b=true->S b=true\/H b=none)
  (ff:∀ b,fob F Z O b=true->S' b=false) (sto:StoOk J' S' K mg H' (hid H' (un (fob F Z O) S')) Ω') :
  RM Jz Sz Hz F K mg O J' S' H' Z Y Ω'/\Same (hid H (fob (un F S) Z O)) (hid H' (fob (un F S') Z O)):=by
 have keepS:∀ b o,S b=false->H b=some o->S' b=false:=fun b o h1 h2=>by
  grind
 have vis:Same (hid H (fob _ Z O)) (hid H' (fob _ Z O)):=fun b o q=>by
  obtain⟨q1,q2⟩:=hid_some.mp q;have hu:un F S b=false:=by
   cases e:un F S b with
   | false=>rfl
   | true=>rw[jhq b e] at q1;cases q1
  obtain⟨h1,h2⟩:=un_f.mp hu;refine hid_some.mpr ⟨?_,sm b o h2 q2⟩
  cases e:fob (un F S') Z O b with
  | false=>rfl
  | true =>
   rcases fob_t.mp e with z|z
   .rcases un_t.mp z with z|z<;>grind
   .rw[fob_t.mpr (.inr z)] at q1;cases q1
 have rs:RS J' K (hid H' (fob nof Z O)) H' (un F S') O Z Y:=by
  refine⟨R.rs.len,jaf,fun b hb=>?_,fun i d hd hi=>?_,fun i hi=>?_,R.rs.nd⟩
  .rcases un_t.mp hb with q|q
   .intro z
    cases e:H b with
    | none=>exact (R.rs.fin b (un_t.mpr (.inl q))) e
    | some o=>rw[sm b o (R.ff b q) e] at z;cases z
   .exact sto.fin b q
  .obtain⟨v,q1,q2⟩:=R.rs.val i d hd hi;exact⟨v,q1,(q2.rho l).mono vis⟩
  .obtain⟨a,xs,ds,q1,q2,q3,q4,q5⟩:=R.rs.own i hi;have hS:=(un_f.mp q4.2).2;refine⟨a,xs,ds,q1,q2,sm a _ hS q3,⟨?_,un_f.mpr ⟨(un_f.mp q4.2).1,keepS a _ hS q3⟩⟩,(q5.rho l).mono vis⟩;unfold hid;rw[if_pos (fob_t.mpr (.inr ⟨i,hi,q2⟩))]
 refine⟨⟨rs,R.rho.trans l,fun b o h1 h2=>?_,fun b hb=>old b (R.old b hb),fun b hb=>?_,R.own0,fun b hb=>ff b (fob_t.mpr (.inl hb)),by rw[jf5] at sto;exact sto⟩,vis⟩
 .refine sm b o ?_ (R.same b o h1 h2)
  cases e:S b with
  | false=>rfl
  | true =>
   rcases R.new b e with q|q<;>grind
 .rcases new b hb with q|q
  .exact R.new b q
  .exact .inr (R.fresh00 q)
def addR(J:Rho)(n:Nat)(x:Addr):Rho:=fun i=>if i=n then some x else J i
def addS(S:qd)(x dx:Addr):qd:=fun b=>S b || b == x || b == dx
def addS_t:addS S x dx b=true↔S b=true\/b=x\/b=dx:=by
 simp_all [addS,or_assoc]
def RM.grow(R:RM Jz Sz Hz F K mg O J S H Z Y Ω)(hx:H x=none)(hy:H y=none)(sm:Same H H')(nx:H' x≠none)(ny:H' y≠none)(tv:∀ b xs,H' b=some (.tup xs)->H b=some (.tup xs))
  (hr:∀ J' S' Hv',RLe J J'->S' y=true->Same (hid H (fob (un F S) Z O)) Hv'->SOk J' S' K mg H' Hv' x nso) :
  RM Jz Sz Hz F K mg O (addR J Ω.length x) (addS S x y) H' Z Y (Ω++[nso])/\RLe J (addR J Ω.length x) /\
   Same (hid H (fob (un F S) Z O)) (hid H' (fob (un F (addS S x y)) Z O)):=by
 have top:=R.sto.top _ (zac _);have l:RLe J (addR J Ω.length x):=fun i a h=>by
  unfold addR
  grind
 have old:∀ b,S b=true->addS S x y b=true:=fun b h=>addS_t.mpr (.inl h)
 have new:∀ b,addS S x y b=true->S b=true\/H b=none:=fun b h=>by
  rcases addS_t.mp h with q|rfl|rfl<;>grind
 have ff:∀ b,fob F Z O b=true->addS S x y b=false:=fun b h=>by
  have h2:fob (un F S) Z O b=true:=by rw[<- jf5];exact un_t.mpr (.inl h)
  cases e:addS S x y b with
  | false=>rfl
  | true =>
   rcases addS_t.mp e with q|rfl|rfl
   .rcases fob_t.mp h with z|z
    .rw[R.ff b z] at q;cases q
    .exact absurd z (R.base_S q)
   .rw[R.fresh hx] at h2;cases h2
   .rw[R.fresh hy] at h2;cases h2
 have keep:=R.at_store sm;have vis0:Same (hid H (fob (un F S) Z O)) (hid H' (un _ _)):=fun b o q=>by
  obtain⟨q1,q2⟩:=hid_some.mp q;refine hid_some.mpr ⟨?_,sm b o q2⟩
  cases e:un _ _ b with
  | false=>rfl
  | true =>
   rcases un_t.mp e with z|z
   .have h2:fob (un F S) Z O b=true:=by rw[<- jf5];exact un_t.mpr (.inl z)
    grind
   .rcases new b z with z|z
    .have h2:fob (un F S) Z O b=true:=jhq b (un_t.mpr (.inr z))
     grind
    grind
 have sto:StoOk (addR J Ω.length x) (addS S x y) K mg H' (hid H' (un (fob F Z O) (addS S x y))) (Ω++[nso]):=by
  refine⟨fun i so hi=>?_,fun i j a h1 h2=>?_,fun i hi=>?_,fun b hb=>?_,fun b xs z=>vis0 _ _ (R.sto.tv b xs (tv b xs z))⟩
  .by_cases h:i<Ω.length
   .rw[List.getElem?_append_left h] at hi;obtain⟨a,q1,q2,q3⟩:=R.sto.ats i so hi;exact⟨a,l i a q1,old a q2,q3.gen l old (keep a q2) (fun b _ z=>sm _ _ z) vis0⟩
   .have e:i=Ω.length:=by
     have:=(zbb.mp hi).1;simp at this;lia
    subst e;rw[List.getElem?_append_right (zac _),Nat.sub_self] at hi;cases hi;exact⟨x,by unfold addR;grind,addS_t.mpr (.inr (.inl rfl)),hr _ _ _ l (addS_t.mpr (.inr (.inr rfl))) vis0⟩
  .have fresh:∀ i a,i≠Ω.length->J i=some a->a≠x:=fun i a hi h z=>by
    subst z;have il:i<Ω.length:=by
     by_cases q:i<Ω.length
     .exact q
     .rw[R.sto.top i (by lia)] at h;cases h
    obtain⟨a',q1,q2,_⟩:=R.sto.ats i _ (zax il);rw[h] at q1;cases q1
    exact R.sto.fin a q2 hx
   unfold addR at h1 h2
   by_cases e1:i=Ω.length
   .grind
   .by_cases e2:j=Ω.length
    .grind
    .rw[if_neg e1] at h1;rw[if_neg e2] at h2
     exact R.sto.inj i j a h1 h2
  .rw[zcb,List.length_singleton] at hi;unfold addR;rw[if_neg (by lia)];exact R.sto.top i (by lia)
  .rcases addS_t.mp hb with q|rfl|rfl
   .rw[keep b q];exact R.sto.fin b q
   .exact nx
   .exact ny
 obtain⟨t1,t2⟩:=R.call l (fun b o _ h=>sm b o h) old new ff sto
 grind
def RM.make(R:RM Jz Sz Hz F K mg O J S H Z Y Ω)(hC:mg c=some (.ref C))(hx:H x=none)(hdx:H dx=none)(ne:dx≠x) :
  RM Jz Sz Hz F K mg O (addR J Ω.length x) (addS S x dx) (upd (upd H dx (.own x)) x (.ins C dx [])) Z Y (Ω++[.ins c []])/\RLe J (addR J Ω.length x) /\
   Same (hid H (fob (un F S) Z O)) (hid (upd (upd H dx (.own x)) x (.ins C dx [])) (fob (un F (addS S x dx)) Z O)) :=
 R.grow hx hdx ((jal hdx).trans (jal (by grind [jam]))) (by rw[jaj];nofun) (by rw[jam ne,jaj];nofun)
  (fun b xs z=>by unfold upd at z;grind) fun _ _ _ _ s _=>⟨C,dx,[],hC,jaj,by rw[jam ne,jaj],s,rfl⟩
inductive spE(K:W.Frag)(mg:qa)(n:Nat)(m:List D->MS D)(vs:List V)(H:Hp)(Q:VK)(E:XK):Prop
 | mk (hn:vs.length=n) (J:Rho) (S F:qd) (ds:List D) (Ω:Sto) (hF:∀ b,F b=true->H b≠none) (hS:∀ b,F b=true->S b=false) (hr:Reps J K (hid H (un F S)) ds vs) (hs:StoOk J S K mg H (hid H (un F S)) Ω) (r:Except XD D) (Ω':Sto) (hf:m ds Ω=some (r,Ω')) (k:match (generalizing:=false) r with
  | .ok d=>∀ v J' S' H',RLe J J'->(∀ b o,S b=false->H b=some o->H' b=some o)->(∀ b,S b=true->S' b=true)->(∀ b,S' b=true->S b=true\/H b=none)->(∀ b,F b=true->S' b=false)->StoOk J' S' K mg H' (hid H' (un F S')) Ω'->Rep J' K (hid H' (un F S')) d v->Q v H'
  | .error _=>True)
inductive MetX(P:Program)(w:World)(K:W.Frag)(mg:qa)(base:Heap)(k:Nat)(c x:Str)(n:Nat)(sp:Sp):Prop
 | mk (C f:Addr) (fd:FuncData) (ps:List Str) (h1:ps.length=n) (h2:mg c=some (.ref C)) (h3:Cls K C) (h4:Meth K C x f) (h5:Binds K fd ps []) (h6:FnOk P w K mg base CX0 k f fd ps sp)
inductive IniX(P:Program)(w:World)(K:W.Frag)(mg:qa)(base:Heap)(k:Nat)(c:Str)(n:Nat)(sp:Sp):Prop
 | mk (C f:Addr) (fd:FuncData) (ps:List Str) (h1:ps.length=n) (h2:mg c=some (.ref C)) (h3:Mk K C f) (h4:Binds K fd ps []) (h5:FnOk P w K mg base CX0 k f fd ps sp)
structure CalE(P:Program)(w:World)(K:W.Frag)(mg:qa)(base:Heap)(k:Nat)(x:Str)(n:Nat)(m:List D->MS D):Prop where
 ex:CalX P w K mg base k x n (spE K mg n m)
 ar:∀ ds Ω r,m ds Ω=some r->ds.length=n
structure MetE(P:Program)(w:World)(K:W.Frag)(mg:qa)(base:Heap)(k:Nat)(c x:Str)(n:Nat)(m:List D->MS D):Prop where
 ex:MetX P w K mg base k c x n (spE K mg n m)
 ar:∀ ds Ω r,m ds Ω=some r->ds.length=n
structure IniE(P:Program)(w:World)(K:W.Frag)(mg:qa)(base:Heap)(k:Nat)(c:Str)(n:Nat)(m:List D->MS D):Prop where
 ex:IniX P w K mg base k c n (spE K mg n m)
 ar:∀ ds Ω r,m ds Ω=some r->ds.length=n
def outE:Out->MS D
 | .rt d=>MS.p d
 | .nx _=>MS.p .non
 | _=>fun _=>none
def mirE(n N:Nat)(g:DSt->MS Out):List D->MS D:=fun ds=>if ds.length=n then (g (startD N ds)).b outE else fun _=>none
def jr0:∀ ds Ω r,mirE n N g ds Ω=some r->ds.length=n:=fun ds Ω r h=>by
 grind [mirE]
section
variable {P:Program}{w:World}{K:W.Frag}{mg:qa}{base:Heap}
def fn_E(F:Fun K x q st f fd)(Sc:FnScope N ps (jab st))
  (hbody:∀ (f:Addr) (cdv:Value) (A:Around) (outer:List Env) (s:Shared) (H:Hp) (E:XK),Room k (A.deeper (PyProof.Rows.envOfC q (jab st) s.heap.objs.size f cdv)) ->
   MSs (cxOf CX0 P w K mg base N q (jab st) f cdv A outer s H E).nox [] O' [] (jaw st) g):FnOk P w K mg base CX0 (k+1) f fd ps (spE K mg ps.length (mirE ps.length N.length g)):=by
 refine F.ok Sc (fun vs H Q E h=>h.1) fun cdv A outer s H vs Q E hr h=>?_
 obtain⟨hl,J,S,F',ds,Ω,fin,ff,rp,sto,r,Ω',hmr,k0⟩:=h;refine⟨_,hbody f cdv A _ s H E hr,?_⟩;have hdl:ds.length=ps.length:=by rw[<- rp.length];exact hl
 unfold mirE at hmr;rw[if_pos hdl] at hmr;have R:RM J S H F' K mg [] J S H (L2.start N vs) (startD N.length ds) Ω:=by
  refine⟨⟨?_,jaf,fun b hb=>?_,fun i d hd _=>?_,fun i hi=>absurd hi (by simp),fun i hi=>absurd hi (by simp)⟩,RLe.refl _,fun b o _ h=>h,fun b h=>h,fun b h=>.inl h,fun i hi=>absurd hi (by simp),ff,by grind [jcg]⟩
  .grind [L2.start,startD]
  .rcases un_t.mp hb with z|z
   .exact fin b z
   .exact sto.fin b z
  .obtain⟨v,e,rv⟩:=rp.get (jm9 hd)
   grind [jqo,jcg]
 rcases MS.b_inv hmr with ⟨o,Ω1,e1,hmr⟩|⟨y,e1,rfl⟩
 .refine⟨J,S,H,F',J,S,_,Ω,R,_,Ω1,e1,?_⟩
  cases o with
  | rt d =>
   cases hmr;exact fun v J' S' H' T rv=>k0 v J' S' H' T.rho T.same T.old T.new T.ff T.sto rv
  | nx Y =>
   cases hmr;exact fun J' S' Z' H' R' _ _=>k0 _ J' S' H' R'.rt.rho R'.rt.same R'.rt.old R'.rt.new R'.rt.ff R'.rt.sto (rep_non.mpr rfl)
  | bk Y=>cases hmr
  | ct Y=>cases hmr
 .exact⟨J,S,H,F',J,S,_,Ω,R,_,_,e1,trivial⟩
def jc9(hf:jot K mg x st ps)(S:FnScope N ps (jab st))
  (hbody:∀ (f:Addr) (cdv:Value) (A:Around) (outer:List Env) (s:Shared) (H:Hp) (E:XK),Room k (A.deeper (PyProof.Rows.envOfC x (jab st) s.heap.objs.size f cdv)) ->
   MSs (cxOf CX0 P w K mg base N x (jab st) f cdv A outer s H E).nox [] O' [] (jaw st) g):CalE P w K mg base (k+1) x ps.length (mirE ps.length N.length g):=by
 obtain⟨f,fd,hm,F,hb⟩:=hf;exact⟨⟨f,fd,ps,rfl,hm,F.kp,hb,fn_E F S hbody⟩,jr0⟩
structure MetAt(K:W.Frag)(mg:qa)(c x q:Str)(st:Stmt)(ps:List Str):Prop where
 ex:∃ C f fd,mg c=some (.ref C)/\Cls K C/\Meth K C x f/\Fun K x q st f fd/\Binds K fd ps []
structure IniAt(K:W.Frag)(mg:qa)(c q:Str)(st:Stmt)(ps:List Str):Prop where
 ex:∃ C f fd,mg c=some (.ref C)/\Mk K C f/\Fun K "__init__" q st f fd/\Binds K fd ps []
def jrz(hf:MetAt K mg c x q st ps)(S:FnScope N ps (jab st))
  (hbody:∀ (f:Addr) (cdv:Value) (A:Around) (outer:List Env) (s:Shared) (H:Hp) (E:XK),Room k (A.deeper (PyProof.Rows.envOfC q (jab st) s.heap.objs.size f cdv)) ->
   MSs (cxOf CX0 P w K mg base N q (jab st) f cdv A outer s H E).nox [] O' [] (jaw st) g):MetE P w K mg base (k+1) c x ps.length (mirE ps.length N.length g):=by
 obtain⟨C,f,fd,hm,hc,hM,F,hb⟩:=hf.ex;exact⟨⟨C,f,fd,ps,rfl,hm,hc,hM,hb,fn_E F S hbody⟩,jr0⟩
def jIn(hf:IniAt K mg c q st ps)(S:FnScope N ps (jab st))
  (hbody:∀ (f:Addr) (cdv:Value) (A:Around) (outer:List Env) (s:Shared) (H:Hp) (E:XK),Room k (A.deeper (PyProof.Rows.envOfC q (jab st) s.heap.objs.size f cdv)) ->
   MSs (cxOf CX0 P w K mg base N q (jab st) f cdv A outer s H E).nox [] O' [] (jaw st) g):IniE P w K mg base (k+1) c ps.length (mirE ps.length N.length g):=by
 obtain⟨C,f,fd,hm,hM,F,hb⟩:=hf.ex;exact⟨⟨C,f,fd,ps,rfl,hm,hM,hb,fn_E F S hbody⟩,jr0⟩
def jIt{m:List D->MS D}{H:Hp}{a:Addr}{ns:List Int}{Ω':Sto}(hS:SqL K H a (ns.map V.int))(h:m [.lst (ns.map .int)] []=some (.ok (.bl true),Ω')):spE K mg 1 m [.ref a] H (fun v _=>v=.bl true) fun _ _ _=>False:=by
 refine⟨rfl,fun _=>none,fun _=>false,fun _=>false,_,[],(fun b hb=>by cases hb),(fun b hb=>by cases hb),Reps.cons (rep_lst.mpr ⟨a,_,rfl,?_,reps_ints.mpr rfl⟩) Reps.nil,⟨fun i so hi=>by simp at hi,fun i j a h=>(nomatch h),fun i _=>rfl,(fun b hb=>by cases hb),fun _ _ q=>q⟩,_,_,h,fun v J' S' H' _ _ _ _ _ _ r=>rep_bl.mp r⟩;have:hid H (un (fun _=>false) fun _=>false)=H:=by rfl
 grind
end
def jcz(m:List D->MS D)(fl:DSt->MS (List D)):DSt->MS D:=fun Y=>(fl Y).b m
def jgu(m:List D->M D)(fl:DSt->MS (List D)):DSt->MS D:=fun Y=>(fl Y).b fun ds=>MS.l (m ds)
def jn3(c x:Str)(m:List D->MS D)(i:Nat)(fl:DSt->MS (List D))(Y:DSt):MS D:=fun Ω=>match Ω[i]? with
 | some (.ins c' fs)=>if c'=c/\fs.lookup x=none then ((fl Y).b fun ds=>m (.obj i::ds)) Ω else none
 | _=>none
def jmm(c x:Str)(m:List D->MS D)(fo:DSt->MS D)(fl:DSt->MS (List D)):DSt->MS D:=fun Y=>(fo Y).b fun o=>match o with
 | .obj i=>jn3 c x m i fl Y
 | _=>fun _=>none
def jyk(c:Str)(m:List D->MS D)(ds:List D):MS D:=fun Ω=>((m (.obj Ω.length::ds)).b fun d=>match d with
 | .non=>MS.p (.obj Ω.length)
 | _=>fun _=>none) (Ω++[.ins c []])
def jpv(c:Str)(m:List D->MS D)(fl:DSt->MS (List D)):DSt->MS D:=fun Y=>(fl Y).b fun ds=>jyk c m ds
section
variable {X:Cx}
def jql{m:List D->MS D}{ds:List D}{vs:List V}{r:Except XD D}{Q:VK}{E:XK}(R:RM Jz Sz Hz F X.K X.mg O J S H Z Y Ω)(hl:ds.length=n)(hr:Reps J X.K (hid H (fob (un F S) Z O)) ds vs)(hm:m ds Ω=some (r,Ω'))
  (k:kX Rep Jz Sz Hz F X.K X.mg O Z Y Q J (hid H (fob (un F S) Z O)) r Ω'):spE X.K X.mg n m vs H Q E:=by
 refine⟨by rw[hr.length];exact hl,J,S,_,ds,Ω,fun b hb=>?_,fun b hb=>?_,by rw[jf5];exact hr,by rw[jf5];exact R.sto,r,Ω',hm,?_⟩
 .intro z;have:=R.fresh z;rw[<- jf5,un_t.mpr (.inl hb)] at this;cases this
 .rcases fob_t.mp hb with z|z
  .exact R.ff b z
  .cases e:S b with
   | false=>rfl
   | true=>exact absurd z (R.base_S e)
 .cases r with
  | error x=>trivial
  | ok d =>
   intro v J' S' H' l sm old new ff sto rv;obtain⟨t1,t2⟩:=R.call l sm old new ff sto;rw[jf5] at rv;exact k v J' S' H' t1 l t2 rv
def jbq(C:CalE X.prog X.w X.K X.mg X.base k x n m)(hr:Room k X.A)(ha:MA X O (e::es) fl)(hg:autoParam (Gl X x) zau2._auto_1)(hdb:autoParam (qh x) zau0._auto_1)(he:autoParam (zsE e es X.env) zau2._auto_1)
  (hpl:autoParam (zbT pos es X.env) zau2._auto_1):ME X O (.Call (.Name x p) (e::es) [] pos) (jcz m fl):=by
 obtain⟨f,fd,ps,hl,hm,hk,hb,G⟩:=C.ex;rintro U s Z H Q I ⟨Jz,Sz,Hz,F,J,S,Y,Ω,R,r,Ω',hf,k⟩;refine jsa G hr hg hm hk hb .nil (fun _ _ _ _ _ _ _ z=>z.elim) ha hdb he hpl _ s Z H Q I (E:=E0) ?_;refine bE R hf fun ds Ω1 hf vs J1 S1 H1 R1 l1 v1 r1=>?_
 rw[List.append_nil];exact jql R1 (C.ar ds Ω1 _ hf) r1 hf (k.up l1 v1)
def jhe(C:Cal X.prog X.w X.K X.mg X.base k x n m)(hr:Room k X.A)(ha:MA X O (e::es) fl)(hg:autoParam (Gl X x) zau2._auto_1)(hdb:autoParam (qh x) zau0._auto_1)(he:autoParam (zsE e es X.env) zau2._auto_1)
  (hpl:autoParam (zbT pos es X.env) zau2._auto_1):ME X O (.Call (.Name x p) (e::es) [] pos) (jgu m fl):=by
 obtain⟨f,fd,ps,hl,hm,hk,hb,G⟩:=C.ex;rintro U s Z H Q I ⟨Jz,Sz,Hz,F,J,S,Y,Ω,R,r,Ω',hf,k⟩;refine jsa G hr hg hm hk hb .nil (fun _ _ _ _ _ _ _ z=>z.elim) ha hdb he hpl _ s Z H Q I (E:=E0) ?_;refine bE R hf fun ds Ω1 hf vs J1 S1 H1 R1 l1 v1 r1=>?_
 rw[List.append_nil];obtain⟨hg,rfl⟩:=MS.l_inv hf;refine⟨by rw[r1.length];exact C.ar ds r hg,J1,ds,r,_,fun b hb z=>?_,r1,hg,?_⟩
 .rw[R1.fresh z] at hb;cases hb
 .cases r with
  | ok d=>exact fun v H' s' rv=>k v J1 S1 H' (R1.mono s') l1 (v1.trans (jad s')) rv
  | error y=>exact fun c dx H' s' xr=>xr.elim
def jtw{od:D}(h:(match od with
   | .obj i=>jn3 c x m i fl Y
   | _=>fun _=>none:MS D) Ω=some (r,Ω')):∃ i fs,od=.obj i/\Ω[i]? = some (.ins c fs)/\fs.lookup x=none/\((fl Y).b fun ds=>m (.obj i::ds)) Ω=some (r,Ω'):=by
 cases od with
 | obj i =>
  have h2:jn3 c x m i fl Y Ω=some _:=h;unfold jn3 at h2
  grind
 | _=>cases h
def jrw(C:MetE X.prog X.w X.K X.mg X.base k c x n m)(hr:Room k X.A)(ho:ME X O o fo)(ha:MA X O (e::es) fl)(hst:autoParam (zsE e es X.env) zau2._auto_1)(hpl:autoParam (zbT pos es X.env) zau2._auto_1)
  (ht:eval (.Call (.Attribute o x apos) (e::es) [] pos) X.env=(do
   let ov <- eval o X.env
   standAt apos.atName
   let (f,first) <- holding [ov] (getMethod ov x pl)
   callWith pos f first (backTo pos (starEach (e::es) X.env)) (backToKw pos (keywordEach [] X.env))):=by rfl):ME X O (.Call (.Attribute o x apos) (e::es) [] pos) (jmm c x m fo fl):=by
 obtain⟨Ca,f,fd,ps,hl,hm,hc,hM,hb,G⟩:=C.ex;rintro U s Z H Q I ⟨Jz,Sz,Hz,F,J,S,Y,Ω,R,r,Ω',hf,k⟩;refine jKa ho hc hM G hr hb .nil (fun _ _ _ _ _ _ _ z=>z.elim) ha hst hpl ht _ s Z H Q I (E:=E0) ?_;refine bE R hf fun od Ω1 hf v J1 S1 H1 R1 l1 v1 r1=>?_
 obtain⟨i,fs,rfl,hi,hno,hf2⟩:=jtw hf;obtain⟨ad,q1,q2⟩:=rep_obj.mp r1;obtain⟨ad',p1,p2,C',dx,vfs,p3,p4,p5,p6,p7⟩:=R1.sto.ats i _ hi;rw[q1] at p1;cases p1
 rw[hm] at p3;cases p3
 refine⟨ad,dx,vfs,q2,p4,p7.none hno,?_⟩;refine bE R1 hf2 fun ds Ω2 hf3 vs J2 S2 H2 R2 l2 v2 r2=>?_
 rw[List.append_nil];refine jql R2 (C.ar _ _ _ hf3) (Reps.cons ((r1.rho l2).mono v2) r2) hf3 ?_
 cases r with
 | error y=>trivial
 | ok d=>exact fun v' J3 S3 H3 R3 l3 v3 r3=>k v' J3 S3 H3 R3 (l1.trans (l2.trans l3)) (v1.trans (v2.trans v3)) r3
def jn1(C:MetE X.prog X.w X.K X.mg X.base k c x n m)(hr:Room k X.A)(ho:ME X O o fo)
  (ht:eval (.Call (.Attribute o x apos) [] [] pos) X.env=(do
   let ov <- eval o X.env
   standAt apos.atName
   let (f,first) <- holding [ov] (getMethod ov x pl)
   callWith pos f first (backTo pos (starEach [] X.env)) (backToKw pos (keywordEach [] X.env))):=by rfl):ME X O (.Call (.Attribute o x apos) [] [] pos) (jmm c x m fo (lF fNil)):=by
 obtain⟨Ca,f,fd,ps,hl,hm,hc,hM,hb,G⟩:=C.ex;rintro U s Z H Q I ⟨Jz,Sz,Hz,F,J,S,Y,Ω,R,r,Ω',hf,k⟩;refine jDm ho hc hM G hr hb .nil (fun _ _ _ _ _ _ _ z=>z.elim) ht _ s Z H Q I (E:=E0) ?_;refine bE R hf fun od Ω1 hf v J1 S1 H1 R1 l1 v1 r1=>?_
 obtain⟨i,fs,rfl,hi,hno,hf2⟩:=jtw hf;obtain⟨ad,q1,q2⟩:=rep_obj.mp r1;obtain⟨ad',p1,p2,C',dx,vfs,p3,p4,p5,p6,p7⟩:=R1.sto.ats i _ hi;rw[q1] at p1;cases p1
 rw[hm] at p3;cases p3
 refine⟨ad,dx,vfs,q2,p4,p7.none hno,?_⟩;have hf3:=hf2;refine jql R1 (C.ar _ _ _ hf3) (Reps.cons r1 Reps.nil) hf3 ?_
 cases r with
 | error y=>trivial
 | ok d=>exact fun v' J3 S3 H3 R3 l3 v3 r3=>k v' J3 S3 H3 R3 (l1.trans l3) (v1.trans v3) r3
def jI5{m:List D->MS D}{Ca f:Addr}{vs:List V}{ds:List D}{r:Except XD D}{Q:VK}(hm:X.mg c=some (.ref Ca))(ar:∀ ds Ω r,m ds Ω=some r->ds.length=n)(R:RM Jz Sz Hz F X.K X.mg O J S H Z Y Ω)(hr:Reps J X.K (hid H (fob (un F S) Z O)) ds vs)(hf:jyk c m ds Ω=some (r,Ω'))
  (k:kX Rep Jz Sz Hz F X.K X.mg O Z Y Q J (hid H (fob (un F S) Z O)) r Ω'):∀ x dx,H x=none->H dx=none->dx≠x->spE X.K X.mg n m (.ref x::vs) (upd (upd H dx (.own x)) x (.ins Ca dx [])) (fun v H2=>v=.non/\Q (.ref x) H2) E0:=by
 intro x dx hx hdx ne;obtain⟨t1,t2,t3⟩:=R.make hm hx hdx ne;have hob:Rep (addR J Ω.length x) X.K (hid (upd (upd H dx (.own x)) x (.ins Ca dx [])) (fob (un F (addS S x dx)) Z O)) _ _:=rep_obj.mpr ⟨x,by unfold addR;rw[if_pos rfl],rfl⟩;rcases MS.b_inv hf with ⟨d,Ω1,e1,hf⟩|⟨y,e1,rfl⟩
 .refine jql t1 (ar _ _ _ e1) (Reps.cons hob ((hr.rho t2).mono t3)) e1 ?_;intro v J2 S2 H2 R2 l2 v2 r2
  cases d with
  | non =>
   cases hf;exact⟨rep_non.mp r2,k _ J2 S2 H2 R2 (t2.trans l2) (t3.trans v2) ((hob.rho l2).mono v2)⟩
  | _=>cases hf
 .exact jql t1 (ar _ _ _ e1) (Reps.cons hob ((hr.rho t2).mono t3)) e1 trivial
def jyp(C:IniE X.prog X.w X.K X.mg X.base k c n m)(hr:Room (k+1) X.A)(ha:MA X O (e::es) fl)(hg:autoParam (Gl X c) zau2._auto_1)(hdb:autoParam ((c == ("__debug__":Str))=false) zau0._auto_1)(he:autoParam (zsE e es X.env) zau2._auto_1)
  (hpl:autoParam (zbT pos es X.env) zau2._auto_1):ME X O (.Call (.Name c p) (e::es) [] pos) (jpv c m fl):=by
 obtain⟨Ca,f,fd,ps,hl,hm,hM,hb,G⟩:=C.ex;rintro U s Z H Q I ⟨Jz,Sz,Hz,F,J,S,Y,Ω,R,r,Ω',hf,k⟩;refine jJ9 hM G hr hg hm hb .nil (fun _ _ _ _ _ _ _ z=>z.elim) ha hdb he hpl _ s Z H Q I (E:=E0) ?_;refine bE R hf fun ds Ω1 hf vs J1 S1 H1 R1 l1 v1 r1=>?_
 rw[List.append_nil];exact jI5 (f:=f) hm C.ar R1 r1 hf (k.up l1 v1)
end
abbrev tEI:=@tX _ _ fun J K V ds Jq=>ItD J K Jq ds V
def MI(X:Cx)(O:List Nat)(tg iter:Expr)(f:DSt->MS (List D)):Prop:=PI X tg iter (tEI X.K X.mg O f)
section
variable {X:Cx}{O B:List Nat}{b c e o iter tg:Expr}{fo fv:DSt->MS D}{fi:DSt->MS (List D)}{pos:Pos}{g:DSt->MS Out}{f:Str}{cs:List Str}
def jlu{f:DSt->M (List D)}(h:DI X O E0 tg iter f):MI X O tg iter (lF f):=by
 rintro U s Z H Q I ⟨Jz,Sz,Hz,F,J,S,Y,Ω,R,r,Ω',hf,k⟩;obtain⟨hg,rfl⟩:=MS.l_inv hf;refine h _ s Z H Q I ⟨J,_,_,Y,r,R.rs,hg,?_⟩
 cases r with
 | ok d=>exact fun Jq H' s' it=>k Jq J S H' (R.mono s') (RLe.refl _) (jad s') it
 | error x=>exact fun c dx H' _ z=>z.elim
def jB6{r:Except XD Out}(h:((putO cs f x d).b fun _=>MS.p (.nx Y)) Ω=some (r,Ω')):∃ i cl fs,x=.obj i/\Ω[i]? = some (.ins cl fs)/\cs.contains cl=true/\fs.length<1000/\r=.ok (.nx Y)/\Ω'=Ω.set i (.ins cl (putD f d fs)):=by
 unfold MS.b putO at h
 cases x with
 | obj i =>
  dsimp only at h
  cases hi:Ω[i]? with
  | none=>grind
  | some so =>
   rw[hi] at h
   cases so with
   | lst _=>cases h
   | dck _=>cases h
   | exc _ _=>cases h
   | xd _=>cases h
   | ins cl fs =>
    dsimp only at h
    by_cases hcl:(cs.contains cl&&decide (fs.length<1000))=true
    .rw[if_pos hcl] at h;cases h
     grind
    grind
 | _=>cases h
def jhr(hc:jGs X cs f)(ho:ME X O o fo)(hv:ME X O e fv)(hs:autoParam (swapsWith e (some (.Attribute o f pos')) pos.line X.env=pure false) zau2._auto_1):MSt X O O B (.Assign [.Attribute o f pos'] e pos) (ePut cs f fo fv):=by
 rintro U s Z H Dn I ⟨Jz,Sz,Hz,F,J,S,Y,Ω,R,r,Ω',hf,k⟩;refine jOz ho hv hs _ s Z H Dn I ?_;refine bE R hf fun d Ω1 hf v J1 S1 H1 R1 l1 v1 r1=>?_
 refine bE R1 hf fun x Ω2 hf u J2 S2 H2 R2 l2 v2 r2=>?_
 obtain⟨i,cl,fs,rfl,hi,hcl,hlt,rfl,rfl⟩:=jB6 hf;obtain⟨ad,q1,q2⟩:=rep_obj.mp r2;obtain⟨ad',p1,p2,C,dx,vfs,p3,p4,p5,p6,p7⟩:=R2.sto.ats i _ hi;rw[q1] at p1;cases p1
 obtain⟨g1,g2⟩:=hc cl (zbc.mp hcl) C p3;obtain⟨t1,t2⟩:=R2.put hi q1 p2 p3 p4 p5 p6 p7 ((r1.rho l2).mono v2);exact⟨ad,C,dx,vfs,q2,p4,g1,g2,by rw[p7.length];exact hlt,k J2 S2 Z _ t1 (l1.trans l2) (by rw[t2];exact v1.trans v2)⟩
def jN1(hN:X.N.Nodup)(ho:O.contains j=true)(hoi:autoParam (O.contains i=false) zau2._auto_1)(hi:autoParam (X.N[i]? = some x) zau2._auto_1)(hj:autoParam (X.N[j]? = some y) zau2._auto_1)(hx:autoParam (Loc X.env.scope x) zau5._auto_1)
  (hv:autoParam (Vis X.env.scope y) zau3._auto_1)
  (hd:autoParam ((y == ("__debug__":Str))=false) zau0._auto_1) (hcd:autoParam ((y == ("__classdict__":Str))=false) zau0._auto_1) (hbase:autoParam (attributeBase (.Name y p1) "pop" X.env (eval (.Name y p1) X.env)=eval (.Name y p1) X.env) zau2._auto_1) (hline:autoParam ((p2.endLine == p3.line)=true) zau2._auto_1)
  (hs:autoParam (swapsWith (.Call (.Attribute (.Name y p1) "pop" p2) [] [] p3) (some (.Name x pos')) pos.line X.env=pure false) zau2._auto_1) (hf:autoParam (qg X x) zau6._auto_1) :
  MSt X O O B (.Assign [.Name x pos'] (.Call (.Attribute (.Name y p1) "pop" p2) [] [] p3) pos) (ePop i j):=by
 rintro U s Z H Dn I ⟨Jz,Sz,Hz,F,J,S,Y,Ω,R,r,Ω',hg,k⟩;have ho':=zbc.mp ho;have hoi':i∉O:=fun z=>by grind
 obtain⟨l,xs,ds,q1,q2,q3,q4,q5⟩:=R.rs.own j ho';refine jqb hN hi hx (jF8 PySem.F.plainAttrs_list PySem.F.slot_list_pop PySem.F.type_list_pop jN3 (jl1 hj hv hd hcd) hbase hline) hs hf _ s Z H Dn I ?_;refine⟨_,q2,.inl ⟨rfl,_,SqL.of q3⟩,?_⟩;unfold ePop at hg;have hjj:(Y[j]?).join=some (.lst ds):=by rw[q1];rfl
 rw[hjj] at hg;dsimp only at hg
 cases hl:ds[ds.length-1]? with
 | none=>grind
 | some d =>
  rw[hl] at hg;cases hg;obtain⟨v,w1,w2⟩:=q5.get hl;have hh:hid (upd H l (.lst xs.dropLast)) (fob (un F S) Z O)=hid H _:=jdr (fob_t.mpr (.inr ⟨j,ho',q2⟩));refine⟨l,xs,v,rfl,rfl,q3,by rw[q5.length];exact w1,?_⟩;refine k J S _ _ ((R.write ho' q2 q5.dropLast).set hoi' (by grind)) (RLe.refl _) ?_
  grind [je5,Same.refl]
def jtx(hp:PassesOwn (model X.prog X.w) X.A X.env X.xe)(hc:X.calm=true)(hi:MI X O tg iter fi)(hg:DG X O tg h)(hb:MSs X O O O body g)
  (hs:autoParam (∀ x,foldedSetIterable iter X.env x=pure x) zau9._auto_1):MSt X O O B (.For tg iter body [] pos) (eFor fi h g):=by
 rintro U s Z H Dn I ⟨Jz,Sz,Hz,F,J,S,Y,Ω,R,r,Ω',hgf,k⟩;refine jzs hp hc hi hg hb hs _ s Z H Dn I ?_;refine bE R hgf fun ds Ω1 hgf Jq J1 S1 H1 R1 l1 v1 it=>?_
 refine⟨fun i m Z' H'=>m=ds.length-i/\i<=ds.length/\∃ J' S' Y' Ω2,RM _ _ _ F X.K _ O J' S' H' Z' Y' Ω2/\RLe J1 J'/\Same _ (hid H' (fob (un F S') Z' O))/\forE g h (ds.drop i) Y' Ω2=some _,
  ⟨ds.length,by simp,Nat.zero_le _,J1,S1,Y,Ω1,R1,RLe.refl _,Same.refl _,hgf⟩,?_⟩
 rintro i m Z' H' ⟨rfl,hil,J',S',Y',Ω2,R',l',f',hr⟩;obtain⟨j1,j2⟩:=it H' _ i f' (fun p hp=>R'.fresh hp)
 by_cases hlt:i<ds.length
 .obtain⟨go,yld⟩:=j1 hlt;refine .inr ⟨go,fun Z2 H2=>∃ J2 S2 Y2 Ω3,RM _ _ _ F X.K _ O J2 S2 H2 Z2 Y2 Ω3/\RLe J1 J2/\Same _ _/\forE g h _ Y2 Ω3=some _,fun Z2 H2 ⟨J2,S2,Y2,Ω3,a1,a2,a3,a4⟩=>⟨_,by omega,rfl,hlt,J2,S2,Y2,Ω3,a1,a2,a3,a4⟩,fun x H2 y=>?_⟩;obtain⟨s2,d,hd,rd⟩:=yld x H2 y;have hdr:ds.drop i=d::ds.drop (i+1):=by
   rw[List.drop_eq_getElem_cons hlt];have:=by rw[zax hlt] at hd;exact zby hd
   rw[this]
  rw[hdr] at hr;unfold forE at hr
  cases e2:h d Y' with
  | none=>grind
  | some Y1 =>
   rw[e2] at hr;have R2:=R'.mono s2;have f2:=f'.trans (jad s2);refine⟨J',_,_,Y',d,Y1,R2.rs,rd.rho l',e2,fun Z3 ef R3=>?_⟩;have R3':=R2.next R3 (by grind [Same.refl]);rcases MS.b_inv hr with ⟨o,Ω3,e3,hr⟩|⟨y,e3,rfl⟩
   .refine⟨_,_,_,F,J',S',Y1,Ω2,R3',_,Ω3,e3,?_⟩;rw[ef]
    cases o with
    | nx Y4=>exact fun J4 S4 Z4 H4 R4 l4 v4=>⟨J4,S4,Y4,Ω3,R4,l'.trans l4,f2.trans v4,hr⟩
    | ct Y4=>exact fun J4 S4 Z4 H4 R4 l4 v4=>⟨J4,S4,Y4,Ω3,R4,l'.trans l4,f2.trans v4,hr⟩
    | bk Y4=>cases hr;exact fun J4 S4 Z4 H4 R4 l4 v4=>k J4 S4 Z4 H4 R4 (l1.trans (l'.trans l4)) (v1.trans (f2.trans v4))
    | rt v=>cases hr;exact k
   .exact⟨_,_,_,F,J',S',Y1,Ω2,R3',_,_,e3,trivial⟩
 .have ei:i=ds.length:=by omega
  subst ei;rw[List.drop_length] at hr;cases hr;exact .inl ⟨j2 rfl,k J' S' Z' H' R' (l1.trans l') (v1.trans f')⟩
end
def jng(st:Stmt)(j:Nat):Stmt:=match st with
 | .ClassDef _ _ _ b _ _ _ _ _ _ _=>b.getD j (.Pass ⟨0,0,0,0⟩)
 | _=>.Pass ⟨0,0,0,0⟩
structure ClsAt(K:W.Frag)(mg:qa)(c:Str)(fs:List Str):Prop where
 ok:∀ C,mg c=some (.ref C)->Cls K C/\∀ f∈fs,NoAttr K C f
section
variable {kV doc pm cdv ct:Value}
def jBr(X:K.In h)(G:h.Ns mainGlobals mg)(a:W.nsIn K mainGlobals c=some (some (.ref C)))(p1:W.plainGet K C Str.empty=true)(p2:W.hasDictIn K C=true)(p3:W.plainOver K C=true)
  (p4:W.findIn K (.ref C) "__setattr__"=some (some (.builtin "object.__setattr__"))) (n:∀ f∈fs,W.findIn K (.ref C) f=some none):ClsAt K mg c fs :=
 ⟨fun C' hC=>by rw[W.mg_of X G a] at hC;cases hC;exact⟨⟨p1,p2,p3,p4⟩,n⟩⟩
def ClsAt.is(T:ClsAt X.K X.mg c fs){f:Str}(hf:f∈fs):jGs X [c] f:=fun c' hc C hC=>by
 rw[zdx] at hc;subst hc;exact⟨(T.ok C hC).1,(T.ok C hC).2 f hf⟩
def jn2(X:K.In h)(G:h.Ns mainGlobals mg)(T:ClsAt K mg c fs)
  (hb:∀ (kV doc pm:Value) (an:Option Addr) (cdv ct:Value) (us:List Value),us.length=ps.length->bindArgs (W.fnOf x q (jb4 st) (jaw st) (jab st) .none kV doc pm an cdv ct) ⟨us,[]⟩=pure (ps.zip us))
  (a:W.nsIn K mainGlobals c=some (some (.ref C))) (m1:W.findIn K (.ref C) x=some (some (.ref f))) (m2:W.isFn K (.ref f)=true)
  (l:K.lookup f=some ⟨oc,od,.func (W.fnOf x q (jb4 st) (jaw st) (jab st) .none kV doc pm an cdv ct),osl⟩)
  (cd:W.codeIn K cdv q=true) (k:W.keepIn K (.ref f)=true):MetAt K mg c x q st ps:=by
 have F:=jxj l cd k;have hm:=W.mg_of X G a;exact⟨C,f,_,hm,(T.ok C hm).1,⟨m1,m2,k⟩,F,F.binds hb⟩
def jCl(X:K.In h)(G:h.Ns mainGlobals mg)
  (hb:∀ (kV doc pm:Value) (an:Option Addr) (cdv ct:Value) (us:List Value),us.length=ps.length->bindArgs (W.fnOf "__init__" q (jb4 st) (jaw st) (jab st) .none kV doc pm an cdv ct) ⟨us,[]⟩=pure (ps.zip us))
  (a:W.nsIn K mainGlobals c=some (some (.ref C))) (i1:W.makesIn K C=true) (i2:W.findIn K (.ref C) "__init__"=some (some (.ref f))) (i3:W.isFn K (.ref f)=true) (i4:W.keepIn K (.ref C)=true)
  (l:K.lookup f=some ⟨oc,od,.func (W.fnOf "__init__" q (jb4 st) (jaw st) (jab st) .none kV doc pm an cdv ct),osl⟩)
  (cd:W.codeIn K cdv q=true) (k:W.keepIn K (.ref f)=true):IniAt K mg c q st ps:=by
 have F:=jxj l cd k;exact⟨C,f,_,W.mg_of X G a,⟨i1,i2,i3,i4⟩,F,F.binds hb⟩
end
def mB(f:DSt->MS D):DSt->MS Bool:=fun Y=>(f Y).b fun d=>match d with
 | .bl k=>MS.p k
 | _=>fun _=>none
section
variable {X:Cx}
def jty(ho:OpR X (compareOp op) r)(hg:OpD X.K g r)(ha:ME X O a fa)(hb:ME X O b fb)(hm:behindInMarks op b=false):MT X O (.Compare a [op] [b] pos) (mB (m2 g fa fb)):=by
 rintro U s Z H Q I ⟨Jz,Sz,Hz,F,J,S,Y,Ω,R,rr,Ω',hf,k⟩;refine jsc ho ha hb hm _ s Z H Q I (jym hg ?_);rcases MS.b_inv hf with ⟨x,Ω1,e1,hf⟩|⟨x,e1,rfl⟩
 .cases x with
  | bl kk=>cases hf;exact⟨_,_,_,F,J,S,Y,Ω,R,_,_,e1,fun v J' S' H' R' l sm rv=>⟨kk,rep_bl.mp rv,k J' S' H' R' l sm⟩⟩
  | _=>cases hf
 .exact⟨_,_,_,F,J,S,Y,Ω,R,_,Ω',e1,k⟩
end
def spA(K:W.Frag)(n:Nat)(m:List D->MS D):Sp:=fun vs H Q E=>∀ mg,spE K mg n m vs H Q E
def FUEL:Nat:=Classical.choose (⟨100000,rfl⟩:∃ n:Nat,n=100000)
def jq1:FUEL=100000:=Classical.choose_spec (⟨_,rfl⟩:∃ n:Nat,n=100000)
@[simp] theorem jrg(i:Nat):vR i Y=M.o (Y[i]?).join:=rfl
@[simp] theorem e_C(d:D):fC d Y=M.p d:=rfl
@[simp] theorem e_2:f2 g fa fb Y=(fa Y).b fun x=>(fb Y).b fun y=>M.o (g x y):=rfl
@[simp] theorem e_1:f1 u fa Y=(fa Y).b fun x=>M.o (u x):=rfl
def asB:Option D->M Bool
 | some (.bl b)=>M.p b
 | _=>none
@[simp] theorem jLs(b:Bool):asB (some (.bl b))=M.p b:=rfl
@[simp] theorem e_t2:t2 g fa fb Y=(fa Y).b fun x=>(fb Y).b fun y=>asB (g x y):=rfl
@[simp] theorem jxc:fNil Y=M.p []:=rfl
@[simp] theorem jce:jaa fa fl Y=(fa Y).b fun x=>(fl Y).b fun xs=>M.p (x::xs):=rfl
@[simp] theorem e_L:fL k fl Y=(fl Y).b fun xs=>M.o (k xs):=rfl
@[simp] theorem jj0:fCall m fl Y=(fl Y).b m:=rfl
@[simp] theorem jQ3:gNot (.bl b)=some (.bl !b):=rfl
@[simp] theorem jM0:tNot ta Y=(ta Y).b fun x=>M.p !x:=rfl
@[simp] theorem jxe:tAnd ta tb Y=(ta Y).b fun x=>if x=true then tb Y else M.p false:=rfl
@[simp] theorem jQ4:tOr ta tb Y=(ta Y).b fun x=>if x=true then M.p true else tb Y:=rfl
@[simp] theorem e_if:fIf ta fa fb Y=(ta Y).b fun x=>if x=true then fa Y else fb Y:=rfl
def andB(b:D)(r:M D):M D:=match b with
 | .bl true=>r
 | .bl false=>M.p (.bl false)
 | _=>none
def orB(b:D)(r:M D):M D:=match b with
 | .bl true=>M.p (.bl true)
 | .bl false=>r
 | _=>none
@[simp] theorem andB_t(r:M D):andB (.bl true) r=r:=rfl
@[simp] theorem andB_f(r:M D):andB (.bl false) r=M.p (.bl false):=rfl
@[simp] theorem orB_t(r:M D):orB (.bl true) r=M.p (.bl true):=rfl
@[simp] theorem jRu(r:M D):orB (.bl false) r=r:=rfl
@[simp] theorem jQz:fAnd fa fb Y=(fa Y).b fun x=>andB x (fb Y):=rfl
@[simp] theorem e_or:fOr fa fb Y=(fa Y).b fun x=>orB x (fb Y):=rfl
@[simp] theorem jxf:tTru fa Y=(fa Y).b fun x=>M.o (truD x):=rfl
@[simp] theorem jP1(b:Bool):truD (.bl b)=some b:=rfl
@[simp] theorem jSj:truD .non=some false:=rfl
@[simp] theorem e_nx:gNx Y=M.p (.nx Y):=rfl
def seqO(g2:DSt->M Out):Out->M Out
 | .nx Y'=>g2 Y'
 | o=>M.p o
@[simp] theorem jK1(Y':DSt):seqO g2 (.nx Y')=g2 Y':=rfl
@[simp] theorem jAh(d:D):seqO g2 (.rt d)=M.p (.rt d):=rfl
@[simp] theorem jR6(Y':DSt):seqO g2 (.bk Y')=M.p (.bk Y'):=rfl
@[simp] theorem jR7(Y':DSt):seqO g2 (.ct Y')=M.p (.ct Y'):=rfl
@[simp] theorem jxd:gSeq g1 g2 Y=(g1 Y).b (seqO g2):=by
 congr 1
@[simp] theorem jB8(i:Nat):gSet i fa Y=(fa Y).b fun d=>M.p (.nx (Y.set i (some d))):=rfl
@[simp] theorem ju0:gRet fa Y=(fa Y).b fun d=>M.p (.rt d):=rfl
@[simp] theorem e_drop:jmj fa Y=(fa Y).b fun _=>M.p (.nx Y):=rfl
@[simp] theorem jQ2:gIf ta g1 g2 Y=(ta Y).b fun b=>if b=true then g1 Y else g2 Y:=rfl
@[simp] theorem e_brk:gBrk Y=M.p (.bk Y):=rfl
@[simp] theorem e_cnt:gCnt Y=M.p (.ct Y):=rfl
def appO(i:Nat)(Y:DSt)(d:D):Option D->M Out
 | some (.lst ds)=>if ds.length<sizeLine then M.p (.nx (Y.set i (some (.lst (ds++[d]))))) else none
 | _=>none
def jsu(h:ds.length<sizeLine):appO i Y d (some (.lst ds))=M.p (.nx (Y.set i (some (.lst (ds++[d]))))):=if_pos h
@[simp] theorem jIb(i:Nat):gApp i fa Y=(fa Y).b fun d=>appO i Y d (Y[i]?).join:=rfl
@[simp] theorem jQ1:gFor fi tg g1 Y=(fi Y).b fun ds=>forD g1 tg ds Y:=rfl
@[simp] theorem jrf:jby ki fl Y=(fl Y).b fun ds=>M.o (ki ds):=rfl
@[simp] theorem jMx:jbs fa Y=(fa Y).b fun d=>M.o (seqD d):=rfl
@[simp] theorem e_yes:tYes Y=M.p true:=rfl
@[simp] theorem jB7(d:D):outD (.rt d)=M.p d:=rfl
@[simp] theorem jQf(Y:DSt):outD (.nx Y)=M.p .non:=rfl
def jdw(N:Nat)(x0:D):mir 1 N g1 [x0]=(g1 (some x0::List.replicate (N-1) none)).b outD:=rfl
def jd5(N:Nat)(x0 x1:D):mir 2 N g1 [x0,x1]=(g1 (some x0::some x1::List.replicate (N-2) none)).b outD:=rfl
def jhn(N:Nat)(x0 x1 x2:D):mir 3 N g1 [x0,x1,x2]=(g1 (some x0::some x1::some x2::List.replicate (N-3) none)).b outD:=rfl
def jMy(N:Nat)(x0 x1 x2 x3:D):mir 4 N g1 [x0,x1,x2,x3]=(g1 (some x0::some x1::some x2::some x3::List.replicate (N-4) none)).b outD:=rfl
@[simp] theorem b_none(f:α->M β):M.b none f=none:=rfl
@[simp] theorem jG1(m:M α)(f:α->M β)(h:β->M γ):(m.b f).b h=m.b fun a=>(f a).b h:=by
 cases m with
 | none=>rfl
 | some e=>cases e<;>rfl
@[simp] theorem jFf:ja8 own caps fi tg tc fa Y=(fi Y).b fun ds=>M.o ((jcn tg tc fa ds (jef own caps Y)).bind jar):=rfl
@[simp] theorem lt_int(i j:Int):gLt (.int i) (.int j)=some (.bl (decide (i<j))):=rfl
@[simp] theorem le_int(i j:Int):gLe (.int i) (.int j)=some (.bl (decide (i<=j))):=rfl
@[simp] theorem gt_int(i j:Int):gGt (.int i) (.int j)=some (.bl (decide (j<i))):=rfl
@[simp] theorem ge_int(i j:Int):gGe (.int i) (.int j)=some (.bl (decide (j<=i))):=rfl
@[simp] theorem add_int(i j:Int):gAdd (.int i) (.int j)=some (.int (i+j)):=rfl
@[simp] theorem sub_int(i j:Int):gSub (.int i) (.int j)=some (.int (i-j)):=rfl
@[simp] theorem neg_int(i:Int):gNeg (.int i)=some (.int (-i)):=rfl
def jbz(h:0<j):gMod (.int i) (.int j)=some (.int (i % j)):=if_pos h
def Bt(k:Nat)(i:Int):Prop:=i.natAbs<2 ^ k
def Bt.mono(h:Bt a i)(hab:a<=b):Bt b i:=zcx h (Nat.pow_le_pow_right (by decide) hab)
def Bt.mul(h:Bt a i)(k:Bt b j):Bt (a+b) (i*j):=by
 unfold Bt;rw[Int.natAbs_mul,Nat.pow_add];exact Nat.mul_lt_mul'' h k
def Bt.add(h:Bt a i)(k:Bt a j):Bt (a+1) (i+j):=by
 unfold Bt at *;omega
def Bt.neg(h:Bt a i):Bt a (-i):=by unfold Bt at *;omega
def Bt.big(h:Bt k i)(hk:k<=100000):jhi i=true:=by
 have h':=zcx h (Nat.pow_le_pow_right (by decide) hk);rw[<- jv9] at h';unfold jhi BIG;rw[Bool.and_eq_true,decide_eq_true_eq,decide_eq_true_eq];omega
def jN4(h:Bt a i)(k:Bt b j)(ha:a<=100000)(hb:b<=100000):gMul (.int i) (.int j)=some (.int (i*j)):=by
 have:(jhi i&&jhi j)=true:=by rw[h.big ha,k.big hb];rfl
 exact if_pos this
def jbg(h:0<j)(h2:j<2 ^ 200):gFdiv (.int i) (.int j)=some (.int (i / j)):=by
 refine if_pos ⟨h,?_⟩;unfold DIVB;have:(2 ^ 200)<=2 ^ 9000:=Nat.pow_le_pow_right (by decide) (by decide)
 grind [jwa]
def atI_get{j:Nat}(h:xs[j]? = some v):atI xs (j:Int)=some v:=by
 have hj:=(zbb.mp h).1;unfold atI ixN
 grind
@[simp] theorem ix_t(ds:List D)(i:Int):gIx (.tup ds) (.int i)=atI ds i:=rfl
@[simp] theorem ix_l(ds:List D)(i:Int):gIx (.lst ds) (.int i)=atI ds i:=rfl
@[simp] theorem at0(x:α)(xs:List α):atI (x::xs) 0=some x:=by
 have:=atI_get (xs:=x::xs) (j:=0) rfl;simpa using this
@[simp] theorem at1(x y:α)(xs:List α):atI (x::y::xs) 1=some y:=by
 have:=atI_get (xs:=x::y::xs) (j:=1) rfl;simpa using this
@[simp] theorem at2(x y z:α)(xs:List α):atI (x::y::z::xs) 2=some z:=by
 have:=atI_get (xs:=x::y::z::xs) (j:=2) rfl;simpa using this
@[simp] theorem at3(x y z w:α)(xs:List α):atI (x::y::z::w::xs) 3=some w:=by
 have:=atI_get (xs:=x::y::z::w::xs) (j:=3) rfl;simpa using this
@[simp] theorem jRg(ds:List D):kLen [.lst ds]=some (.int ds.length):=rfl
@[simp] theorem jRh(ds:List D):kLen [.tup ds]=some (.int ds.length):=rfl
@[simp] theorem jLf(ds:List D):kTuple [.lst ds]=some (.tup ds):=rfl
@[simp] theorem jNn(ds:List D):kList [.lst ds]=some (.lst ds):=rfl
@[simp] theorem jPa(j:Int):jbt [.int j]=some (jbu 0 j.toNat):=rfl
@[simp] theorem jPb(i j:Int):jbt [.int i,.int j]=some (jbu i (j-i).toNat):=rfl
@[simp] theorem enum_l(xs:List D):jcw [.lst xs]=some (jgn 0 xs):=rfl
@[simp] theorem jPj(ds:List D):seqD (.lst ds)=some ds:=rfl
@[simp] theorem jR8(ds:List D):seqD (.tup ds)=some ds:=rfl
@[simp] theorem kmin(i j:Int):kMin [.int i,.int j]=some (.int (if j<i then j else i)):=rfl
@[simp] theorem jRe(b:Bool):kInt [.bl b]=some (.int (if b then 1 else 0)):=rfl
@[simp] theorem jSk(x y:D):ja1 [x,y]=some (.tup [x,y]):=rfl
@[simp] theorem jSl(x y z:D):ja1 [x,y,z]=some (.tup [x,y,z]):=rfl
@[simp] theorem tupD4(x y z w:D):ja1 [x,y,z,w]=some (.tup [x,y,z,w]):=rfl
@[simp] theorem jRi:jar []=some (.lst []):=rfl
@[simp] theorem lstD1(x:D):jar [x]=some (.lst [x]):=rfl
@[simp] theorem jRj(x y:D):jar [x,y]=some (.lst [x,y]):=rfl
@[simp] theorem jRk(x y z:D):jar [x,y,z]=some (.lst [x,y,z]):=rfl
def jIy(h:ds.length<=sizeLine):jar ds=some (.lst ds):=if_pos h
@[simp] theorem jM4(i j:Int):gEq (.int i) (.int j)=some (.bl (i == j)):=rfl
@[simp] theorem jN6(i j:Int):gNe (.int i) (.int j)=some (.bl !(i == j)):=rfl
@[simp] theorem eq_bl(i j:Bool):gEq (.bl i) (.bl j)=some (.bl (i == j)):=rfl
def jEp(ns:List Int):kSum [.lst (ns.map .int)]=some (.int ns.sum):=by
 show (match seqD (.lst _) with|some ds=>(jnt ds).map fun (ns:List Int)=>D.int ns.sum|none=>none)=_
 grind [jPj,jxt]
@[simp] theorem jrq(i:Int):kIsi [.int i,.ty "int"]=some (.bl true):=rfl
@[simp] theorem jpl(i:Int):kIsi [.int i,.ty "bool"]=some (.bl false):=rfl
@[simp] theorem jrp(i:Bool):kIsi [.bl i,.ty "bool"]=some (.bl true):=rfl
@[simp] theorem jCo(i:List D):kIsi [.tup i,.ty "tuple"]=some (.bl true):=rfl
theorem jst:∀ (xs ys:List D),zipD xs ys=(xs.zip ys).map fun p=>.tup [p.1,p.2]
 | [],_=>by simp[zipD]
 | _::_,[]=>by simp[zipD]
 | x::xs,y::ys=>by simp[zipD,jst xs ys]
theorem jno(I:List D->DSt->Prop)(h:∀ d ds Y,I (d::ds) Y->∃ Y1,tg d Y=some Y1/\∃ Y2,(g Y1=some (.ok (.nx Y2))\/g Y1=some (.ok (.ct Y2)))/\I ds Y2) :
  ∀ (ds:List D) (Y:DSt),I ds Y->∃ Y',forD g tg ds Y=some (.ok (.nx Y'))/\I [] Y'
 | [],Y,hi=>⟨Y,rfl,hi⟩
 | d::ds,Y,hi=>by
  obtain⟨Y1,e1,Y2,e2,i2⟩:=h d ds Y hi;obtain⟨Y',e3,i3⟩:=jno I h ds Y2 i2;refine⟨Y',?_,i3⟩;unfold forD;rw[e1];dsimp only;rcases e2 with e2|e2<;>(simp_all)
@[simp] theorem jQg(i:Nat)(d:D)(Y:DSt):gName i d Y=some (Y.set i (some d)):=rfl
@[simp] theorem jQh(i j:Nat)(x y:D)(Y:DSt):jbe i j (.tup [x,y]) Y=some ((Y.set i (some x)).set j (some y)):=rfl
def jnp{g:DSt->M Out}{tg:D->DSt->Option DSt}(ds:List D)(I:Nat->DSt->Prop)
  (h:∀ (j:Nat) (hj:j<ds.length) (Y:DSt),I j Y->∃ Y1,tg ds[j] Y=some Y1/\∃ Y2,(g Y1=some (.ok (.nx Y2))\/g Y1=some (.ok (.ct Y2)))/\I (j+1) Y2) (Y:DSt) (h0:I 0 Y) :
  ∃ Y',forD g tg ds Y=some (.ok (.nx Y'))/\I ds.length Y':=by
 obtain⟨Y',e,j,hd,hj,hi⟩:=jno (fun rem Y=>∃ j,rem=ds.drop j/\j<=ds.length/\I j Y) (fun d rem Y ⟨j,hr,hj,hi⟩=>by
  have hlt:j<ds.length:=by
   by_cases q:j<ds.length
   .exact q
   .grind
  rw[List.drop_eq_getElem_cons hlt] at hr;obtain⟨rfl,rfl⟩:=List.cons.inj hr;obtain⟨Y1,e1,Y2,e2,i2⟩:=h j hlt Y hi;exact⟨Y1,e1,Y2,e2,_,rfl,hlt,i2⟩) ds Y ⟨0,rfl,Nat.zero_le _,h0⟩
 refine⟨Y',e,?_⟩;have:j=ds.length:=by
  have:=congrArg List.length hd;simp at this;omega
 grind
@[simp] theorem jLm(lo:Int)(n:Nat):(jbu lo n).length=n:=by simp[jbu]
@[simp] theorem jLl(lo:Int)(n j:Nat)(h:j<(jbu lo n).length):(jbu lo n)[j]=.int (lo+j):=by simp[jbu]
def jvo(n:Nat)(F:D->D):(jbu 0 n).map F=(List.range n).map fun j=>F (.int (j:Nat)):=by
 unfold jbu;simp
@[simp] theorem jQ0(i:Nat):gAug i g fa Y=(M.o (Y[i]?).join).b fun x=>(fa Y).b fun y=>(M.o (g x y)).b fun d=>M.p (.nx (Y.set i (some d))):=rfl
@[simp] theorem jHe(i j:Int):gCat (.int i) (.int j)=some (.int (i+j)):=rfl
def jHf(h:x.length+y.length<=sizeLine):gCat (.str x) (.str y)=some (.str (x++y)):=if_pos h
def jwu(h:x.length+y.length<=sizeLine):gCat (.lst x) (.lst y)=some (.lst (x++y)):=if_pos h
def jr3(h:Bt a i)(k:Bt b j)(ha:a<=100000)(hb:b<=100000):gMulT (.int i) (.int j)=some (.int (i*j)):=jN4 h k ha hb
def jDz{α:Type}(x:α):∀ n:Nat,(List.replicate n [x]).flatten=List.replicate n x
 | 0=>rfl
 | n+1=>by simp_all
def jMz(x:D)(n:Nat)(hl:fl Y=M.p [x])(hb:fb Y=M.p (.int n))(hn:n<=1000):fRep fl fb Y=M.p (.lst (List.replicate n x)):=by
 unfold fRep;rw[hl,hb];have h3:1000<=sizeLine:=by decide
 rw[M.b_p,if_pos (by show 1<=sizeLine;decide),M.b_p];dsimp only;rw[if_pos (⟨by lia,by lia,by simp;lia⟩),jDz];rfl
@[simp] theorem e_asg(h:D->DSt->Option DSt):gAsg h fa Y=(fa Y).b fun d=>match h d Y with
 | some Y'=>M.p (.nx Y')
 | none=>none:=rfl
@[simp] theorem e_tup3(i j l:Nat)(x y z:D):ju3 i j l (.tup [x,y,z]) Y=some (((Y.set i (some x)).set j (some y)).set l (some z)):=rfl
@[simp] theorem jIp(b:Bool):kIntT [.bl b]=some (.int (if b then 1 else 0)):=rfl
theorem jwh:∀ bs:List Bool,blsD (bs.map .bl)=some bs
 | []=>rfl
 | b::bs=>by rw[List.map_cons];unfold blsD;rw[jwh bs];rfl
theorem jwd(bs:List Bool):kAll [.lst (bs.map .bl)]=some (.bl (bs.all id)):=by
 show (blsD _).map _=_;rw[jwh];rfl
def je8{c:DSt}{fe:DSt->M D}{α:Type}{K:α->D×D}{F:α->D}(ps:List α)(x y:Option D)(h:∀ p∈ps,fe (some (K p).1::some (K p).2::c)=some (.ok (F p))):jcn (jbe 0 1) tYes fe (ps.map fun p=>.tup [(K p).1,(K p).2]) (x::y::c)=some (ps.map F):=by
 induction ps generalizing x y with
 | nil=>rfl
 | cons p ps ih =>
  rw[List.map_cons];unfold jcn;have e1:jbe 0 1 (.tup [(K p).1,(K p).2]) (x::y::c)=some (some _::some _::c):=rfl;rw[e1];dsimp only [M.p];rw[h p zaa,ih _ _ fun e he=>h e (zaw _ he)];rfl
def jba{c:DSt}{fe:DSt->M D}{α:Type}{K:α->D}{F:α->D}(ps:List α)(x:Option D)(h:∀ p∈ps,fe (some (K p)::c)=some (.ok (F p))):jcn (gName 0) tYes fe (ps.map K) (x::c)=some (ps.map F):=by
 induction ps generalizing x with
 | nil=>rfl
 | cons p ps ih =>
  rw[List.map_cons];unfold jcn;have e1:gName 0 (K p) (x::c)=some (some _::c):=rfl;rw[e1];dsimp only [M.p];rw[h p zaa,ih _ fun e he=>h e (zaw _ he)];rfl
def jBc(as bs:List Int):zipD (as.map .int) (bs.map .int)=(as.zip bs).map fun p=>.tup [.int p.1,.int p.2]:=by
 rw[jst,List.zip_map,List.map_map];rfl
def jgd{α β:Type}(r:Option (Except XD α×Sto))(f:α->MS β):Option (Except XD β×Sto):=match r with
 | none=>none
 | some (.error x,Ω')=>some (.error x,Ω')
 | some (.ok a,Ω')=>f a Ω'
section
variable {α β:Type}{Ω Ω':Sto}{Y:DSt}{fa fb fo:DSt->MS D}{fl:DSt->MS (List D)}{ta:DSt->MS Bool}{g1 g2:DSt->MS Out}{g:D->D->Option D}
@[simp] theorem s_b(m:MS α)(f:α->MS β):(m.b f) Ω=jgd (m Ω) f:=by
 unfold MS.b jgd
 cases m Ω with
 | none=>rfl
 | some p=>obtain⟨q,Ω1⟩:=p;cases q<;>rfl
@[simp] theorem jah(a:α)(f:α->MS β):jgd (some (.ok a,Ω')) f=f a Ω':=rfl
@[simp] theorem s_p(a:α):MS.p a Ω=some (.ok a,Ω):=rfl
@[simp] theorem s_lp(a:α):MS.l (M.p a) Ω=some (.ok a,Ω):=rfl
@[simp] theorem jKu(a:α):MS.l (some (.ok a):M α) Ω=some (.ok a,Ω):=rfl
@[simp] theorem s_o(a:α):MS.o (some a) Ω=some (.ok a,Ω):=rfl
@[simp] theorem s_lF(f:DSt->M α):lF f Y=MS.l (f Y):=rfl
@[simp] theorem jR4(cs:List Str)(f:Str):mGet cs f fa Y=(fa Y).b fun x=>getO cs f x:=rfl
@[simp] theorem jfe:jbh fa fl Y=(fa Y).b fun x=>(fl Y).b fun xs=>MS.p (x::xs):=rfl
@[simp] theorem s_2:m2 g fa fb Y=(fa Y).b fun x=>(fb Y).b fun y=>MS.o (g x y):=rfl
@[simp] theorem s_L(k:List D->Option D):mL k fl Y=(fl Y).b fun xs=>MS.o (k xs):=rfl
@[simp] theorem joh(m:List D->M D):jgu m fl Y=(fl Y).b fun ds=>MS.l (m ds):=rfl
@[simp] theorem jf1(m:List D->MS D):jcz m fl Y=(fl Y).b m:=rfl
@[simp] theorem jAd(i:Nat):eSet i fa Y=(fa Y).b fun d=>MS.p (.nx (Y.set i (some d))):=rfl
@[simp] theorem jqf:eRet fa Y=(fa Y).b fun d=>MS.p (.rt d):=rfl
@[simp] theorem jhu:jf6 fa Y=(fa Y).b fun _=>MS.p (.nx Y):=rfl
@[simp] theorem jR5(cs:List Str)(f:Str):ePut cs f fo fa Y=(fa Y).b fun d=>(fo Y).b fun x=>(putO cs f x d).b fun _=>MS.p (.nx Y):=rfl
@[simp] theorem s_if:eIf ta g1 g2 Y=(ta Y).b fun b=>if b=true then g1 Y else g2 Y:=rfl
@[simp] theorem s_nx:eNx Y=MS.p (.nx Y):=rfl
@[simp] theorem jKv:mNot ta Y=(ta Y).b fun x=>MS.p !x:=rfl
@[simp] theorem jKw:mTru fa Y=(fa Y).b fun x=>MS.o (truD x):=rfl
def asBS:D->MS Bool
 | .bl k=>MS.p k
 | _=>fun _=>none
@[simp] theorem jGx(k:Bool):asBS (.bl k)=MS.p k:=rfl
@[simp] theorem s_B:mB fa Y=(fa Y).b asBS:=by
 congr 1
def seqS(g2:DSt->MS Out):Out->MS Out
 | .nx Y'=>g2 Y'
 | o=>MS.p o
@[simp] theorem jma(Y':DSt):seqS g2 (.nx Y')=g2 Y':=rfl
@[simp] theorem jK2(d:D):seqS g2 (.rt d)=MS.p (.rt d):=rfl
@[simp] theorem jsk:eSeq g1 g2 Y=(g1 Y).b (seqS g2):=by
 congr 1
@[simp] theorem joi(d:D):outE (.rt d)=MS.p d:=rfl
@[simp] theorem jD7(Y:DSt):outE (.nx Y)=MS.p .non:=rfl
def jPh(N:Nat)(x0:D):mirE 1 N g1 [x0]=(g1 (some x0::List.replicate (N-1) none)).b outE:=rfl
def jGl(N:Nat)(x0 x1:D):mirE 2 N g1 [x0,x1]=(g1 (some x0::some x1::List.replicate (N-2) none)).b outE:=rfl
def jPi(N:Nat)(x0 x1 x2:D):mirE 3 N g1 [x0,x1,x2]=(g1 (some x0::some x1::some x2::List.replicate (N-3) none)).b outE:=rfl
@[simp] theorem jGk(c x:Str)(m:List D->MS D):jmm c x m fo fl Y=(fo Y).b fun o=>match o with
 | .obj i=>jn3 c x m i fl Y
 | _=>fun _=>none:=rfl
@[simp] theorem jAc(c:Str)(m:List D->MS D):jpv c m fl Y=(fl Y).b fun ds=>jyk c m ds:=rfl
@[simp] theorem jD6(fi:DSt->MS (List D))(tg:D->DSt->Option DSt):eFor fi tg g1 Y=(fi Y).b fun ds=>forE g1 tg ds Y:=rfl
end
section
variable {X:Cx}
def jL9(i:Nat)(ho:O.contains i=true)(hb:DE X O E b fb)(hN:X.N[i]? = some x)(hv:Vis X.env.scope x)
  (hd:(x == ("__debug__":Str))=false) (hcd:(x == ("__classdict__":Str))=false) (hs:ji4 b):DE X O E (.Subscript (.Name x p) b pos) (f2 gIx (vR i) fb):=by
 rintro U s Z H Q I ⟨J,Hz,F,Y,r,R,hf,k⟩;obtain⟨l,xs,ds,q1,q2,q3,q4,q5⟩:=R.own i (zbc.mp ho);refine jDl jhp (jl1 hN hv hd hcd) hb hs _ s Z H Q I ⟨_,q2,?_⟩;have e0:vR i Y=some (.ok (.lst ds)):=by unfold vR;rw[q1];rfl
 rcases M.b_inv hf with ⟨x,e1,hf⟩|⟨x,e1,rfl⟩
 .rw[e0] at e1;cases e1;refine bD R hf k fun y hf v H2 s2 r2=>?_
  obtain⟨d,hd,rfl⟩:=M.o_inv hf;unfold gIx at hd
  split at hd
  .rename_i z;cases z
   obtain⟨w,e,r⟩:=joe q5 hd;exact .inl ⟨l,xs,_,w,rfl,rep_int.mp r2,SqL.of (s2 _ _ q3),e,k w H2 s2 (r.mono (jad s2))⟩
  .rename_i z;cases z
  .rename_i z;cases z
  .cases hd
 grind
end
def jKk(own:Nat)(caps:qf)(Y:DSt):jef own caps Y=List.replicate own none++caps.map fun p=>(Y[p.2]?).join:=rfl
def zip_tt(xs ys:List D):jbl [.tup xs,.tup ys]=some (zipD xs ys):=rfl
def jQe(xs ys:List D):jbl [.tup xs,.lst ys]=some (zipD xs ys):=rfl
def jBd(xs ys:List D):jbl [.lst xs,.tup ys]=some (zipD xs ys):=rfl
def jQd(xs ys:List D):jbl [.lst xs,.lst ys]=some (zipD xs ys):=rfl
def jRq(i j:Bool):gNe (.bl i) (.bl j)=some (.bl !(i == j)):=rfl
def jyv(h1:okD d=true)(h2:depD d<=20):gNe d d=some (.bl false):=by
 unfold gNe;rw[if_pos (by grind),jkn d h1];rfl
theorem jks{α:Type}{f:α->D}:∀ {xs:List α},(∀ x∈xs,okD (f x)=true)->okDs (xs.map f)=true
 | [],_=>by rfl
 | x::xs,h=>by rw[List.map_cons];unfold okDs;rw[h x zaa,jks fun y hy=>h y (zaw _ hy)];rfl
theorem jip{α:Type}{f:α->D}:∀ {xs:List α},(∀ x∈xs,depD (f x)<=k)->depDs (xs.map f)<=k
 | [],_=>by grind [List.map_nil,depDs]
 | x::xs,h=>by
  rw[List.map_cons];unfold depDs
  have h1:=h x zaa;have h2:=jip fun y hy=>h y (zaw _ hy)
  lia
def jao{g1 g2:DSt->M Out}{Y Y':DSt}(h:g1 Y=some (.ok (.nx Y'))):gSeq g1 g2 Y=g2 Y':=by simp_all
def w_rt{g1 g2:DSt->M Out}{Y:DSt}{d:D}(h:g1 Y=some (.ok (.rt d))):gSeq g1 g2 Y=some (.ok (.rt d)):=by rw[jxd,h,M.b_ok,jAh];rfl
def w_if{t:DSt->M Bool}{g1 g2:DSt->M Out}{Y:DSt}{b:Bool}(h:t Y=some (.ok b)):gIf t g1 g2 Y=if b=true then g1 Y else g2 Y:=by simp_all
def jmf{t:DSt->M Bool}{g1 g2:DSt->M Out}{Y:DSt}(h:t Y=some (.ok false)):gSeq (gIf t g1 gNx) g2 Y=g2 Y:=jao (by rw[w_if h,if_neg nofun];rfl)
def jg6{t:DSt->M Bool}{g1:DSt->M Out}{Y:DSt}(h:t Y=some (.ok false)):gIf t g1 gNx Y=some (.ok (.nx Y)):=by rw[w_if h,if_neg nofun];rfl
def jP8{t:DSt->M Bool}{fa:DSt->M D}{g2:DSt->M Out}{Y:DSt}{d:D}(h:t Y=some (.ok true))(hd:fa Y=some (.ok d)):gSeq (gIf t (gRet fa) gNx) g2 Y=some (.ok (.rt d)):=by
 rw[jxd,w_if h,if_pos rfl,ju0,hd,M.b_ok];rfl
def jb1{fa:DSt->M D}{Y:DSt}{d:D}(hd:fa Y=some (.ok d)):gRet fa Y=some (.ok (.rt d)):=by rw[ju0,hd,M.b_ok];rfl
def jbm{fa:DSt->M D}{Y:DSt}{d:D}(i:Nat)(hd:fa Y=some (.ok d)):gSet i fa Y=some (.ok (.nx (Y.set i (some d)))):=by rw[jB8,hd,M.b_ok];rfl
def jor{fi:DSt->M (List D)}{tg:D->DSt->Option DSt}{g:DSt->M Out}{Y:DSt}{ds:List D}(h:fi Y=some (.ok ds)):gFor fi tg g Y=forD g tg ds Y:=by simp_all
def joq{fa:DSt->M D}{Y:DSt}{d:D}{ds:List D}(i:Nat)(hd:fa Y=some (.ok d))(hi:Y[i]? = some (some (.lst ds)))(hl:ds.length<=100000):gApp i fa Y=some (.ok (.nx (Y.set i (some (.lst (ds++[d])))))):=by
 rw[jIb,hd,M.b_ok,hi];exact jsu (by have:=sizeLine_eq;lia)
theorem jir{g:DSt->M Out}{tg:D->DSt->Option DSt}{d:D}{ds:List D}{Y Y1 Y2:DSt}(h1:tg d Y=some Y1)(h2:g Y1=some (.ok (.nx Y2))):forD g tg (d::ds) Y=forD g tg ds Y2:=by
 simp_all [forD]
def w_go{t:DSt->M Bool}{g:DSt->M Out}{k:Nat}{Y Y':DSt}(h1:t Y=some (.ok true))(h2:g Y=some (.ok (.nx Y'))):ja7 t g (k+1) Y=ja7 t g k Y':=by
 conv=>lhs;unfold ja7
 simp_all
def jP7{t:DSt->M Bool}{g:DSt->M Out}{k:Nat}{Y:DSt}(h1:t Y=some (.ok false)):ja7 t g (k+1) Y=some (.ok (.nx Y)):=by
 conv=>lhs;unfold ja7
 rw[h1,M.b_ok,if_neg nofun];rfl
def stp:=And.intro (@if_true.{1}) <| And.intro (@if_false.{1}) <| And.intro (@Bool.false_eq_true) <| And.intro (@jxd) <| And.intro (@jB8) <| And.intro (@e_2) <| And.intro (@e_1) <| And.intro (@e_t2) <| And.intro (@ju0) <| And.intro (@jQ2) <| And.intro (@jQ1) <| And.intro (@jrf) <| And.intro (@jMx) <| And.intro (@jFf) <| And.intro (@jj0) <| And.intro (@jce) <| And.intro (@jrg) <| And.intro (@jxc) <| And.intro (@e_C) <| And.intro (@e_L) <| And.intro (@e_if) <| And.intro (@jxf) <| And.intro (@jxe) <| And.intro (@jQ4) <| And.intro (@jM0) <| And.intro (@jQ3) <| And.intro (@e_nx) <| And.intro (@jQ0) <| And.intro (@jIb) <| And.intro (@jQz) <| And.intro (@e_or) <| And.intro (@M.o_some) <| And.intro (@M.b_p) <| And.intro (@M.b_ok) <| And.intro (@jG1) <| And.intro (@jK1) <| And.intro (@jAh) <| And.intro (@jB7) <| And.intro (@ix_t) <| And.intro (@ix_l) <| And.intro (@at0) <| And.intro (@at1) <| And.intro (@at2) <| And.intro (@at3) <| And.intro (@jPj) <| And.intro (@jR8) <| And.intro (@jLf) <| And.intro (@jNn) <| And.intro (@jRg) <| And.intro (@jRh) <| And.intro (@jSk) <| And.intro (@jSl) <| And.intro (@jRi) <| And.intro (@lstD1) <| And.intro (@jRj) <| And.intro (@jRk) <| And.intro (@jHe) <| And.intro (@sub_int) <| And.intro (@neg_int) <| And.intro (@jM4) <| And.intro (@jN6) <| And.intro (@jRq) <| And.intro (@lt_int) <| And.intro (@le_int) <| And.intro (@gt_int) <| And.intro (@ge_int) <| And.intro (@jLs) <| And.intro (@jP1) <| And.intro (@jPa) <| And.intro (@jPb) <| And.intro (@Int.toNat_natCast) <| And.intro (@jBc) <| And.intro (@jKk) <| And.intro (@zip_tt) <| And.intro (@jQe) <| And.intro (@jBd) <| And.intro (@jQd) <| And.intro (@jrq) <| And.intro (@jpl) <| And.intro (@jrp) <| And.intro (@jIp) <| And.intro (@List.replicate_succ.{0}) <| And.intro (@List.replicate_zero.{0}) <| And.intro (@List.set_cons_succ.{0}) <| And.intro (@List.set_cons_zero.{0}) <| And.intro (@List.getElem?_cons_zero.{0}) <| And.intro (@List.getElem?_cons_succ.{0}) <| And.intro (@Option.join_some.{0}) <| And.intro (@List.map_nil.{0,0}) <| And.intro (@List.map_cons.{0,0}) <| And.intro (@List.append_nil.{0}) <| And.intro (@List.cons_append.{0}) <| And.intro (@List.nil_append.{0}) <| And.intro (@Option.bind_some.{0,0}) <| True.intro
def jE0{α:Type}(xs:List α)(f:α->Bool):kAll [.lst (xs.map fun x=>.bl (f x))]=some (.bl (xs.all f)):=by
 have:(xs.map fun x=>D.bl (f x))=(xs.map f).map .bl:=by rw[List.map_map];rfl
 grind [jwd,List.all_map]
def jK9{α:Type}(xs:List α)(f:α->Int):kSum [.lst (xs.map fun x=>.int (f x))]=some (.int (xs.map f).sum):=by
 have:(xs.map fun x=>D.int (f x))=(xs.map f).map .int:=by rw[List.map_map];rfl
 rw[this,jEp]
def jmg{α β:Type}(f:α->D)(g:β->D)(as:List α)(bs:List β):zipD (as.map f) (bs.map g)=(as.zip bs).map fun p=>.tup [f p.1,g p.2]:=by
 rw[jst,List.zip_map,List.map_map];rfl
end DL
namespace L2
open PyProof.Rows
def jD5:typeLookup (.type "list_reverseiterator") "__len__"=pure none:=by kernel_rfl
def jKs:typeLookup (.type "list_reverseiterator") "__length_hint__"=pure (some (.builtin "list_reverseiterator.__length_hint__")):=by kernel_rfl
section
variable {St:Nat->Shared->Prop}
def jvq{Q:List Value->Shared->Prop}(W:WalksS prog w A.in1 I fp wr G n P St)(ty:∀ i s,St i s->s.TypeIs (.ref I) "list_reverseiterator")(st0:St 0 s)(below:∀ b∈fp,b<s.heap.objs.size)(inF:I∈fp)
  (fin:∀ s' acc,Moved wr G s s'->ItemsOf P acc n->Q acc.toList s') (few:n<=sizeLine):wpAny (model prog w) A (collect (.ref I)) Q E s:=by
 have nw:=fun z=>Nat.lt_irrefl _ (below _ z)
 have ne:s.heap.objs.size≠I:=fun z=>nw (z ▸ inF)
 have st1:=W.frame 0 s (s.heap.push { cls:=.type "list",data:=.seq ([]).toArray }) _ st0 (zac _) fun b _ o e=>zaz _ e
 have sr:Builtin.List.listSameRef (.ref s.heap.objs.size) (.ref I)=false:=by simp[Builtin.List.listSameRef,ne]
 refine zay (wpAny_runValue (codeAny_builtin F.entry_proto_collect ?_));refine zay (wpAny_newObj_type (zab ⟨plainId_quiet F.plain_list_iadd _,codeAny_builtin F.entry_list_iadd ?_⟩));show wpAny _ _ (Builtin.List.listExtendWith _ _ _) _ _ _;refine zay (wpAny_typeOf (ty 0 _ st1) ?_);rw[if_neg (by grind)];exact zay (W.self 0 _ _ _ st1 (zay (wpAny_holding (zay (wpAny_specialOf (ty 0 _ st1) jD5 (zay (wpAny_specialOf (ty 0 _ st1) jKs (zay (wpAny_isInstance (b:=true) (ty 0 _ st1) (by kernel_rfl) (zab (zab ⟨plainId_quiet F.plain_extend_loop _,codeAny_extend_loopS W few _ nw _ n 0 _ _ _ rfl (Nat.zero_le _) st1 (zbz _ rfl) (ItemsOf.nil P) fun s' acc' c' mv at' got=>(zay (wpAny_load at' (zab (fin s' _ (Moved.drop_new mv (zac _)) got))))⟩)))))))))))
def jKt{x:Str}{t:Tok}{Q:qc}(W:WalksS prog w A.in1.in1 I fp wr G n P St)(ty:∀ i s,St i s->s.TypeIs (.ref I) "list_reverseiterator")(st0:St 0 s)(below:∀ b∈fp,b<s.heap.objs.size)(inF:I∈fp)
  (txt:∀ i v,P i v->∃ y u,v=Value.str y u) (few:n<=sizeLine)
  (fin:∀ s' (l:List (Str×Tok)),Moved wr G s s'->ItemsOf P (strValues l).toArray n->JoinOk x (l.map (·.1))=true/\∀ t' k,Q (.str (Txt.join x (l.map (·.1))) t') { s' with toks:=k }) :
  wpAny (model prog w) A (call (.builtin "str.join") [.str x t,.ref I]) Q E s:=by
 refine wpAny_call (codeAny_call_builtin F.slot_str_join.plain F.entry_str_join (F.slot_str_join.check _ _ _ _ _ _ _ _ (typeIs_str _ _ _) (F.args_str_join_2 _ _) ?_));rw[join_tree_other]
 refine zay (wpAny_typeOf (ty 0 s st0) ?_);refine zay (wpAny_tryCatch (W.of_in1.self 0 s _ _ st0 (zay (jvq W ty st0 below inF (fun s' acc mv got=>?_) few))))
 obtain⟨l,hl⟩:=exists_strValues _ fun v hv=>by
  obtain⟨j,hj,e⟩:=Array.mem_iff_getElem.mp (Array.mem_toList_iff.mp hv);subst e
  exact txt j _ (got.2 j _ (Array.getElem?_eq_getElem hj))
 rw[<- hl];obtain⟨hok,post⟩:=fin s' l mv (by simp_all)
 unfold JoinOk at hok;rw[Bool.not_eq_true'] at hok
 have g:Gives (joinTail x (strValues l)) (joinMade x l):=by
  have g0:=gives_joinTail x l hok;rcases l with _|⟨p,_|⟨q,r⟩⟩<;>exact g0
 exact g _ w A (wants Q E) s' (post_join l ⟨joinFit_length hok,post⟩)
end
end L2
namespace DL
open L2
section
variable {X:Cx}
noncomputable def jpj(x:Str):D->Option D
 | .lst ds=>match strsD ds with
  | some ys=>if (ys.map (·.length)).sum+ys.length*x.length<=16777216/\ys.length<=sizeLine then some (.str (Txt.join x ys.reverse)) else none
  | none=>none
 | _=>none
def jz4{ys:List Str}(h:Vals (ys.map V.str) its)(got:ItemsOf (fun i v=>its.toArray[its.toArray.size-1-i]? = some v) (strValues l).toArray its.toArray.size):l.map (·.1)=ys.reverse:=by
 have hl:=h.length;rw[zav] at hl;have hs:=by have:=got.1;simpa using this
 have hl2:l.length=its.length:=by rw[<- hs];unfold strValues;rw[zav]
 apply List.ext_getElem?;intro j
 by_cases hj:j<its.length
 .have hjl:j<l.length:=by lia
  have e1:(strValues l).toArray[j]? = some (.str (l[j]).1 (l[j]).2):=by unfold strValues;simp[hjl]
  have e3:=by simpa using (got.2 j _ e1)
  obtain⟨v',e4,r⟩:=h.get (i:=its.length-1-j) (by rw[zba,zax (by lia)];rfl);rw[e3] at e4;cases e4;obtain⟨t,e5⟩:=r;rw[zba,zax hjl,List.getElem?_reverse (by lia),zax (by lia)];show some (l[j]).1=_;rw[((Value.str.inj e5).1)];congr 2
  lia
 grind
def jBw(hc:X.calm=true)(hg:Gl X "reversed")(hm:X.mg "reversed"=none)(ho:DE X O E o fo)(he:DE X O E e fe)(hbase:attributeBase o "join" X.env (eval o X.env)=eval o X.env)
  (hs:starEach [.Call (.Name "reversed" p) [e] [] p2] X.env=[(false,eval (.Call (.Name "reversed" p) [e] [] p2) X.env)]) (hs2:starEach [e] X.env=[(false,eval e X.env)])
  (hline:(apos.endLine == pos.line)=true):DE X O E (.Call (.Attribute o "join" apos) [.Call (.Name "reversed" p) [e] [] p2] [] pos) (fSm jpj fo fe):=by
 rintro U s Z H Q I ⟨J,Hz,F,Y,rr,R,hf,k⟩;refine Call_method1 hbase hs hline (thn (ho _ s Z H (fun v H1=>∃ z,v=.str z/\jPu (tD X.K O E fe) tNil Z H1 fun vs H2=>∃ l,∃ ys:List Str,vs=[.ref l]/\SqL X.K H2 l (ys.map V.str)/\(ys.map (·.length)).sum+ys.length*z.length<=16777216/\ys.length<=sizeLine/\Q (.str (Txt.join z ys.reverse)) H2) I ?_) fun u s1 ⟨v,H1,I1,rv,z,hz,q⟩=>?_)
 .refine bD R hf k fun x hf u H1 s1 r1=>?_
  cases x with
  | str z =>
   refine⟨z,rep_str.mp r1,?_⟩;refine bD (R.mono s1) hf k fun y hf v H2 s2 r2=>?_
   obtain⟨d,hd,rfl⟩:=M.o_inv hf
   cases y with
   | lst ds =>
    unfold jpj at hd;dsimp only at hd
    cases e3:strsD ds with
    | none=>rw[e3] at hd;cases hd
    | some ys =>
     rw[e3] at hd;dsimp only at hd
     split at hd
     .rename_i hz;cases hd;obtain⟨l,us,rfl,q1,q2⟩:=rep_lst.mp r2;rw[jon e3] at q2;rw[reps_strs.mp q2] at q1;exact⟨l,ys,rfl,jcj jaf q1,hz.1,hz.2,k _ H2 (s1.trans s2) (rep_str.mpr rfl)⟩
     .cases hd
   | _=>cases hd
  | _=>cases hf
 .subst hz;obtain⟨t,rfl⟩:=rv;refine⟨_,_,PySem.F.plainAttrs_str,PySem.F.slot_str_join,PySem.F.type_str_join,typeIs_str _ _ _,(fun _ e=>nomatch e),?_⟩;refine Calls.callWith_builtin rfl (Calls.evalArgs_plain (Calls.spliced_cons ?_));refine PyProof.Rows.Call_ (jj5 I1 hg hm jq4 (PyProof.Rows.callWith_type1 (thn (jet he jht hs2 p2 _ s1 Z H1 _ I1 q) fun us s2 hzz=>?_) hs2 rfl));obtain⟨vs,H2,I2,r2,q2⟩:=hzz;obtain⟨l,ys,e2,hq,hz,hn,q3⟩:=q2;subst e2;obtain⟨u',rfl,ru⟩:=r2.one;cases ru;obtain⟨its,rv,src,_⟩:=I2.list hq;have src':=src.isList;have hl:=rv.length;rw[zav] at hl;have hp:l<s2.heap.objs.size:=by obtain⟨o,e,_⟩:=src';exact zbv e
  refine call_reversed_list src' (Calls.spliced_nil ?_);refine jKt ((Walks.listRev (A:=X.A.in1.in1) (I2.ok.hd hc) _ l (zcw hp) _).toS) (fun i s st=>st.2.1.typeIs) ⟨Nat.zero_le _,?_,src'.at fun o e=>zaz _ e⟩ (fun b hb=>?_) (by simp) (fun i v hv=>?_) (by rw[zbx,<- hl];exact hn) fun s' lz mv got=>?_
  .refine⟨_,zbz _ rfl,rfl,?_⟩;simp[revObj]
  .rw[Heap.size_push];rcases List.mem_cons.mp hb with e|hb
   .rw[e];exact Nat.lt_succ_self _
   .rw[zdx.mp hb];exact Nat.lt_succ_of_lt hp
  .have hv':=by simpa using hv
   have hlt:=(zbb.mp hv').1;obtain⟨v',e4,r⟩:=rv.get (i:=its.length-1-i) (by rw[zba,zax (by lia)];rfl);rw[hv'] at e4;cases e4;obtain⟨t,e5⟩:=r;exact⟨_,t,e5⟩
  .rw[(jz4 rv got)];refine⟨?_,fun t' k=>⟨.str _,H2,?_,⟨t',rfl⟩,q3⟩⟩
   .refine PyProof.Rows.joinOk_of ?_;rw[List.map_reverse,List.sum_reverse,List.length_reverse];exact hz
   .have e1:=mv.gens;have e2:=mv.drawn;have e3:=mv.os;have e4:({ s' with toks:=k })={ s2 with heap:=s'.heap,toks:=k }:=by
     obtain⟨a,b,c,d,e⟩:=s';subst e1 e2 e3;rfl
    rw[e4];refine I2.kept fun b u hb=>mv.heap b u (fun z=>?_) (zaz _ hb)
    rw[zdx.mp z] at hb;exact absurd (zbv hb) (Nat.lt_irrefl _)
end
def RM.putL(R:RM Jz Sz Hz F K mg O J S H Z Y Ω)(hi:Ω[i]? = some (.lst ds))(ha:J i=some a)(hS:S a=true)(hH:H a=some (.lst xs))(hr:Reps J K (hid H (fob (un F S) Z O)) ds' xs') :
  RM Jz Sz Hz F K mg O J S (upd H a (.lst xs')) Z Y (Ω.set i (.lst ds'))/\hid (upd H a (.lst xs')) (fob (un F S) Z O)=hid H (fob (un F S) Z O) :=
 R.putS hi ha hS hH (fun _ z=>nomatch z) ⟨xs',jaj,hr⟩
def RM.newS(R:RM Jz Sz Hz F K mg O J S H Z Y Ω)(hx:H x=none)(hr:∀ J' S' Hv',RLe J J'->Same (hid H (fob (un F S) Z O)) Hv'->SOk J' S' K mg (upd H x no) Hv' x nso) :
  RM Jz Sz Hz F K mg O (addR J Ω.length x) (addS S x x) (upd H x no) Z Y (Ω++[nso])/\RLe J (addR J Ω.length x) /\
   Same (hid H (fob (un F S) Z O)) (hid (upd H x no) (fob (un F (addS S x x)) Z O)) :=
 R.grow hx hx (jal hx) (by rw[jaj];nofun) (by rw[jaj];nofun) (fun b xs z=>by
  by_cases e:b=x
  .subst e;exact absurd z ((hr J S _ (RLe.refl _) (Same.refl _)).no_tup xs)
  .rwa [jam e] at z) fun J' S' Hv' l _ v=>hr J' S' Hv' l v
def RM.newL(R:RM Jz Sz Hz F K mg O J S H Z Y Ω)(hx:H x=none)(hr:Reps J K (hid H (fob (un F S) Z O)) nds nxs) :
  RM Jz Sz Hz F K mg O (addR J Ω.length x) (addS S x x) (upd H x (.lst nxs)) Z Y (Ω++[.lst nds])/\RLe J (addR J Ω.length x) /\
   Same (hid H (fob (un F S) Z O)) (hid (upd H x (.lst nxs)) (fob (un F (addS S x x)) Z O)) :=
 R.newS hx fun J' S' Hv' l v=>⟨nxs,jaj,(hr.rho l).mono v⟩
def jpw(fl:DSt->MS (List D)):DSt->MS D:=fun Y=>(fl Y).b fun ds Ω=>if ds.length<=sizeLine then some (.ok (.obj Ω.length),Ω++[.lst ds]) else none
section
variable {X:Cx}{O:List Nat}{a b e o:Expr}{es:List Expr}{fa fb fo:DSt->MS D}{fl:DSt->MS (List D)}{pos:Pos}
def jrx(h:MA X O es fl):ME X O (.List es pos) (jpw fl):=by
 rintro U s Z H Q I ⟨Jz,Sz,Hz,F,J,S,Y,Ω,R,r,Ω',hf,k⟩;refine jp9 h _ s Z H Q I ?_;refine bE R hf fun x Ω1 hf u J1 S1 H1 R1 l1 v1 r1=>?_
 by_cases hz:x.length<=sizeLine
 .rw[if_pos hz] at hf;cases hf;refine⟨by rw[r1.length];exact hz,fun p hp=>?_⟩;obtain⟨t1,t2,t3⟩:=R1.newL hp r1;exact k _ _ _ _ t1 (l1.trans t2) (v1.trans t3) (rep_obj.mpr ⟨p,by unfold addR;grind,rfl⟩)
 grind
def atL:D->D->MS D:=fun x y Ω=>match x,y with
 | .obj i,.int j=>match Ω[i]? with
  | some (.lst ds)=>(L2.atI ds j).map fun d=>(.ok d,Ω)
  | _=>none
 | _,_=>none
inductive AtLI(x y:D)(Ω Ω':Sto)(r:Except XD D):Prop
 | mk (i:Nat) (j:Int) (ds:List D) (d:D) (hx:x=.obj i) (hy:y=.int j) (hi:Ω[i]? = some (.lst ds)) (ha:L2.atI ds j=some d) (hr:r=.ok d) (ho:Ω'=Ω)
def jGy(h:atL x y Ω=some (r,Ω')):AtLI x y Ω Ω' r:=by
 unfold atL at h
 cases x with
 | obj i =>
  cases y with
  | int j =>
   dsimp only at h
   cases hi:Ω[i]? with
   | none=>grind
   | some so =>
    rw[hi] at h
    cases so with
    | ins c fs=>cases h
    | dck _=>cases h
    | exc _ _=>cases h
    | xd _=>cases h
    | lst ds =>
     dsimp only at h
     cases ha:L2.atI ds j with
     | none=>grind
     | some d =>
      rw[ha] at h;cases h;exact⟨i,j,ds,d,rfl,rfl,hi,ha,rfl,rfl⟩
  | _=>cases h
 | _=>cases h
def mIxL(fa fb:DSt->MS D):DSt->MS D:=fun Y=>(fa Y).b fun x=>(fb Y).b fun y=>atL x y
def jNt(ha:ME X O a fa)(hb:ME X O b fb)(hs:autoParam (ji4 b) zau4._auto_1):ME X O (.Subscript a b pos) (mIxL fa fb):=by
 rintro U s Z H Q I ⟨Jz,Sz,Hz,F,J,S,Y,Ω,R,r,Ω',hf,k⟩;refine jDl ix_list ha hb hs _ s Z H Q I ?_;refine bE R hf fun x Ω1 hf u J1 S1 H1 R1 l1 v1 r1=>?_
 refine bE R1 hf fun y Ω2 hf w J2 S2 H2 R2 l2 v2 r2=>?_
 obtain⟨i,j,ds,d,rfl,rfl,hi,hj,rfl,rfl⟩:=jGy hf;obtain⟨ad,q1,q2⟩:=rep_obj.mp ((r1.rho l2).mono v2);obtain⟨ad',p1,p2,xs,p3,p4⟩:=R2.sto.ats i _ hi;rw[q1] at p1;cases p1
 obtain⟨v,hv,rv⟩:=joe p4 hj;exact⟨ad,xs,j,v,q2,rep_int.mp r2,SqL.of p3,hv,k v J2 S2 H2 R2 (l1.trans l2) (v1.trans v2) rv⟩
def chkL:D->MS D:=fun x Ω=>match x with
 | .obj i=>match Ω[i]? with
  | some (.lst _)=>some (.ok x,Ω)
  | _=>none
 | _=>none
def putL(g:List D->Option (List D)):D->MS D:=fun x Ω=>match x with
 | .obj i=>match Ω[i]? with
  | some (.lst ds)=>(g ds).map fun es=>(.ok .non,Ω.set i (.lst es))
  | _=>none
 | _=>none
inductive ChkI(x:D)(Ω Ω':Sto)(r:Except XD D):Prop
 | mk (i:Nat) (ds:List D) (hx:x=.obj i) (hi:Ω[i]? = some (.lst ds)) (hr:r=.ok x) (ho:Ω'=Ω)
def jkm(h:chkL x Ω=some (r,Ω')):ChkI x Ω Ω' r:=by
 unfold chkL at h
 cases x with
 | obj i =>
  dsimp only at h
  cases hi:Ω[i]? with
  | none=>grind
  | some so =>
   rw[hi] at h
   cases so with
   | ins c fs=>cases h
   | dck _=>cases h
   | exc _ _=>cases h
   | xd _=>cases h
   | lst ds=>cases h;exact⟨i,ds,rfl,hi,rfl,rfl⟩
 | _=>cases h
inductive PutI(g:List D->Option (List D))(x:D)(Ω Ω':Sto)(r:Except XD D):Prop
 | mk (i:Nat) (ds es:List D) (hx:x=.obj i) (hi:Ω[i]? = some (.lst ds)) (hg:g ds=some es) (hr:r=.ok .non) (ho:Ω'=Ω.set i (.lst es))
def jui(h:putL g x Ω=some (r,Ω')):PutI g x Ω Ω' r:=by
 unfold putL at h
 cases x with
 | obj i =>
  dsimp only at h
  cases hi:Ω[i]? with
  | none=>grind
  | some so =>
   rw[hi] at h
   cases so with
   | ins c fs=>cases h
   | dck _=>cases h
   | exc _ _=>cases h
   | xd _=>cases h
   | lst ds =>
    dsimp only at h
    cases hg:g ds with
    | none=>grind
    | some es=>rw[hg] at h;cases h;exact⟨i,ds,es,rfl,hi,hg,rfl,rfl⟩
 | _=>cases h
def gApL(d:D):List D->Option (List D):=fun ds=>if ds.length<sizeLine then some (ds++[d]) else none
def jyi(fo fa:DSt->MS D):DSt->MS D:=fun Y=>(fo Y).b fun x=>(chkL x).b fun x=>(fa Y).b fun d=>putL (gApL d) x
def jyn(ho:ME X O o fo)(he:ME X O e fa)(hbase:autoParam (attributeBase o "append" X.env (eval o X.env)=eval o X.env) zau2._auto_1)
  (hfew:((backTo p3 (starEach [e] X.env)).all (fun x=>!x.1)&&(backToKw p3 (keywordEach [] X.env)).all (fun x=>x.1.isSome)
   && decide ([e].length+([]:List Keyword).length+(if ([]:List Keyword).isEmpty then 0 else 1)<30))=true:=by rfl)
  (hline:autoParam ((p2.endLine == p3.line)=true) zau2._auto_1) (hs:autoParam (starEach [e] X.env=[(false,eval e X.env)]) zau2._auto_1) :
  ME X O (.Call (.Attribute o "append" p2) [e] [] p3) (jyi fo fa):=by
 rintro U s Z H Q I ⟨Jz,Sz,Hz,F,J,S,Y,Ω,R,r,Ω',hf,k⟩;refine jvl PySem.F.plainAttrs_list PySem.F.slot_list_append PySem.F.type_list_append jiy ho (jet he jht hs) hbase hfew hline hs rfl _ s Z H Q I ?_;refine bE R hf fun x Ω1 hf u J1 S1 H1 R1 l1 v1 r1=>?_
 rcases MS.b_inv hf with ⟨x',Ω1',e1',hf⟩|⟨x',e1',rfl⟩
 .obtain⟨i,ds,rfl,hi,hr,rfl⟩:=jkm e1';cases hr;obtain⟨ad,q1,q2⟩:=rep_obj.mp r1;obtain⟨ad',p1,p2,xs,p3,p4⟩:=R1.sto.ats i _ hi;rw[q1] at p1;cases p1
  refine⟨by rw[q2];exact .inl ⟨rfl,xs,SqL.of p3⟩,?_⟩;refine bE R1 hf fun y Ω2 hf w J2 S2 H2 R2 l2 v2 r2=>?_
  obtain⟨i',ds',es',hx',hi',hg',hr',rfl⟩:=jui hf;cases hx';cases hr';obtain⟨b1,t1,t2,ys,t3,t4⟩:=R2.sto.ats i _ hi';rw[l2 i ad q1] at t1;cases t1
  unfold gApL at hg'
  by_cases hz:ds'.length<sizeLine
  .rw[if_pos hz] at hg';cases hg';obtain⟨w1,w2⟩:=R2.putL hi' (l2 i ad q1) t2 t3 (t4.append (Reps.cons r2 Reps.nil));exact⟨ad,ys,w,q2,rfl,t3,by rw[t4.length];exact hz,k _ J2 S2 _ w1 (l1.trans l2) (by rw[w2];exact v1.trans v2) (rep_non.mpr rfl)⟩
  grind
 .exact absurd (jkm e1') (fun ⟨_,_,_,_,h,_⟩=>by cases h)
end
def forL(k:Nat->D->D)(g:DSt->MS Out)(h:D->DSt->Option DSt)(n:Nat):Nat->Nat->DSt->MS Out
 | 0,_,_=>fun _=>none
 | f+1,i,Y=>fun Ω=>match Ω[n]? with
  | some (.lst ds)=>match ds[i]? with
   | none=>some (.ok (.nx Y),Ω)
   | some d=>match h (k i d) Y with
    | none=>none
    | some Y1=>((g Y1).b fun o=>match o with
     | .nx Y2=>forL k g h n f (i+1) Y2
     | .ct Y2=>forL k g h n f (i+1) Y2
     | .bk Y2=>MS.p (.nx Y2)
     | .rt v=>MS.p (.rt v)) Ω
  | _=>none
def runL(k:Nat->D->D)(g:DSt->MS Out)(h:D->DSt->Option DSt)(fuel:Nat)(Y:DSt):D->MS Out
 | .obj n=>forL k g h n fuel 0 Y
 | _=>fun _=>none
def jMv(k:Nat->D->D)(fl:DSt->MS (List D))(h:D->DSt->Option DSt)(g:DSt->MS Out)(fuel:Nat):DSt->MS Out:=fun Y=>(fl Y).b fun xs=>match xs with
 | [x]=>(chkL x).b fun x=>runL k g h fuel Y x
 | _=>fun _=>none
def jJt{m:D->MS α}(h:(match xs with|[x]=>m x|_=>fun _=>none:MS α) Ω=some r):∃ x,xs=[x]/\m x Ω=some r:=by
 cases xs with
 | nil=>cases h
 | cons x t =>
  cases t<;>grind
abbrev kEn:Nat->D->D:=fun i d=>.tup [.int i,d]
inductive ForLI(k:Nat->D->D)(g:DSt->MS Out)(h:D->DSt->Option DSt)(n f i:Nat)(Y:DSt)(Ω Ω':Sto)(r:Except XD Out):Prop
 | stop (ds:List D) (hn:Ω[n]? = some (.lst ds)) (hi:ds[i]? = none) (hr:r=.ok (.nx Y)) (ho:Ω'=Ω)
 | turn (ds:List D) (d:D) (Y1:DSt) (hn:Ω[n]? = some (.lst ds)) (hi:ds[i]? = some d) (hh:h (k i d) Y=some Y1) (hg:((g Y1).b fun o=>match o with
     | .nx Y2=>forL k g h n f (i+1) Y2
     | .ct Y2=>forL k g h n f (i+1) Y2
     | .bk Y2=>MS.p (.nx Y2)
     | .rt v=>MS.p (.rt v)) Ω=some (r,Ω'))
def jCc(e:forL k g h n (f+1) i Y Ω=some (r,Ω')):ForLI k g h n f i Y Ω Ω' r:=by
 unfold forL at e
 cases hn:Ω[n]? with
 | none=>rw[hn] at e;cases e
 | some so =>
  rw[hn] at e
  cases so with
  | ins c fs=>cases e
  | dck _=>cases e
  | exc _ _=>cases e
  | xd _=>cases e
  | lst ds =>
   dsimp only at e
   cases hi:ds[i]? with
   | none=>rw[hi] at e;cases e;exact .stop ds hn hi rfl rfl
   | some d =>
    rw[hi] at e;dsimp only at e
    cases hh:h _ Y with
    | none=>rw[hh] at e;cases e
    | some Y1=>rw[hh] at e;exact .turn ds d Y1 hn hi hh e
inductive FLInv(X:Cx)(O:List Nat)(Jz:Rho)(Sz:qd)(Hz:Hp)(F:qd)(J1:Rho)(H1:Hp)(m:DSt->MS Out)(r:Except XD Out)(Ω':Sto)(Z:St)(H:Hp):Prop
 | mk (J:Rho) (S:qd) (Y:DSt) (Ω:Sto) (hR:RM Jz Sz Hz F X.K X.mg O J S H Z Y Ω) (hl:RLe J1 J) (hs:Same H1 (hid H (fob (un F S) Z O))) (hf:m Y Ω=some (r,Ω'))
section
variable {X:Cx}
def jC3(hp:PassesOwn (model X.prog X.w) X.A X.env X.xe)(hc:X.calm=true)(hge:Gl X "enumerate")(hme:X.mg "enumerate"=none)(hi:MA X O [a] fl)(hg:DG X O (.Tuple ts kk tp) h)(hb:MSs X O O O body g)
  (hse:autoParam (starEach [a] X.env=[(false,eval a X.env)]) zau2._auto_1) (hs:autoParam (∀ x,foldedSetIterable (.Call (.Name "enumerate" p) [a] [] pos') X.env x=pure x) zau9._auto_1):MSt X O O B (.For (.Tuple ts kk tp) (.Call (.Name "enumerate" p) [a] [] pos') body [] pos) (jMv kEn fl h g fuel):=by
 rintro U s Z H Dn I ⟨Jz,Sz,Hz,F,J,S,Y,Ω,R,r,Ω',hgf,k⟩;refine jzs hp hc (jzk hge hme hi hse) hg hb hs _ s Z H Dn I ?_;refine bE R hgf fun x Ω1 hgA us J1 S1 H1 R1 l1 v1 rs1=>?_
 obtain⟨x0,rfl,hgA⟩:=jJt hgA;obtain⟨u,hu,r1⟩:=jhl rs1;rcases MS.b_inv hgA with ⟨x',Ω1',e1',hgB⟩|⟨x',e1',_⟩
 .obtain⟨n,ds0,rfl,hn0,hr0,rfl⟩:=jkm e1';cases hr0;obtain⟨ad,q1,q2⟩:=rep_obj.mp r1;obtain⟨ad',p1,p2,xs0,p3,p4⟩:=R1.sto.ats n _ hn0;rw[q1] at p1;cases p1
  refine⟨ad,xs0,by rw[hu,q2],SqL.of p3,?_⟩;refine⟨fun i m=>FLInv X O _ _ _ F J1 _ (forL kEn g h n m i) r Ω',⟨_,J1,S1,Y,_,R1,RLe.refl _,Same.refl _,hgB⟩,?_⟩;rintro i m Z' H' ⟨J',S',Y',Ω2,R',l',f',hr⟩
  cases m with
  | zero=>cases hr
  | succ m =>
   rcases jCc hr with ⟨ds,hn,hi',rfl,rfl⟩|⟨ds,d,Y1,hn,hi',hh,hg'⟩
   .obtain⟨b,t1,t2,xs,t3,t4⟩:=R'.sto.ats n _ hn;rw[l' n ad q1] at t1;cases t1
    exact .inl ⟨⟨xs,SqL.of t3,by rw[t4.length];grind⟩,k J' S' Z' H' R' (l1.trans l') (v1.trans f')⟩
   .obtain⟨b,t1,t2,xs,t3,t4⟩:=R'.sto.ats n _ hn;rw[l' n ad q1] at t1;cases t1
    obtain⟨v,w1,w2⟩:=t4.get hi';refine .inr ⟨⟨xs,v,SqL.of t3,w1⟩,_,fun Z2 H2 q=>⟨m,Nat.lt_succ_self _,q⟩,fun x H2 y=>?_⟩;obtain⟨T,z,hT,rfl,rfl,hx⟩:=y;have hxv:=by
     have:=hx xs (SqL.of t3);rw[w1] at this;exact (zby this).symm
    subst hxv;have R2:=R'.mono (jal (o:=.tup [.int i,z]) hT);have f2:=f'.trans (jad (jal (o:=.tup [.int i,z]) hT));have rt:Rep J' X.K _ (.tup [.int i,d]) _:=jbc hT (R'.fresh hT) (Reps.cons (rep_int.mpr rfl) (Reps.cons w2 Reps.nil));refine⟨J',_,_,Y',_,Y1,R2.rs,rt,hh,fun Z3 ef R3=>?_⟩;have R3':=R2.next R3 (by grind [Same.refl]);rcases MS.b_inv hg' with ⟨o,Ω3,e3,hgD⟩|⟨y,e3,rfl⟩
    .refine⟨_,_,_,F,J',S',Y1,Ω2,R3',_,Ω3,e3,?_⟩;rw[ef]
     cases o with
     | nx Y4=>exact fun J4 S4 Z4 H4 R4 l4 v4=>⟨J4,S4,Y4,Ω3,R4,l'.trans l4,f2.trans v4,hgD⟩
     | ct Y4=>exact fun J4 S4 Z4 H4 R4 l4 v4=>⟨J4,S4,Y4,Ω3,R4,l'.trans l4,f2.trans v4,hgD⟩
     | bk Y4=>cases hgD;exact fun J4 S4 Z4 H4 R4 l4 v4=>k J4 S4 Z4 H4 R4 (l1.trans (l'.trans l4)) (v1.trans (f2.trans v4))
     | rt v=>cases hgD;exact k
    .exact⟨_,_,_,F,J',S',Y1,Ω2,R3',_,_,e3,trivial⟩
 .exact absurd (jkm e1') (fun ⟨_,_,_,_,h,_⟩=>by cases h)
end
def jnh(h:D->DSt->Option DSt)(fe:DSt->MS D):List D->DSt->MS (List D)
 | [],_=>MS.p []
 | d::ds,Y=>match h d Y with
  | none=>fun _=>none
  | some Y1=>(fe Y1).b fun y=>(jnh h fe ds Y1).b fun ys=>MS.p (y::ys)
def jI2(own:Nat)(caps:qf)(fi:DSt->MS (List D))(h:D->DSt->Option DSt)(fe:DSt->MS D):DSt->MS D:=fun Y=>(fi Y).b fun ds=>(if ds.length<=sizeLine then jnh h fe ds (jef own caps Y) else fun _=>none).b fun ys=>MS.o (jar ys)
def jIq(done:List D):Except XD (List D)->Except XD (List D)
 | .ok rest=>.ok (done++rest)
 | .error y=>.error y
inductive CEI(X:Cx)(J1:Rho)(S1:qd)(H1 Hv:Hp)(G:qd)(Dd:Addr)(T:Except XD (List D))(Ωe:Sto)(cd:DSt->MS (List D))(i:Nat)(Z:St)(H:Hp):Prop
 | mk (J:Rho) (S:qd) (Y:DSt) (Ω:Sto) (done:List D) (zs:List V) (rr:Except XD (List D)) (hR:RM J S H G X.K X.mg [] J S H Z Y Ω) (hD:H Dd=some (.lst zs)) (hz:Reps J X.K (hid H (un G S)) done zs) (hlen:zs.length=i)
  (hc:cd Y Ω=some (rr,Ωe)) (hT:T=jIq done rr) (hv:Same Hv (hid H (un G S))) (hl:RLe J1 J) (hsm:∀ b o,S1 b=false->H1 b=some o->H b=some o) (hold:∀ b,S1 b=true->S b=true) (hnew:∀ b,S b=true->S1 b=true\/H1 b=none)
def RM.here(R:RM Jz Sz Hz F K mg [] J S H Z Y Ω):RM J S H F K mg [] J S H Z Y Ω :=
 ⟨R.rs,RLe.refl _,fun _ _ _ h=>h,fun _ h=>h,fun _ h=>.inl h,fun i hi=>absurd hi (by simp),R.ff,R.sto⟩
def RM.updG(R:RM Jz Sz Hz F K mg [] J S H Z Y Ω)(h:F a=true):RM J S (upd H a (.lst zs)) F K mg [] J S (upd H a (.lst zs)) Z Y Ω:=by
 have hF:un F S a=true:=un_t.mpr (.inl h);refine⟨R.rs.updF hF,RLe.refl _,fun _ _ _ h=>h,fun _ h=>h,fun _ h=>.inl h,fun i hi=>absurd hi (by simp),R.ff,?_⟩;rw[jcg,jdr hF];have s:=R.sto;rw[jcg] at s;refine s.mono (fun b hb=>jam ?_) (Same.refl _) (jqu s.tv fun _ z=>nomatch z);rintro rfl;rw[R.ff b h] at hb;cases hb
section
variable {X:Cx}{O:List Nat}{elt iter tg:Expr}{fe:DSt->MS D}{fi:DSt->MS (List D)}{pos:Pos}
def jI7(hc:X.calm=true)(ck:CapsOk X scope caps)(hi:MI X O tg iter fi)
  (hg:∀ C s0 H0 ex,DG (jch X scope (own++caps.map (·.1)) C s0 H0 ex) [] tg h) (he:∀ C s0 H0 ex,ME (jch X scope (own++caps.map (·.1)) C s0 H0 ex) [] elt fe)
  (hcf:autoParam (jew O caps=true) zau2._auto_1) (hs:autoParam (∀ x,foldedSetIterable iter X.env x=pure x) zau9._auto_1) :
  ME X O (.ListComp elt [⟨tg,iter,[],0⟩] scope pos) (jI2 own.length caps fi h fe):=by
 rintro U s Z H Q I ⟨Jz,Sz,Hz,F,J,S,Y,Ω,R,r,Ω',hf,k⟩;refine jsb (g:=tG X.K [] h) (te:=tE X.K X.mg [] fe) hc ck hi hg (fun _ _ _ _=>jzg) he hs U s Z H Q I ?_;refine bE R hf fun ds Ω1 hfA Jq J1 S1 H1 R1 l1 v1 it Dd hD=>?_
 by_cases hz:ds.length<=sizeLine
 .obtain⟨T,Ωe,hT,hfin⟩:∃ T Ωe,jnh h fe ds (jef own.length caps Y) Ω1=some (T,Ωe)/\∀ tot,T=.ok tot->∃ dd,jar tot=some dd/\r=.ok dd/\Ω'=Ωe:=by
   rcases MS.b_inv hfA with ⟨tot,Ω2,e2,hfB⟩|⟨y,e2,rfl⟩
   .grind [MS.o_inv]
   grind
  let G:=fun b=>fob F Z O b || b == Dd
  have Gt:∀ b,G b=true↔fob F Z O b=true\/b=Dd:=fun b=>by grind
  have hff:∀ b,G b=true->S1 b=false:=fun b hb=>by
   rcases (Gt b).mp hb with z|rfl
   .cases e:S1 b with
    | false=>rfl
    | true =>
     rcases fob_t.mp z with q|q
     .rw[R1.ff b q] at e;cases e
     .exact absurd q (R1.base_S e)
   .exact (R1.noS hD)
  have vis:∀ {H2:Hp},Same H1 H2->Same (hid H1 (fob (un F S1) Z O)) (hid H2 (un G S1)):=fun {H2} e b o q=>by
   obtain⟨q1,q2⟩:=hid_some.mp q;refine hid_some.mpr ⟨?_,e b o q2⟩
   cases z:un G S1 b with
   | false=>rfl
   | true =>
    rcases un_t.mp z with z|z
    .rcases (Gt b).mp z with z|rfl
     .have h2:fob (un F S1) Z O b=true:=by rw[<- jf5];exact un_t.mpr (.inl z)
      grind
     grind
    .have h2:fob (un F S1) Z O b=true:=jhq b (un_t.mpr (.inr z))
     grind
  have sm0:Same H1 (upd H1 Dd (.lst [])):=jal hD;have rs0:RS J1 X.K H1 (upd H1 Dd (.lst [])) (un G S1) [] (jdc own.length caps Z) (jef own.length caps Y):=by
   refine⟨by simp[jdc,jef],sm0,fun b hb=>?_,fun i d hd _=>?_,fun i hi=>absurd hi (by simp),fun i hi=>absurd hi (by simp)⟩
   .rcases un_t.mp hb with z|z
    .rcases (Gt b).mp z with z|rfl
     .refine jkf fun q=>?_
      have h2:fob (un F S1) Z O b=true:=by rw[<- jf5];exact un_t.mpr (.inl z)
      rw[R1.fresh q] at h2;cases h2
     grind [jaj]
    .exact jkf (R1.sto.fin b z)
   .obtain⟨p,p1,p2,p3⟩:=jmx hd;have hO:p.2∉O:=fun z=>by
     have:=List.all_eq_true.mp hcf p (List.mem_of_getElem? p1)
     grind
    obtain⟨v,q1,q2⟩:=R1.rs.val p.2 d p3 hO;exact⟨v,jpk p1 p2 q1,by rw[jcg];exact q2.mono (vis sm0)⟩
  refine⟨fun i m Z' H'=>m=ds.length-i/\i<=ds.length/\CEI X J1 S1 H1 _ G Dd T Ωe (jnh h fe (ds.drop i)) i Z' H',
   ⟨ds.length,by simp,Nat.zero_le _,J1,S1,_,Ω1,[],[],T,(⟨rs0.rebase,RLe.refl _,fun _ _ _ h=>h,fun _ h=>h,fun _ h=>.inl h,fun i hi=>absurd hi (by simp),hff,by rw[jcg];exact R1.sto.mono (R1.at_store sm0) (vis sm0) (jA4 (jqu R1.sto.tv fun _ z=>nomatch z) (vis sm0))⟩),jaj,Reps.nil,rfl,hT,by cases T<;>rfl,vis sm0,RLe.refl _,fun b o _ q=>sm0 b o q,fun _ q=>q,fun _ q=>.inl q⟩,?_⟩
  rintro i m Z' H' ⟨rfl,hil,J',S',Y',Ω2,done,zs,rr,R',hDd,rz,hlen,hcd,hTT,f',l',sm',old',new'⟩;obtain⟨j1,j2⟩:=it H' _ i (by rw[jcg];exact f') (fun p hp=>R'.fresh hp)
  by_cases hlt:i<ds.length
  .obtain⟨go,yld⟩:=j1 hlt;refine .inr ⟨go,_,fun Z2 H2 q=>⟨_,by lia,rfl,hlt,q⟩,fun x H2 y=>?_⟩;obtain⟨s2,d,hd,rd⟩:=yld x H2 y;have hdr:ds.drop i=d::ds.drop (i+1):=by
    rw[List.drop_eq_getElem_cons hlt];have:=by rw[zax hlt] at hd;exact zby hd
    rw[this]
   rw[hdr] at hcd;unfold jnh at hcd
   cases e2:h d Y' with
   | none=>grind
   | some Y1 =>
    rw[e2] at hcd;have R2:=R'.mono s2;refine⟨J',_,un G S',Y',d,Y1,R2.rs,rd.rho l',e2,fun Z3 ef R3=>?_⟩;have R3':=(R2.next R3 (by grind [Same.refl])).here;rcases MS.b_inv hcd with ⟨yv,Ω3,e3,hcA⟩|⟨yv,e3,rfl⟩
    .refine⟨J',S',H2,G,J',S',Y1,Ω2,R3',.ok yv,Ω3,e3,fun v J5 S5 H5 R5 l5 v5 r5=>?_⟩;rw[jcg,jcg] at v5;rw[jcg] at r5;have GD:=(Gt Dd).mpr (.inr rfl);refine⟨zs,(R5.same Dd _ (R'.ff Dd GD) (s2 _ _ hDd)),by lia,?_⟩;have hh:hid (upd H5 Dd (.lst (zs++[v]))) (un G S5)=hid H5 (un G S5):=jdr (un_t.mpr (.inl GD));have vv:=(jad s2).trans v5;obtain⟨r',e4,hT4⟩:∃ r',jnh h fe _ Y1 Ω3=some (r',Ωe)/\T=jIq (done++[yv]) r':=by
      rcases MS.b_inv hcA with ⟨ys,Ω4,e4,hcB⟩|⟨ys,e4,rfl⟩
      .cases hcB;exact⟨.ok ys,e4,by rw[hTT];simp[jIq]⟩
      .exact⟨_,e4,hTT⟩
     refine⟨J5,S5,Y1,Ω3,_,_,r',R5.updG GD,jaj,?_,by grind,e4,hT4,?_,l'.trans l5,?_,fun b q=>R5.old b (old' b q),?_⟩
     .rw[hh];exact ((rz.rho l5).mono vv).append (Reps.cons r5 Reps.nil)
     .rw[hh];exact f'.trans vv
     .intro b o q1 q2;rw[jam (fun z=>by grind)]
      cases e:S' b with
      | false=>exact R5.same b o e (s2 _ _ (sm' b o q1 q2))
      | true=>grind
     .intro b q;rcases R5.new b q with z|z
      .grind
      .cases e:H1 b with
       | none=>grind
       | some o =>
        cases e1':S1 b with
        | true=>grind
        | false =>
         have:=s2 _ _ (sm' b o e1' e)
         grind
    .exact⟨J',S',H2,G,J',S',Y1,Ω2,R3',_,_,e3,trivial⟩
  .have ei:i=ds.length:=by lia
   subst ei;rw[List.drop_length] at hcd;cases hcd;obtain⟨dd,g1,rfl,rfl⟩:=hfin done (by rw[hTT];show Except.ok _=_;rw[List.append_nil]);unfold jar at g1;rw[if_pos (by grind)] at g1;cases g1;have nS':=R'.ff Dd ((Gt Dd).mpr (.inr rfl));have le1:Same (hid H' (un G S')) _:=jc4 fun b q=>by
    rcases un_t.mp q with z|z
    .exact un_t.mpr (.inl ((Gt b).mpr (.inl z)))
    .exact un_t.mpr (.inr z)
   have sto:=R'.sto;rw[jcg] at sto;obtain⟨t1,t2⟩:=R1.call l' sm' old' new' (fun b hb=>R'.ff b ((Gt b).mpr (.inl hb))) (sto.mono (fun _ _=>rfl) le1 (jA4 sto.tv le1));have vd:fob (un F S') Z O Dd=false:=by
    cases e:fob _ Z O Dd with
    | false=>rfl
    | true =>
     rw[<- jf5] at e;rcases un_t.mp e with z|z
     .have h2:fob (un F S1) Z O Dd=true:=by rw[<- jf5];exact un_t.mpr (.inl z)
      rw[R1.fresh hD] at h2;cases h2
     grind
   refine .inl ⟨j2 rfl,k _ J' S' H' t1 (l1.trans l') (v1.trans t2) ?_⟩;refine rep_lst.mpr ⟨Dd,zs,rfl,SqL.of (hid_some.mpr ⟨vd,hDd⟩),rz.mono ?_⟩
   grind [jf5]
 .rw[if_neg hz] at hfA;rcases MS.b_inv hfA with ⟨tot,Ω2,e2,_⟩|⟨y,e2,_⟩<;>cases e2
end
end DL
namespace L2
open PyProof.Rows
section
variable {κ:Type}[DecidableEq κ]
def valV(kvs:List (κ×V))(k:κ):Option V:=(kvs.find? fun kv=>decide (kv.1=k)).map (·.2)
def putK(kvs:List (κ×V))(k:κ)(v:V):List (κ×V) :=
 if (kvs.any fun kv=>decide (kv.1=k))=true then kvs.map (fun kv=>if kv.1=k then (kv.1,v) else kv) else kvs++[(k,v)]
def jky{k:κ}(e:p.1=k):valV (p::r) k=some p.2:=by simp[valV,e]
def jkx{k:κ}(e:¬ p.1=k):valV (p::r) k=valV r k:=by simp[valV,e]
theorem jop(k:κ):∀ kvs:List (κ×V),(kvs.any fun kv=>decide (kv.1=k))=(valV kvs k).isSome
 | []=>rfl
 | p::r=>by
  rw[List.any_cons]
  by_cases e:p.1=k
  .simp only[jky e,decide_eq_true e,Bool.true_or,Option.isSome_some]
  simp_all [jkx,decide_eq_false,Bool.false_or,jop]
def jlm(kvs:List (κ×V))(k:κ)(v:V):(putK kvs k v).length<=kvs.length+1:=by
 grind [putK,List.length_map,List.length_append,List.length_cons,List.length_nil]
def jDv{k:κ}(v:V)(h:valV kvs k=none):putK kvs k v=kvs++[(k,v)]:=by
 unfold putK;rw[jop,h];exact if_neg nofun
def RelO.isSome_eq(r:RelO o u):o.isSome=u.isSome:=by
 cases o with
 | none=>cases u with
  | none=>rfl
  | some _=>exact (r).elim
 | some _=>cases u with
  | none=>exact (r).elim
  | some _=>rfl
theorem RelO.getD(r:RelO o u)(rd:RelV d d'):RelV (o.getD d) (u.getD d'):=by
 cases o with
 | none=>cases u with
  | none=>exact rd
  | some _=>exact (r).elim
 | some _=>cases u with
  | none=>exact (r).elim
  | some _=>exact r
def KV.val(r:KV kvs vs)(k:κ):RelO (valV kvs k) (valueAt vs k):=by
 induction r with
 | nil=>exact True.intro
 | @cons p q ps qs h t ih =>
  obtain⟨h1,h2⟩:=h
  by_cases e:p.1=k
  .have b:valueAt (q::qs) k=some q.2:=by simp[valueAt,(h1.symm.trans e)]
   rw[jky e,b];exact h2
  .have e':¬ q.1=k:=fun z=>e (h1.trans z)
   have b:valueAt (q::qs) k=valueAt qs k:=by simp[valueAt,e']
   rw[jkx e,b];exact ih
def KV.any(r:KV kvs vs)(k:κ):(kvs.any fun kv=>decide (kv.1=k))=vs.any fun kv=>decide (kv.1=k):=by
 induction r<;>grind
def KV.repl(r:KV kvs vs)(k:κ)(ry:RelV y u) :
  KV (kvs.map fun kv=>if kv.1=k then (kv.1,y) else kv) (vs.map fun kv=>if kv.1=k then (kv.1,u) else kv):=by
 induction r with
 | nil=>exact .nil
 | @cons p q ps qs h t ih =>
  rw[List.map_cons,List.map_cons];refine .cons ?_ ih
  grind
def KV.put(r:KV kvs vs)(k:κ)(ry:RelV y u):KV (putK kvs k y) (stored vs k u):=by
 unfold putK stored;rw[r.any k]
 by_cases e:(vs.any fun kv=>decide (kv.1=k))=true
 .rw[if_pos e,if_pos e];exact r.repl k ry
 .rw[if_neg e,if_neg e];exact Paired.snoc r ⟨rfl,ry⟩
theorem KV.length{kvs:List (κ×V)}{vs:List (κ×Value)}(r:KV kvs vs):kvs.length=vs.length:=Paired.length r
end
theorem jx2(r:RelV (kV k) u):(jcp P w).is k u=true:=by
 cases k with
 | inl i=>obtain⟨t,e⟩:=(r);grind [jr1]
 | inr x=>obtain⟨t,e⟩:=(r);grind [jr2]
theorem jpm:∀ {ks:List Key} {us:List Value},Vals (ks.map kV) us->ItemsAre (jcp P w) ks us
 | [],_,r=>by cases r;exact .nil
 | k::ks,_,r=>by
  cases r with
  | cons h t=>exact .cons (jx2 h) (jpm t)
abbrev KT(H:Hp):List (List Key×V)->List (List Key×Addr×Value)->Prop:=Paired fun p q=>p.1=q.1/\H q.2.1=some (.tup (p.1.map kV))/\RelV p.2 q.2.2
def KT.val(r:KT H kvs xs)(k:List Key):RelO (valV kvs k) ((atKey xs k).map (·.2)):=by
 induction r with
 | nil=>exact True.intro
 | @cons p q ps qs h t ih =>
  obtain⟨h1,_,h2⟩:=h
  by_cases e:p.1=k
  .have b:atKey (q::qs) k=some q.2:=by simp[atKey,(h1.symm.trans e)]
   rw[jky e,b];exact h2
  .have e':¬ q.1=k:=fun z=>e (h1.trans z)
   have b:atKey (q::qs) k=atKey qs k:=by simp[atKey,e']
   rw[jkx e,b];exact ih
def KT.repl(r:KT H kvs xs)(k:List Key)(ry:RelV y u) :
  KT H (kvs.map fun kv=>if kv.1=k then (kv.1,y) else kv) (xs.map (putAt k u)):=by
 induction r with
 | nil=>exact .nil
 | @cons p q ps qs h t ih =>
  rw[List.map_cons,List.map_cons];refine .cons ?_ ih;obtain⟨h1,h2,h3⟩:=h;unfold putAt
  grind
def KT.put(r:KT H kvs xs)(k:List Key)(hb:H b=some (.tup (k.map kV)))(ry:RelV y u) :
  KT H (putK kvs k y) (storedH xs k b u):=by
 have e:(kvs.any fun kv=>decide (kv.1=k))=(atKey xs k).isSome:=by
  rw[jop,(r.val k).isSome_eq,Option.isSome_map]
 unfold putK storedH;rw[e]
 by_cases q:(atKey xs k).isSome=true
 .rw[if_pos q,if_pos q];exact r.repl k ry
 .rw[if_neg q,if_neg q];exact Paired.snoc r ⟨rfl,hb,ry⟩
def KT.keeps(r:KT H kvs xs)(ht:∀ b ys,H b=some (.tup ys)->H' b=some (.tup ys)):KT H' kvs xs :=
 Paired.mapP r fun _ _ z=>⟨z.1,ht _ _ z.2.1,z.2.2⟩
section
variable {P:Program}{w:World}{H:Hp}{h:Heap}{a:Addr}
def jPd(ok:HOk P w H h)(e:Rd H a u):ObjOk P w H h a u:=e.ok ok
def jB2(ok:HOk P w H h)(e:Rd H a (.dK kvs)):kvs.length<=sizeLine/\(a == sysModules)=false/\∃ vs,KV kvs vs/\h.DictOf (jcp P w) a vs :=
 jPd ok e
def jQv(ok:HOk P w H h)(e:H a=some (.dK kvs)):kvs.length<=sizeLine/\(a == sysModules)=false/\∃ vs,KV kvs vs/\h.DictOf (jcp P w) a vs:=jB2 ok (.inl e)
def jtr(ok:HOk P w H h)(e:H a=some (.tup (ks.map kV))):(tupleKind (jcp P w)).is h ks a:=by
 obtain⟨_,its,r,o,h1,h2,n,h3⟩:=(ok a _ e)
 exact⟨o,_,n,h1,h2,h3,by simpa using jpm r⟩
def jB5(ok:HOk P w H h)(e:Rd H a (.dT kvs)):kvs.length<=sizeLine/\(a == sysModules)=false /\
  ∃ xs,KT H kvs xs/\h.DictOfH (tupleKind (jcp P w)) a xs:=by
 obtain⟨z,y,xs,r,o,es,ep,h1,h2,h3,h4,h5⟩:=(jPd ok e)
 refine⟨z,y,xs,r,o,es,ep,h1,h2,h3,h4,fun x hx=>?_,h5⟩;have all:∀ {l:List _} {m:List _},KT H l m->∀ x∈m,(tupleKind (jcp P w)).is h x.1 x.2.1:=by
  intro l m q
  induction q with
  | nil=>grind
  | @cons p q ps qs hq t ih =>
   intro x hx;rcases List.mem_cons.mp hx with e|hx
   .subst e;exact jtr ok (by grind)
   grind
 grind
def jQw(ok:HOk P w H h)(e:H a=some (.dT kvs)):kvs.length<=sizeLine/\(a == sysModules)=false /\
  ∃ xs,KT H kvs xs/\h.DictOfH (tupleKind (jcp P w)) a xs:=jB5 ok (.inl e)
end
def DGet(H:Hp)(a:Addr)(y:V)(r:Option V):Prop :=
 (∃ kvs k,Rd H a (.dK kvs)/\y=kV k/\r=valV kvs k)\/∃ kvs k b,Rd H a (.dT kvs)/\y=.ref b/\H b=some (.tup (k.map kV))/\r=valV kvs k
def DPut(H:Hp)(a:Addr)(y v:V)(H':Hp):Prop :=
 (∃ kvs k,H a=some (.dK kvs)/\y=kV k/\kvs.length<sizeLine/\H'=upd H a (.dK (putK kvs k v))) \/
 ∃ kvs k b,H a=some (.dT kvs)/\y=.ref b/\H b=some (.tup (k.map kV))/\kvs.length<sizeLine/\H'=upd H a (.dT (putK kvs k v))
def DGet.k{H:Hp}{a:Addr}{kvs:List (Key×V)}{k:Key}(e:H a=some (.dK kvs)):DGet H a (kV k) (valV kvs k):=.inl ⟨kvs,k,.inl e,rfl,rfl⟩
section
variable {X:Cx}{U:qb}{Z:St}{H:Hp}{s:Shared}{a:Addr}{y v:V}{u r:Value}{o:Option V}{A:Around}{E:qc}
def Inv.big(I:Inv X U Z H s):sysModules<s.heap.objs.size:=Nat.lt_trans (by decide) ((I.mod.glob.keeps I.bk).lt)
def jHm{Q:qc}(hu:A.units+1<cLine)(I:Inv X U Z H s)(g:DGet H a y o)(ry:RelV y u)(h:∀ s',Inv X U Z H s'->Q (.bool (!o.isSome)) s') :
  wpAny (model X.prog X.w) A (compareOp .NotIn u (.ref a)) Q E s:=by
 rcases g with ⟨kvs,k,e,ey,l⟩|⟨kvs,k,b,e,ey,eb,l⟩
 .subst ey;obtain⟨z,hd,vs,rel,dd⟩:=jB2 I.hok e;refine wpAny_notIn_of (jx2 ry) hd dd.mapOf ?_;rw[<- (rel.val k).isSome_eq,<- l];exact h _ (I.tok _)
 .subst ey;cases (ry);obtain⟨z,hd,xs,rel,dd⟩:=jB5 I.hok e;refine wpAny_notIn_heap (tupleKind_room_in1 hu) (jtr I.hok eb) hd dd ?_;have q:=(rel.val k).isSome_eq;rw[Option.isSome_map] at q;rw[<- q,<- l];exact h _ (I.tok _)
def jw3(I:Inv X U Z H s)(mu:Mut (H a))(hs:Heap.SameBut a s.heap h')(he:∃ q,h'.get? a=some q)(new:ObjOk X.prog X.w (upd H a ob) h' a ob) :
  Inv X U Z (upd H a ob) { s with heap:=h',toks:=t' } :=
 I.write mu (.inl rfl) (fun b q hb z=>(hs.2 b hb).trans z) he new
def jMi(z:kvs.length<=sizeLine)(hd:(a == sysModules)=false)(rel:KV kvs vs)(dd:h'.DictOf (jcp P w) a vs) :
  ObjOk P w H' h' a (.dK kvs):=⟨z,hd,vs,rel,dd⟩
def jw2{H':Hp}{Q:Unit->Shared->Prop}(hu:A.units+1<cLine)(I:Inv X U Z H s)(g:DPut H a y v H')(ry:RelV y u)(rv:RelV v r)(h:∀ s',Inv X U Z H' s'->Q () s') :
  wpAny (model X.prog X.w) A (setItem (.ref a) u r) Q E s:=by
 rcases g with ⟨kvs,k,e,ey,l,eH⟩|⟨kvs,k,b,e,ey,eb,l,eH⟩
 .subst ey eH;obtain⟨z,hd,vs,rel,dd⟩:=jQv I.hok e;exact wpAny_setItem_pairs (hsz:=(by rw[<- rel.length];exact z)) (jx2 ry) dd fun h' dd' hs=>h _ (jw3 I (by rw[e];exact True.intro) hs (let ⟨q,_,_,hq,_⟩:=dd';⟨q,hq⟩) (jMi (by have:=jlm kvs k v;lia) hd (rel.put k rv) dd'))
 .subst ey eH;cases (ry);obtain⟨z,hd,xs,rel,dd⟩:=jQw I.hok e;refine wpAny_setItem_heap (hsz:=(by rw[<- Paired.length rel];exact z)) (tupleKind_room_in1 hu) (jtr I.hok eb) dd fun h' dd' hs=>h _ ?_
  obtain⟨q,es,ep,hq,h2,h3,h4,_,h5⟩:=dd';refine jw3 I (by rw[e];exact True.intro) hs ⟨q,hq⟩ ⟨(by have:=jlm kvs k v;lia),hd,_,(rel.put k eb rv).keeps fun c ys ec=>?_,q,es,ep,hq,h2,h3,h4,h5⟩;rw[jam (jJm ec e (fun z=>nomatch z))];exact ec
end
def jAx(ty td:TE):TE:=fun Z H Q=>ty Z H fun y H1=>td Z H1 fun x H2=>∃ a o,x=.ref a/\DGet H2 a y o/\Q (.bl (!o.isSome)) H2
def jR3(td ty tv:TE):TS:=fun D Z H=>tv Z H fun v H1=>td Z H1 fun x H2=>ty Z H2 fun y H3=>∃ a H4,x=.ref a/\DPut H3 a y v H4/\D.nx Z H4
section
variable {X:Cx}{o i value:Expr}{pos pos':Pos}{td ty tv:TE}
def jzf(hu:X.A.units+1<cLine)(hi:PE X i ty)(ho:PE X o td):PC X .NotIn i o (jAx ty td):=by
 intro U s Z H Q I h;refine thn (hi _ s Z H _ I h) fun iv s1 ⟨y,H1,I1,ry,q1⟩=>thn (ho _ s1 Z H1 _ I1 q1) fun u s2 hzz=>?_
 obtain⟨x,H2,I2,rx,a,ov,ex,g,q2⟩:=hzz;subst ex;obtain rfl:u=Value.ref a:=rx;exact jHm hu I2 g ry fun s3 I3=>⟨.bl _,H2,I3,rfl,q2⟩
def jKh(hu:X.A.units+1<cLine)(ho:PE X o td)(hi:PE X i ty)(hv:PE X value tv)(hs:swapsWith value (some (.Subscript o i pos')) pos.line X.env=pure false) :
  PS X (.Assign [.Subscript o i pos'] value pos) (jR3 td ty tv):=by
 intro U s Z H D I h;refine wpAny_Assign_Subscript (thn (hv _ s Z H _ I h) fun r s1 ⟨v,H1,I1,rv,q1⟩=>thn (ho _ s1 Z H1 _ I1 q1) fun u s2 ⟨x,H2,I2,rx,q2⟩=>thn (hi _ s2 Z H2 _ I2 q2) fun iv s3 hzz=>?_) hs;obtain⟨y,H3,I3,ry,a,H4,ex,g,q3⟩:=hzz;subst ex;obtain rfl:u=Value.ref a:=rx;exact jw2 hu I3 g ry rv fun s4 I4=>⟨Z,H4,I4,q3⟩
end
def jB1(h:Heap)(hb:sysModules<h.objs.size):ObjOk P w H (h.push { cls:=.type "dict",data:=.dict #[] }) h.objs.size (.dK []) :=
 ⟨Nat.zero_le _,beq_eq_false_iff_ne.mpr (Ne.symm (zcw hb)),[],.nil,Heap.DictOf.new h⟩
def jPw:TE:=fun _ H Q=>∀ p,H p=none->Q (.ref p) (upd H p (.dK []))
section
variable {X:Cx}{pos:Pos}
def jDj:PE X (.Dict [] [] pos) jPw:=fun U s Z H Q I h =>
 wpAny_Dict_empty ⟨.ref _,_,I.laid (fun _ _ q=>zaz _ q) (zac _) (jB1 _ I.big),rfl,h _ (I.hok.fresh (zac _))⟩
end
structure M2(X:Cx)(o:Expr)(m:Str)(apos:Pos)(e f:Expr)(cpos:Pos):Prop where
 base:attributeBase o m X.env (eval o X.env)=eval o X.env
 few:((backTo cpos (starEach [e,f] X.env)).all (fun x=>!x.1)&&(backToKw cpos (keywordEach [] X.env)).all (fun x=>x.1.isSome)
  && decide (([e,f]:List Expr).length+([]:List Keyword).length+(if ([]:List Keyword).isEmpty then 0 else 1)<30))=true
 line:(apos.endLine == cpos.line)=true
 trees:backTo cpos (starEach [e,f] X.env)=[(false,eval e X.env),(false,eval f X.env)]
def IsD(H:Hp)(a:Addr):Prop:=(∃ kvs,Rd H a (.dK kvs))\/∃ kvs,Rd H a (.dT kvs)
def jM8(I:Inv X U Z H s)(d:IsD H a) :
  s.TypeIs (.ref a) "dict"/\(∀ b,Value.ref a=.ref b->∃ ob,s.heap.get? b=some ob/\ob.dict=none)/\(a == sysModules)=false:=by
 rcases d with ⟨kvs,e⟩|⟨kvs,e⟩
 .obtain⟨_,hd,vs,_,dd⟩:=jB2 I.hok e;refine⟨dd.typeIs,fun b q=>?_,hd⟩;cases q;obtain⟨ob,_,_,h1,h2,_⟩:=dd;exact⟨ob,h1,h2.2.1⟩
 .obtain⟨_,hd,xs,_,dd⟩:=jB5 I.hok e;refine⟨dd.typeIs,fun b q=>?_,hd⟩;cases q;obtain⟨ob,_,_,h1,h2,_⟩:=dd;exact⟨ob,h1,h2.2.1⟩
section
variable {X:Cx}{U:qb}{Z:St}{H:Hp}{s:Shared}{a:Addr}{y d:V}{u r:Value}{o:Option V}{A:Around}{E:qc}
def jL2(hu:A.units+1<cLine)(I:Inv X U Z H s)(g:DGet H a y o)(ry:RelV y u)(rd:RelV d r)(h:∀ w' s',Inv X U Z H s'->RelV (o.getD d) w'->Q w' s') :
  wpAny (model X.prog X.w) A (call (.builtin "dict.get") [.ref a,u,r]) Q E s:=by
 rcases g with ⟨kvs,k,e,ey,l⟩|⟨kvs,k,b,e,ey,eb,l⟩
 .subst ey;obtain⟨z,hd,vs,rel,dd⟩:=jB2 I.hok e;refine call_meetsIn PySem.F.slot_dict_get dd.typeIs PySem.F.entry_dict_get (PySem.F.args_dict_get_3 _ _ _) (meets_dict_get_default _ a (jx2 ry) hd r) ⟨_,dd.mapOf,h _ _ (I.tok _) ?_⟩;rw[l];exact (rel.val k).getD rd
 .subst ey;cases (ry);obtain⟨z,hd,xs,rel,dd⟩:=jB5 I.hok e;refine call_meetsIn PySem.F.slot_dict_get dd.typeIs PySem.F.entry_dict_get (PySem.F.args_dict_get_3 _ _ _) (meetsH_dict_get_default _ a b hd r) ⟨tupleKind_room_in1 hu,k,xs,jtr I.hok eb,dd,h _ _ (I.tok _) ?_⟩;rw[l];exact (rel.val k).getD rd
end
def jPv(td ty tx:TE):TE:=fun Z H Q=>td Z H fun x H1=>∃ a,x=.ref a/\IsD H1 a/\ty Z H1 fun y H2=>tx Z H2 fun z H3=>∃ o,DGet H3 a y o/\Q (o.getD z) H3
section
variable {X:Cx}{o e f:Expr}{apos cpos:Pos}{td ty tx:TE}
def jDi(hu:X.A.units+1<cLine)(ho:PE X o td)(he:PE X e ty)(hf:PE X f tx)(m:M2 X o "get" apos e f cpos):PE X (.Call (.Attribute o "get" apos) [e,f] [] cpos) (jPv td ty tx):=by
 intro U s Z H Q I h;refine wpAny_Call_method m.base m.few m.line PySem.F.plainAttrs_dict PySem.F.slot_dict_get PySem.F.type_dict_get (thn (ho _ s Z H _ I h) fun u s1 hzz=>?_);obtain⟨x,H1,I1,rx,a,ex,d,q1⟩:=hzz;subst ex;obtain rfl:u=Value.ref a:=rx;obtain⟨t1,t2,_⟩:=jM8 I1 d;refine⟨t1,t2,?_⟩;rw[m.trees];exact Calls.callWith_builtin rfl (Calls.evalArgs_plain (Calls.spliced_cons (thn (he _ s1 Z H1 _ I1 q1) fun iv s2 ⟨y,H2,I2,ry,q2⟩ =>
  Calls.spliced_cons (thn (hf _ s2 Z H2 _ I2 q2) fun fv s3 ⟨z,H3,I3,rz,ov,g,q3⟩=>Calls.spliced_nil (jL2 hu I3 g ry rz fun w' s4 I4 rw'=>⟨_,H3,I4,rw',q3⟩)))))
end
end L2
namespace Att
open PySem PySem.W PySem.Calls PyProof.Rows
end Att
namespace L2
open PyProof.Rows
section
variable {κ:Type}[DecidableEq κ]
end
section
variable [DecidableEq κ]{knd:HeapKind prog w κ}{s:Shared}{k:κ}
end
end L2
namespace DL
open L2
inductive LookV(J:Rho)(K:W.Frag)(H:Hp)(o:Option D)(v:Option V):Prop
 | none (h1:o=none) (h2:v=none)
 | some (d:D) (u:V) (h1:o=some d) (h2:v=some u) (h3:Rep J K H d u)
end DL
namespace L2
open PyProof.Rows
section
variable {X:Cx}
def jzt(hc:X.calm=true)(ck:CapsOk X scope caps)
  (hi:PI X tg iter wi) (hg:∀ C s0 H0 ex,PG (jch X scope (own++caps.map (·.1)) C s0 H0 ex) tg g) (ht:∀ C s0 H0 ex,PC0 (jch X scope (own++caps.map (·.1)) C s0 H0 ex) ifs tc)
  (he:∀ C s0 H0 ex,PE (jch X scope (own++caps.map (·.1)) C s0 H0 ex) elt te) (hN:X.N.Nodup) (hix:X.N[i]? = some x) (hx:Loc X.env.scope x) (hsw:swapsWith (.ListComp elt [⟨tg,iter,ifs,0⟩] scope cpos) (some (.Name x pos')) pos.line X.env=pure true)
  (hf:X.fn x=true\/X.env.scope.names.lookup x=some .local) (hs:∀ x,foldedSetIterable iter X.env x=pure x) :
  PS X (.Assign [.Name x pos'] (.ListComp elt [⟨tg,iter,ifs,0⟩] scope cpos) pos) (fun Dn Z H=>jAw own.length caps wi g tc te Z H fun v H'=>Dn.nx (Z.set i (some v)) H'):=by
 intro U s Z H Dn I h;rw[exec_Assign_Name_used _ _ _ _ hsw];refine zay (wpAny_standAt (zay ?_))
 refine zay (thn (jo8 hc ck hi hg ht he hs I h ?_) fun _ s' hq=>zab (zab hq));intro D H5 C s6 r I6 fc ⟨m6,n6⟩ qn;obtain⟨f1,f2,f3,f4,f5,f6⟩:=fc;refine wpAny_assign_Name (jqq I6 hN hix hx (v:=.ref D) rfl (fun s7 I7 hzz=>?_) hf);obtain⟨a,sba,ha⟩:=hzz;have hCa:C≠a:=by
  rcases ha with ha|ha
  .grind
  .grind
 refine⟨m6,n6.sameBut sba hCa,fun h8 sb8=>⟨_,H5,I7.turned (fun b o hb e=>(sb8.2 b hb).trans e) f1 f2 f4 f5 f6,qn⟩⟩
end
end L2
namespace DL
open L2
section
variable {X:Cx}
def jH6(hN:X.N.Nodup)(c:Cp X O E elt tg iter ifs scope own caps fi h tc fe)(ho:O.contains i=false)(hix:X.N[i]? = some x)(hx:Loc X.env.scope x)
  (hsw:swapsWith (.ListComp elt [⟨tg,iter,ifs,0⟩] scope cpos) (some (.Name x pos')) pos.line X.env=pure true) (hf:X.fn x=true\/X.env.scope.names.lookup x=some .local) :
  DS X O O B E (.Assign [.Name x pos'] (.ListComp elt [⟨tg,iter,ifs,0⟩] scope cpos) pos) (gSet i (ja8 own.length caps fi h tc fe)):=by
 rintro U s Z H Dn I ⟨J,Hz,F,Y,r,R,hg',k⟩;have ho':i∉O:=fun z=>by grind
 refine jzt (g:=tG X.K [] h) (tc:=tB X.K [] E0 tc) (te:=tD X.K [] E0 fe) c.hc c.ck c.hi c.hg c.ht c.he hN hix hx hsw hf c.hs _ s Z H Dn I (jq6 c.hcf ?_);refine bD R hg' k fun d hg' v H' s' r'=>?_
 cases hg';exact k _ H' (joj ho' s') ((R.mono s').set ho' r')
end
end DL
namespace DL
open L2 PyProof.Rows
def jRd:List D->Option D
 | [.lst [.int i,.int j]]=>some (.int (if j<i then j else i))
 | _=>none
@[simp] theorem kmin1(i j:Int):jRd [.lst [.int i,.int j]]=some (.int (if j<i then j else i)):=rfl
end DL
namespace L2
open PyProof.Rows
open Att
end L2
namespace DL
open L2
end DL
namespace DL
open PyProof.Rows L2
section
variable {K:W.Frag}
variable (hT:K.lookup T=some ⟨.none,none,.fields #[],#[]⟩)
include hT
end
section
variable {X:Cx}
def jH4(hN:X.N.Nodup)(c:Cp X O E elt tg iter ifs scope own caps fi h tc fe)(ho:O.contains i=false)(hix:X.N[i]? = some x)(hx:Loc X.env.scope x)
  (hsw:swapsWith (.ListComp elt [⟨tg,iter,ifs,0⟩] scope cpos) (some (.Name x pos')) pos.line X.env=pure true) (hf:X.fn x=true\/X.env.scope.names.lookup x=some .local) :
  DS X O (i::O) B E (.Assign [.Name x pos'] (.ListComp elt [⟨tg,iter,ifs,0⟩] scope cpos) pos) (gSet i (ja8 own.length caps fi h tc fe)):=by
 rintro U s Z H Dn I ⟨J,Hz,F,Y,r,R,hg',k⟩;have ho':i∉O:=fun z=>by grind
 refine jzt (g:=tG X.K [] h) (tc:=tB X.K [] E0 tc) (te:=tD X.K [] E0 fe) c.hc c.ck c.hi c.hg c.ht c.he hN hix hx hsw hf c.hs _ s Z H Dn I ?_;rcases M.b_inv hg' with ⟨d,e1,hg'⟩|⟨y,e1,rfl⟩
 .cases hg';refine js5 c.hcf R e1 fun tot ht Dd zs H1 H' s1 hD s2 hDd rz=>?_
  subst ht
  let H3:=fun b=>if b=Dd then none else H' b
  have n3:∀ b,b≠Dd->H3 b=H' b:=fun b hb=>if_neg hb
  have e3:upd H3 Dd (.lst zs)=H':=by
   funext b
   by_cases hb:b=Dd
   .grind [jaj]
   .grind [jam]
  have s3:Same H H3:=fun b o q=>by
   have q1:=s1 b o q;rw[n3 b (jau q1 hD)];exact s2 b o q1
  have eh:hid H3 (fob F Z O)=hid H' (fun b=>fob F Z O b || b == Dd):=by
   funext b
   unfold hid
   by_cases hb:b=Dd
   .grind
   .grind
  have lZ:i<Z.length:=by rw[I.len];exact (zbb.mp hix).1
  have T:=R.take (i:=i) (ds:=tot) (xs:=zs) ho' (R.len ▸ lZ) s3 (if_pos rfl) (by grind);rw[e3] at T;refine k _ _ ?_ T;rw[<- e3,jkp ho' lZ (if_pos rfl)];exact jad s3
 .exact jq6 c.hcf ⟨J,_,F,Y,_,R,e1,k⟩
end
end DL
namespace DL
open L2
def RS.show(R:RS J K Hz H F O Z Y)(h:∀ b,F' b=true->F b=true):RS J K Hz H F' O Z Y:=by
 have v:Same (hid H (fob F Z O)) _:=jc4 fun b q=>by
  rcases fob_t.mp q with z|z
  .exact fob_t.mpr (.inl (h b z))
  .exact fob_t.mpr (.inr z)
 refine⟨R.len,R.same,fun b hb=>R.fin b (h b hb),fun i d hd hi=>?_,fun i hi=>?_,R.nd⟩
 .obtain⟨u,q1,q2⟩:=R.val i d hd hi;exact⟨u,q1,q2.mono v⟩
 .obtain⟨a,xs,ds,q1,q2,q3,q4,q5⟩:=R.own i hi;refine⟨a,xs,ds,q1,q2,q3,⟨q4.1,?_⟩,q5.mono v⟩
  grind
theorem jqd:∀ {ds:List D} {vs:List V},ds.all scalD=true->Reps J K H ds vs->Reps J K H' ds vs
 | [],vs,_,r=>by rw[reps_nil.mp r];exact Reps.nil
 | d::ds,vs,h,r=>by
  rw[List.all_cons,Bool.and_eq_true] at h;obtain⟨u,us,rfl,q1,q2⟩:=reps_cons.mp r;exact Reps.cons (jkt h.1 q1) (jqd h.2 q2)
end DL
namespace L2
open PyProof.Rows
end L2
namespace DL
open PyProof.Rows L2
def orA(G:qd)(l:Addr):qd:=fun b=>G b || b == l
inductive spF(K:W.Frag)(mg:qa)(n:Nat)(m:List D->MS D)(vs:List V)(H:Hp)(Q:VK)(E:XK):Prop
 | mk (hn:vs.length=n) (J:Rho) (S F:qd) (ds:List D) (Ω:Sto) (hF:∀ b,F b=true->H b≠none) (hS:∀ b,F b=true->S b=false) (hr:Reps J K (hid H (un F S)) ds vs) (hs:StoOk J S K mg H (hid H (un F S)) Ω) (es:List D) (Ω':Sto) (hf:m ds Ω=some (.ok (.lst es),Ω'))
   (k:∀ (l:Addr) zs J' S' H',RLe J J'->(∀ b o,S b=false->H b=some o->H' b=some o)->(∀ b,S b=true->S' b=true)->(∀ b,S' b=true->S b=true\/H b=none)->(∀ b,F b=true->S' b=false)->StoOk J' S' K mg H' (hid H' (orA (un F S') l)) Ω' ->
    H l=none->H' l=some (.lst zs)->S' l=false->Reps J' K (hid H' (orA (un F S') l)) es zs->Q (.ref l) H')
end DL
namespace L2
open PyProof.Rows
open Att
end L2
namespace DL
open PyProof.Rows L2
def jvd(fa fb:DSt->MS D):DSt->MS D:=fun Y=>(fa Y).b fun x=>match x with
 | .bl true=>fb Y
 | .bl false=>MS.p (.bl false)
 | _=>fun _=>none
section
variable {X:Cx}{rest:List Expr}
def jFu(h:ME X O a fa):ME X O (.BoolOp op [a] pos) fa:=fun U s Z H Q I hw=>jF9 h _ s Z H Q I hw
def jFt(ha:ME X O a fa)(hb:ME X O (.BoolOp .And (b::rest) pos) fb):ME X O (.BoolOp .And (a::b::rest) pos) (jvd fa fb):=by
 rintro U s Z H Q I ⟨Jz,Sz,Hz,F,J,S,Y,Ω,R,r,Ω',hf,k⟩;refine jF7 ha hb _ s Z H Q I ?_;refine bE R hf fun x Ω1 hf u J1 S1 H1 R1 l1 v1 r1=>?_
 cases x with
 | bl z =>
  refine⟨z,rep_bl.mp r1,?_⟩
  cases z with
  | true =>
   exact iteT ⟨_,_,_,F,J1,S1,Y,Ω1,R1,r,Ω',hf,k.up l1 v1⟩
  | false =>
   cases hf;exact k _ J1 S1 H1 R1 l1 v1 (rep_bl.mpr rfl)
 | _=>cases hf
end
end DL
namespace L2
open PyProof.Rows
def jBo{t b:Addr}{vs ws:List Value}{Q:qc}(ht:IsTup s.heap t vs.toArray)(hb:IsTup s.heap b ws.toArray)(hv:vs=[])(h1:Q (.ref b) s):wpAny (model prog w) A (binaryOp .Add (.ref t) (.ref b)) Q E s:=by
 obtain⟨⟨cls,dd,data,sl⟩,ho,hc,n,hd⟩:=id ht;obtain⟨⟨cls2,dd2,data2,sl2⟩,ho2,hc2,n2,hd2⟩:=id hb;subst hc hd hc2 hd2;exact concat_meets ⟨_,ho,rfl⟩ ⟨_,ho2,rfl⟩ noFill_tuple_add seq_tuple_add PySem.F.slot_tuple_add PySem.F.entry_tuple_add (PySem.F.args_tuple_add_2 _ _)
  (tuple_addW0 t b _ _ n n2 dd dd2 sl sl2 (by simp[hv])) ⟨ho,ho2,h1⟩
def jKm(K:W.Frag):R2:=fun x y H Q=>∃ a b xs ys,x=.ref a/\y=.ref b/\SqT K H a xs/\SqT K H b ys/\xs=[]/\Q (.ref b) H
def op_catE:OpR X (binaryOp .Add) (jKm X.K):=by
 intro U s Z H x y v u Q I rx ry h;obtain⟨a,b,xs,ys,rfl,rfl,ha,hb,hx,q⟩:=h;cases rx;cases ry;obtain⟨its,r1,p1,_⟩:=I.tuple ha;obtain⟨its2,r2,p2,_⟩:=I.tuple hb;exact jBo p1 p2 (r1.nil_iff.mpr hx) ⟨.ref b,H,I,rfl,q⟩
end L2
namespace DL
open L2
def gCatE:D->D->Option D
 | .tup xs,.tup ys=>if xs.length+ys.length<=sizeLine then some (.tup (xs++ys)) else none
 | _,_=>none
section
variable {X:Cx}{O:List Nat}{a b c e:Expr}{pos:Pos}
def jDb:OpD X.K gCatE (fun x y H Q=>jKm X.K x y H Q\/jzz X.K x y H Q):=by
 intro x y d hd J H G u v Q hG ru rv k;unfold gCatE at hd
 split at hd
 .rename_i xs ys
  split at hd
  .rename_i hz;cases hd;obtain⟨p,us,rfl,q1,q2⟩:=rep_tup.mp ru;obtain⟨q,ws,rfl,q3,q4⟩:=rep_tup.mp rv
   by_cases hx:xs=[]
   .subst hx;exact .inl ⟨p,q,us,ws,rfl,rfl,jcb jaf q1,jcb jaf q3,reps_nil.mp q2,(k _ H (Same.refl H) rv)⟩
   .refine .inr ⟨p,q,us,ws,rfl,rfl,jcb jaf q1,jcb jaf q3,?_,by rw[q2.length,q4.length];exact hz,fun hw=>?_,fun hw l hl=>(k _ _ (jal hl) (jbc hl (hG l hl) (q2.append q4)))⟩
    .intro z;have:=q2.length
     grind
    .have hy:=by
      have:=q4.length;rw[hw] at this;exact List.eq_nil_of_length_eq_zero this.symm
     rw[hy,List.append_nil] at k;exact k _ H (Same.refl H) ru
  .cases hd
 .cases hd
def jJv:OpR X (binaryOp .Add) (fun x y H Q=>jKm X.K x y H Q\/jzz X.K x y H Q):=op_catE.or jy5
noncomputable def jxk(i j l m:Nat):D->DSt->Option DSt:=fun d Y=>match d with
 | .tup [x,y,z,w]=>some ((((Y.set i (some x)).set j (some y)).set l (some z)).set m (some w))
 | _=>none
def jHx(hc:X.calm=true)(hN:X.N.Nodup)(a:NmOk X O i x)(b:NmOk X O j y)(c:NmOk X O l z)(d:NmOk X O m w):DG X O (.Tuple [.Name x px,.Name y py,.Name z pz,.Name w pw] kk pos) (jxk i j l m) :=
 jre (is:=[i,j,l,m]) (ps:=[(x,px),(y,py),(z,pz),(w,pw)]) hc hN ⟨a,b,c,d,trivial⟩ (fun d Y Y' e=>by unfold jxk at e;split at e<;>cases e;exact⟨_,rfl,rfl⟩) rfl rfl
end
end DL
namespace L2
open PyProof.Rows Builtin Builtin.ObjectAttr
open PySem.W (Frag InstAt Looks findIn mroIn clsIn findObj takerIn tailIn isFn)
end L2
namespace L2
open PyProof.Rows Builtin Builtin.ObjectAttr
open PySem.W (Frag InstAt Looks findIn mroIn clsIn findObj takerIn specialIn takesIn hasDictIn isFn)
end L2
namespace L2
open PyProof.Rows
open PySem.W (Frag InstAt Looks findIn mroIn clsIn findObj takerIn specialIn takesIn hasDictIn isFn)
end L2
namespace DL
open L2
end DL
namespace DL
open PyProof.Rows L2
end DL
namespace L2
open PyProof.Rows
open PySem.W (Frag InstAt Looks findIn mroIn clsIn)
end L2
namespace L2
open PyProof.Rows
open PySem.W (Frag InstAt Looks findIn mroIn clsIn)
end L2
namespace L2
open PyProof.Rows
open PySem.W (Frag InstAt Looks findIn mroIn clsIn)
end L2
namespace L2
open PyProof.Rows
open PySem.W (Frag InstAt Looks findIn mroIn clsIn)
end L2
namespace DL
open L2
end DL
namespace L2
open PyProof.Rows
open PySem.W (Frag InstAt Looks findIn mroIn clsIn)
end L2
namespace DL
open L2
end DL
namespace L2
open PyProof.Rows
section
variable {k:Nat->Int}
variable (kd:∀ i j,i<n->j<n->k i=k j->i=j)
include kd
end
open Att
def rk(q:Int×Int):Int:=q.1*1000+q.2
abbrev kk(ks:List (Int×Int))(i:Nat):Int:=rk (ks.getD i (0,0))
end L2
namespace DL
open PyProof.Rows L2
end DL
namespace L2
open PyProof.Rows
end L2
namespace DL
open L2
end DL
namespace L2
open PyProof.Rows
open Att
end L2
namespace DL
open L2
def res1(Ω:Sto):D->Option D
 | .obj i=>match Ω[i]? with
  | some (.lst ds)=>some (.lst ds)
  | _=>none
 | d=>some d
theorem RM.res1(R:RM Jz Sz Hz F K mg O J S H Z Y Ω){d x:D}{v:V}(h:res1 Ω d=some x)(r:Rep J K (hid H (fob (un F S) Z O)) d v):Rep J K H x v:=by
 cases d with
 | obj i =>
  unfold DL.res1 at h;dsimp only at h
  cases hi:Ω[i]? with
  | none=>grind
  | some so =>
   rw[hi] at h
   cases so with
   | lst ds =>
    cases h;obtain⟨ad,q1,q2⟩:=rep_obj.mp r;obtain⟨ad',p1,p2,xs,p3,p4⟩:=R.sto.ats i _ hi;rw[q1] at p1;cases p1
    exact rep_lst.mpr ⟨ad,xs,q2,SqL.of p3,p4.mono jaf⟩
   | _=>cases h
 | _=>cases h;exact r.mono jaf
def isiS(xs:List D):MS D:=fun Ω=>match xs with
 | [x,.ty T]=>match res1 Ω x with
  | some x'=>(kIsi [x',.ty T]).map fun d=>(.ok d,Ω)
  | none=>none
 | _=>none
section
variable {X:Cx}{O:List Nat}{a b c e o:Expr}{es:List Expr}{fo:DSt->MS D}{fl:DSt->MS (List D)}{pos:Pos}
def jI9(hG:Gl X "isinstance")(hm:X.mg "isinstance"=none)(hl:MA X O [a,b] fl)(he:autoParam (starEach [a,b] X.env=(false,eval a X.env)::starEach [b] X.env) zau2._auto_1)(hpl:autoParam ((backTo pos (starEach [b] X.env)).any (·.1)=false) zau2._auto_1) :
  ME X O (.Call (.Name "isinstance" p) [a,b] [] pos) (fun Y=>(fl Y).b isiS):=by
 rintro U s Z H Q I ⟨Jz,Sz,Hz,F,J,S,Y,Ω,R,r,Ω',hf,k⟩;refine job jo3 hG hm jfi hl nofun rfl he hpl _ s Z H Q I ?_;refine bE R hf fun xs Ω1 hf us J1 S1 H1 R1 l1 v1 r1=>?_
 unfold isiS at hf
 split at hf
 .rename_i x T
  split at hf
  .rename_i x' f1
   cases hk:kIsi _ with
   | none=>rw[hk] at hf;cases hf
   | some d =>
    rw[hk] at hf;cases hf;obtain⟨w1,w2,rfl,y1,y2⟩:=jD0 r1;cases rep_ty.mp y2;have hb:∃ bb,d=.bl bb:=by
     have hk2:(if T="int"\/T="bool"\/T="tuple"\/T="list"\/T="str" then (isiD T x').map _ else none)=some d:=hk
     split at hk2
     .obtain⟨bb,_,hb⟩:=Option.map_eq_some_iff.mp hk2;exact⟨bb,hb.symm⟩
     .cases hk2
    obtain⟨bb,rfl⟩:=hb;exact⟨J1,x',w1,T,bb,rfl,R1.res1 f1 y1,hk,k _ J1 S1 H1 R1 l1 v1 (rep_bl.mpr rfl)⟩
  .cases hf
 .cases hf
def jyj(i:Nat)(f:DSt->M D):DSt->MS D:=fun Y Ω=>match (Y[i]?).join with
 | some (.obj n)=>match Ω[n]? with
  | some (.lst ds)=>MS.l (jM5 f (Y.set i (some (.lst ds)))) Ω
  | _=>none
 | _=>none
def jJa(ho:O.contains i=false)(h:DE X O E0 e f):ME X O e (jyj i f):=by
 rintro U s Z H Q I ⟨Jz,Sz,Hz,F,J,S,Y,Ω,R,r,Ω',hf,k⟩;have ho':i∉O:=fun z=>by grind
 unfold jyj at hf
 split at hf
 .rename_i n hn
  split at hf
  .rename_i ds hds;have hδ:Y[i]? = some (some (.obj n)):=by
    cases z:Y[i]? with
    | none=>grind
    | some y=>rw[z] at hn;exact congrArg _ hn
   obtain⟨v,s1,rv⟩:=R.rs.val i _ hδ ho';obtain⟨ad,q1,rfl⟩:=rep_obj.mp rv;obtain⟨ad',p1,p2,xs,p3,p4⟩:=R.sto.ats n _ hds;rw[q1] at p1;cases p1
   have le:Same (hid H (fob (un F S) Z O)) (hid H (fob nof Z O)):=jc4 fun b q=>by
    rcases fob_t.mp q with z|z
    .cases z
    .exact fob_t.mpr (.inr z)
   have hfo:fob nof Z O ad=false:=by
    cases z:fob nof Z O ad with
    | false=>rfl
    | true =>
     rcases fob_t.mp z with z|z
     .cases z
     .exact absurd z (R.base_S p2)
   have rs:RS J X.K (hid H (fob nof Z O)) H nof O Z (Y.set i (some (.lst ds))):=by
    refine⟨by rw[List.length_set];exact R.rs.len,jaf,fun b z=>(by cases z),fun j d hd hj=>?_,fun j hj=>?_,R.rs.nd⟩
    .by_cases ej:j=i
     .subst ej;rw[zcz ((zbb.mp hδ).1)] at hd;cases hd;exact⟨_,s1,rep_lst.mpr ⟨ad,xs,rfl,SqL.of (hid_some.mpr ⟨hfo,p3⟩),p4.mono le⟩⟩
     .rw[zbw (Ne.symm ej)] at hd;obtain⟨v,t1,t2⟩:=R.rs.val j d hd hj;exact⟨v,t1,t2.mono le⟩
    .obtain⟨a,ys,es,t1,t2,t3,t4,t5⟩:=R.rs.own j hj;exact⟨a,ys,es,by grind,t2,t3,⟨t4.1,rfl⟩,t5.mono le⟩
   obtain⟨hg,rfl⟩:=MS.l_inv hf;rcases M.b_inv hg with ⟨x,e1,hg⟩|⟨x,e1,rfl⟩
   .split at hg
    .rename_i hs;cases hg;exact h _ s Z H Q I ⟨J,_,nof,_,_,rs,e1,fun v H' s' rv=>k v J S H' (R.mono s') (RLe.refl _) (jad s') (jkt hs rv)⟩
    .cases hg
   .exact h _ s Z H Q I ⟨J,_,nof,_,_,rs,e1,fun c dx H' _ z=>z.elim⟩
  .cases hf
 .cases hf
def jI1(fo:DSt->MS D):DSt->MS D:=fun Y=>(fo Y).b fun x=>putL (fun _=>some []) x
def jI6(ho:ME X O o fo)(hbase:autoParam (attributeBase o "clear" X.env (eval o X.env)=eval o X.env) zau2._auto_1)(hline:autoParam ((p2.endLine == p3.line)=true) zau2._auto_1) :
  ME X O (.Call (.Attribute o "clear" p2) [] [] p3) (jI1 fo):=by
 rintro U s Z H Q I ⟨Jz,Sz,Hz,F,J,S,Y,Ω,R,r,Ω',hf,k⟩;refine jF8 PySem.F.plainAttrs_list PySem.F.slot_list_clear PySem.F.type_list_clear jC4 ho hbase hline _ s Z H Q I ?_;refine bE R hf fun x Ω1 hf u J1 S1 H1 R1 l1 v1 r1=>?_
 obtain⟨i,ds,es',rfl,hi,hg,rfl,rfl⟩:=jui hf;cases hg;obtain⟨ad,q1,q2⟩:=rep_obj.mp r1;obtain⟨ad',p1,p2,xs,p3,p4⟩:=R1.sto.ats i _ hi;rw[q1] at p1;cases p1
 subst q2;refine⟨.inl ⟨rfl,xs,SqL.of p3⟩,ad,xs,rfl,rfl,p3,?_⟩;obtain⟨w1,w2⟩:=R1.putL hi q1 p2 p3 Reps.nil;exact k _ J1 S1 _ w1 l1 (by grind) (rep_non.mpr rfl)
end
end DL
namespace L2
open PyProof.Rows
end L2
namespace DL
open L2
end DL
namespace L2
open PyProof.Rows
end L2
namespace DL
open L2
end DL
namespace L2
open PyProof.Rows
end L2
namespace DL
open L2
def rs1(Ω:Sto):D->Option D
 | .obj i=>match Ω[i]? with
  | some (.lst ds)=>some (.lst ds)
  | _=>none
 | d=>some d
def rsL(Ω:Sto):List D->Option (List D)
 | []=>some []
 | d::ds=>(rs1 Ω d).bind fun x=>(rsL Ω ds).map fun xs=>x::xs
def rsT(Ω:Sto):D->Option D
 | .tup ds=>(rsL Ω ds).map .tup
 | d=>rs1 Ω d
theorem RM.rs1(R:RM Jz Sz Hz F K mg O J S H Z Y Ω)(hw:Same (hid H (fob (un F S) Z O)) Hw)(hS:∀ b ys,S b=true->H b=some (.lst ys)->Hw b=some (.lst ys)){d x:D}{v:V}(h:rs1 Ω d=some x)(r:Rep J K (hid H (fob (un F S) Z O)) d v):Rep J K Hw x v:=by
 cases d with
 | obj i =>
  unfold DL.rs1 at h;dsimp only at h
  split at h
  .rename_i ds hi;cases h;obtain⟨ad,q1,q2⟩:=rep_obj.mp r;obtain⟨ad',p1,p2,xs,p3,p4⟩:=R.sto.ats i _ hi;rw[q1] at p1;cases p1
   exact rep_lst.mpr ⟨ad,xs,q2,SqL.of (hS _ _ p2 p3),p4.mono hw⟩
  .cases h
 | _=>cases h;exact r.mono hw
theorem RM.rsL(R:RM Jz Sz Hz F K mg O J S H Z Y Ω)(hw:Same (hid H (fob (un F S) Z O)) Hw)(hS:∀ b ys,S b=true->H b=some (.lst ys)->Hw b=some (.lst ys)):∀ {ds xs:List D} {vs:List V},rsL Ω ds=some xs->Reps J K (hid H (fob (un F S) Z O)) ds vs->Reps J K Hw xs vs
 | [],xs,vs,h,r=>by
  cases h;rw[reps_nil.mp r];exact Reps.nil
 | d::ds,xs,vs,h,r=>by
  obtain⟨x,f1,h⟩:=Option.bind_eq_some_iff.mp h;obtain⟨xs',f2,rfl⟩:=Option.map_eq_some_iff.mp h;obtain⟨v,r',rfl,q1,q2⟩:=reps_cons.mp r;exact Reps.cons (R.rs1 hw hS f1 q1) (R.rsL hw hS f2 q2)
theorem RM.rsT(R:RM Jz Sz Hz F K mg O J S H Z Y Ω)(hw:Same (hid H (fob (un F S) Z O)) Hw)(hS:∀ b ys,S b=true->H b=some (.lst ys)->Hw b=some (.lst ys)){d x:D}{v:V}(h:rsT Ω d=some x)(r:Rep J K (hid H (fob (un F S) Z O)) d v):Rep J K Hw x v:=by
 cases d with
 | tup ds =>
  obtain⟨xs,f,rfl⟩:=Option.map_eq_some_iff.mp h;obtain⟨a,ys,rfl,q1,q2⟩:=rep_tup.mp r;exact rep_tup.mpr ⟨a,ys,rfl,jcb hw q1,R.rsL hw hS f q2⟩
 | _=>unfold DL.rsT at h;exact R.rs1 hw hS h r
noncomputable def neR(x y:D):MS D:=fun Ω=>match rsT Ω x,rsT Ω y with
 | some x',some y'=>if (okD x'&&okD y'&&decide (depD x'<=20))=true then some (.ok (.bl !(eqB x' y')),Ω) else none
 | _,_=>none
inductive NeRI(x y:D)(Ω Ω':Sto)(r:Except XD D):Prop
 | mk (x' y':D) (h1:rsT Ω x=some x') (h2:rsT Ω y=some y') (h3:(okD x'&&okD y'&&decide (depD x'<=20))=true) (h4:r=.ok (.bl !(eqB x' y'))) (h5:Ω'=Ω)
def jJl(h:neR x y Ω=some (r,Ω')):NeRI x y Ω Ω' r:=by
 unfold neR at h
 split at h
 .rename_i x' y' h1 h2
  split at h
  .rename_i h3;cases h;exact⟨x',y',h1,h2,h3,rfl,rfl⟩
  .cases h
 .cases h
def mNeR(fa fb:DSt->MS D):DSt->MS D:=fun Y=>(fa Y).b fun x=>(fb Y).b fun y=>neR x y
def jM6:D->Bool
 | .tup ds=>ds.all scalD
 | d=>scalD d
theorem jqh:∀ {ds:List D} {vs:List V},ds.all scalD=true->Reps J K H ds vs->Reps J K H' ds vs
 | [],vs,_,r=>by rw[reps_nil.mp r];exact Reps.nil
 | d::ds,vs,h,r=>by
  rw[List.all_cons,Bool.and_eq_true] at h;obtain⟨v,r',rfl,q1,q2⟩:=reps_cons.mp r;exact Reps.cons (jkt h.1 q1) (jqh h.2 q2)
def jCn:Option HO->Bool
 | some (.lst _)=>true
 | _=>false
def unl(F S:qd)(H:Hp):qd:=fun b=>un F S b&&!jCn (H b)
def jLi(h:unl F S H b=true):un F S b=true:=by
 simp_all [unl,Bool.and_eq_true]
def jPe{H H':Hp}{q:Addr}{xs:List V}(h:Rd H q (.tup xs))(k:∀ o,(∀ ys,o≠.lst ys)->H q=some o->H' q=some o):Rd H' q (.tup xs):=by
 rcases h with h|⟨o,h⟩
 .exact .inl (k _ (fun _ z=>nomatch z) h)
 .exact .inr ⟨o,k _ (fun _ z=>nomatch z) h⟩
def jfc(i:Nat)(f:DSt->M D):DSt->MS D:=fun Y Ω=>match (Y[i]?).join with
 | some d=>match rsT Ω d with
  | some d'=>MS.l ((f (Y.set i (some d'))).b fun x=>if jM6 x=true then M.p x else none) Ω
  | none=>none
 | none=>none
section
variable {X:Cx}{O:List Nat}{a b c e o:Expr}{es:List Expr}{fa fb:DSt->MS D}{pos:Pos}
def jN5(h:tE X.K X.mg O (mNeR fa fb) Z H Q):tOp (rEqD X.K true) (tE X.K X.mg O fa) (tE X.K X.mg O fb) Z H Q:=by
 obtain⟨Jz,Sz,Hz,F,J,S,Y,Ω,R,r,Ω',hf,k⟩:=h;refine bE R hf fun x Ω1 hf u J1 S1 H1 R1 l1 v1 r1=>?_
 refine bE R1 hf fun y Ω2 hf w J2 S2 H2 R2 l2 v2 r2=>?_
 obtain⟨x',y',f1,f2,hh,rfl,rfl⟩:=jJl hf;rw[Bool.and_eq_true,Bool.and_eq_true,decide_eq_true_eq] at hh;exact⟨J2,x',y',hh.1.1,hh.1.2,hh.2,R2.rsT jaf (fun _ _ _ z=>z) f1 ((r1.rho l2).mono v2),R2.rsT jaf (fun _ _ _ z=>z) f2 r2,k _ J2 S2 H2 R2 (l1.trans l2) (v1.trans v2) (rep_bl.mpr rfl)⟩
def jN2(ho:OpR X (compareOp .NotEq) (rEqD X.K true))(ha:ME X O a fa)(hb:ME X O b fb)(hm:behindInMarks .NotEq b=false):MT X O (.Compare a [.NotEq] [b] pos) (mB (mNeR fa fb)):=by
 rintro U s Z H Q I ⟨Jz,Sz,Hz,F,J,S,Y,Ω,R,rr,Ω',hf,k⟩;refine jsc ho ha hb hm _ s Z H Q I (jN5 ?_);rcases MS.b_inv hf with ⟨x,Ω1,e1,hf⟩|⟨x,e1,rfl⟩
 .cases x with
  | bl kk=>cases hf;exact⟨_,_,_,F,J,S,Y,Ω,R,_,_,e1,fun v J' S' H' R' l sm rv=>⟨kk,rep_bl.mp rv,k J' S' H' R' l sm⟩⟩
  | _=>cases hf
 .exact⟨_,_,_,F,J,S,Y,Ω,R,_,Ω',e1,k⟩
def jiw(ho:O.contains i=false)(h:DE X O E0 e f):ME X O e (jfc i f):=by
 rintro U s Z H Q I ⟨Jz,Sz,Hz,F,J,S,Y,Ω,R,r,Ω',hf,k⟩;have ho':i∉O:=fun z=>by rw[zbc.mpr z] at ho;cases ho
 unfold jfc at hf
 split at hf
 .rename_i d hn
  split at hf
  .rename_i d' hds;have hδ:Y[i]? = some (some d):=by
    cases z:Y[i]? with
    | none=>rw[z] at hn;cases hn
    | some y=>rw[z] at hn;exact congrArg _ hn
   have le:Same (hid H (fob _ Z O)) (hid H (fob (unl F S H) Z O)):=jc4 fun b q=>by
    rcases fob_t.mp q with z|z
    .exact fob_t.mpr (.inl (jLi z))
    .exact fob_t.mpr (.inr z)
   have hS:∀ b ys,S b=true->H b=some (.lst ys)->hid H (fob (unl F S H) Z O) b=some _:=fun b ys hb q=>hid_some.mpr ⟨by
    cases z:fob _ Z O b with
    | false=>rfl
    | true =>
     rcases fob_t.mp z with z|z
     .unfold unl at z;rw[q] at z;simp[jCn] at z
     .exact absurd z (R.base_S hb),q⟩
   obtain⟨v,s1,rv⟩:=R.rs.val i _ hδ ho';have rs:RS J X.K (hid H (fob nof Z O)) H (unl F S H) O Z (Y.set i (some d')):=by
    refine⟨by rw[List.length_set];exact R.rs.len,jaf,fun b z=>R.rs.fin b (jLi z),fun j d2 hd hj=>?_,fun j hj=>?_,R.rs.nd⟩
    .by_cases ej:j=i
     .subst ej;rw[zcz ((zbb.mp hδ).1)] at hd;cases hd;exact⟨v,s1,R.rsT le hS hds rv⟩
     .rw[zbw (Ne.symm ej)] at hd;obtain⟨v,t1,t2⟩:=R.rs.val j d2 hd hj;exact⟨v,t1,t2.mono le⟩
    .obtain⟨a,ys,es,t1,t2,t3,t4,t5⟩:=R.rs.own j hj;exact⟨a,ys,es,by rw[zbw (by rintro rfl;exact ho' hj)];exact t1,t2,t3,⟨t4.1,by cases z:unl F S H a with|false=>rfl|true=>rw[jLi z] at t4;exact absurd t4.2 nofun⟩,t5.mono le⟩
   obtain⟨hg,rfl⟩:=MS.l_inv hf;rcases M.b_inv hg with ⟨x,e1,hg⟩|⟨x,e1,rfl⟩
   .split at hg
    .rename_i hs;cases hg;refine h _ s Z H Q I ⟨J,_,_,_,_,rs,e1,fun v H' s' rv=>k v J S H' (R.mono s') (RLe.refl _) (jad s') ?_⟩
     cases x with
     | tup ds =>
      obtain⟨q,xs,rfl,q2,q3⟩:=rep_tup.mp rv;refine rep_tup.mpr ⟨q,xs,rfl,?_,jqh hs q3⟩;refine q2.imp (fun z=>?_) id;refine jPe z fun o hn h1=>?_
      obtain⟨z1,z2⟩:=hid_some.mp h1;refine hid_some.mpr ⟨?_,z2⟩
      cases w:fob _ Z O q with
      | false=>rfl
      | true =>
       rcases fob_t.mp w with w|w
       .cases w2:jCn _ with
        | false=>rw[fob_t.mpr (.inl (show unl F S H q=true by unfold unl;rw[w,w2];rfl))] at z1;cases z1
        | true =>
         unfold jCn at w2
         split at w2
         .rename_i ys w3;rw[s' _ _ w3] at z2;cases z2;exact absurd rfl (hn _)
         .cases w2
       .rw[fob_t.mpr (.inr w)] at z1;cases z1
     | _=>exact jkt hs rv
    .cases hg
   .exact h _ s Z H Q I ⟨J,_,_,_,_,rs,e1,fun c dx H' _ z=>z.elim⟩
  .cases hf
 .cases hf
end
end DL
namespace L2
open PyProof.Rows
end L2
namespace DL
open L2
def noL(K:W.Frag):Bool:=K.all fun p=>match p.2.cls with
 | .type n=>n != "list"
 | _=>true
def jva{K:W.Frag}:K.lookup a=some o->(a,o)∈K:=by
 induction K with
 | nil=>intro h;cases h
 | cons p K ih =>
  intro h;rw[List.lookup_cons] at h
  split at h
  .rename_i e;cases h;rw[beq_iff_eq.mp e];exact zaa
  .exact zaw _ (ih h)
def jN7(h:noL K=true)(e:K.lookup a=some o):o.cls≠.type "list":=fun z=>by
 have:=List.all_eq_true.mp h _ (jva e)
 grind
def apart:List D->List D->Bool
 | [],_::_=>true
 | .tup _::_,.int _::_=>true
 | .tup a::_,.tup b::_=>a.length != b.length
 | _,_=>false
end DL
namespace DL
open PyProof.Rows L2
end DL
namespace L2
open PyProof.Rows
section
variable [DecidableEq κ]
def met(f:Nat->κ):Nat->List κ
 | 0=>[]
 | i+1=>if f i∈met f i then met f i else met f i++[f i]
theorem jFv(f:Nat->κ):∀ i,(met f i).length<=i
 | 0=>zac _
 | i+1=>by
  have h:=jFv f i;unfold met
  split
  .exact Nat.le_succ_of_le h
  .rw[zcb];exact Nat.succ_le_succ h
def jNw(f:Nat->κ)(i:Nat)(x:κ):decide (x∈met f (i+1))=(decide (x∈met f i) || decide (x=f i)):=by
 rw[Bool.eq_iff_iff,Bool.or_eq_true,decide_eq_true_iff,decide_eq_true_iff,decide_eq_true_iff];show x∈(if f i∈met f i then met f i else met f i++[f i])↔_
 grind
def jJc(f:Nat->κ)(i:Nat):(met f (i+1)).length=if decide (f i∈met f i)=true then (met f i).length else (met f i).length+1:=by
 show (if f i∈met f i then met f i else met f i++[f i]).length=_
 grind
variable {prog:Program}{w:World}{knd:KeyKind prog w κ}{A:Around}{R:Result->Shared->Prop}{I S:Addr}{fp wr:List Addr}{G:Array GenState->Array GenState->Prop}{n:Nat}{P:Nat->Value->Prop}{St:Nat->Shared->Prop}{f:Nat->κ}
abbrev SetAt(knd:KeyKind prog w κ)(f:Nat->κ)(h:Heap)(a:Addr)(i:Nat):Prop:=h.SetOf knd a (fun x=>decide (x∈met f i)) (met f i).length
def SetAt.go(z:SetAt knd f h a i)(k:∀ o,h.get? a=some o->h'.get? a=some o):SetAt knd f h' a i:=by
 obtain⟨o,es,ep,t,ho,r⟩:=z;exact⟨o,es,ep,t,k o ho,r⟩
def jEa(W:WalksS prog w A.in1 I fp wr G n P St)(hS:S∉fp)(hf:∀ i v,P i v->knd.is (f i) v=true/\v.scannable=true)(hn:n+1<scanBound) :
  ∀ (k i:Nat) (s:Shared),i+k=n->St i s->SetAt knd f s.heap S i->(∀ s',Moved (S::wr) G s s'->SetAt knd f s'.heap S n->R (.ok (.ret .none)) s') ->
   codeAny (model prog w) A (.builtin "set.update.loop" ⟨[.ref S,.ref I],[]⟩) R s:=by
 have nw:=fun z=>hS (W.sub _ z)
 have up:∀ b∈wr,b∈S::wr:=fun _ z=>.tail _ z
 intro k
 induction k with
 | zero =>
  intro i s e st z q;cases e;exact codeAny_builtin PyProof.Rows.F.entry_set_update_loop (zay (W.done s _ _ st fun s2 m=>zab (q s2 (m.mono up) (z.go fun o=>m.heap S o nw))))
 | succ k ih =>
  intro i s e st z q;refine codeAny_builtin PyProof.Rows.F.entry_set_update_loop ?_;refine zay (W.item i s _ _ (by lia) st fun v s2 p st2 m=>?_);obtain⟨h1,h2⟩:=hf i v p;refine zay (wpAny_holding ?_);refine wpAny_holding (zay (knd.pyHash h1 ?_));refine wpAny_setAddHashed_of h1 h2 (z.go fun o=>m.heap S o nw) (by have:=jFv f i;lia) fun h3 sb z3=>?_
  have z4:=by
   have z5:=z3;rw[(funext fun x=>(jNw f i x).symm),<- jJc f i] at z5;exact z5
  refine zab ⟨plainId_quiet PyProof.Rows.F.plain_set_update_loop _,ih _ _ (by lia) (W.frame _ s2 _ _ st2 (Nat.le_succ _) fun b hb o e2=>?_) z4 fun s5 m5 z6=>?_⟩
  .rw[sb.2 b fun c=>hS (c ▸ hb)];exact e2
  .refine q s5 (Moved.trans W.gtrans ((m.mono up).then_heap (Nat.le_succ _) fun b o hb e2=>?_) m5) z6;rw[sb.2 b fun c=>hb (c ▸ zaa)];exact e2
end
abbrev nSet(led:Bool):Obj:=⟨.type "set",none,.set #[] 0 (.fresh 0 0 led),#[]⟩
section
variable [DecidableEq κ]{knd:KeyKind prog w κ}
def jwr{l:Addr}{its:Array Value}{Q:qc}(hh:A.handled=none)(hl:s.heap.IsList l its)(hf:∀ i v,its[i]? = some v->knd.is (f i) v=true/\v.scannable=true)(hn:its.size+1<scanBound)
  (q:∀ h2 tk,SetAt knd f h2 s.heap.objs.size its.size->(∀ b o,b<s.heap.objs.size->s.heap.get? b=some o->h2.get? b=some o)->Q (.ref s.heap.objs.size) { s with heap:=h2,toks:=tk }) :
  wpAny (model prog w) A (call (.type "set") [.ref l]) Q E s:=by
 obtain⟨c0,tl,hm⟩:=PySem.F.called_set.mro;have m1:=PySem.F.called_set.made;have m2:=PySem.F.called_set.sub;refine wpAny_call (codeAny_of_tree (zab ⟨Code.quiet_builtin _ (by decide +kernel),codeAny_builtin PySem.F.entry_type_call ?_⟩));rw[Around.under_plain (weight_type_call_type "set" [.ref l] []) rfl];have m3:=PySem.F.called_set.notType;have m4:=PySem.F.called_set.canCreate;have m5:=PySem.F.typeCall_set_1 (.ref l)
 repeat (any_goals (first|assumption|wp_step))
 refine codeAny_mono (code_set_new_1 (.ref l) (E:=E) (Q₁:=fun ob s1=>∃ led,ob=.ref s.heap.objs.size/\s1={ s with heap:=s.heap.push (nSet led) }) fun led=>⟨led,rfl,rfl⟩) fun r s1 hr=>?_
 match r,hr with
 | .error e,hr=>exact hr
 | .ok (.ret ob),hr =>
  obtain⟨led,rfl,rfl⟩:=hr;have g0:(s.heap.push (nSet led)).get? s.heap.objs.size=some (nSet led):=zbz _ rfl;have ty:Shared.TypeIs { s with heap:=s.heap.push (nSet led) } (.ref s.heap.objs.size) "set":=⟨_,g0,rfl⟩
  have i1:=PySem.F.called_set.init.lookup;have i2:=PySem.F.called_set.init.bind (.ref s.heap.objs.size)
  repeat (any_goals (first|assumption|wp_step))
  refine codeAny_mono (codeAny_call_builtin (R:=wants (fun r s2=>r=.none/\∃ h2 tk,s2={ s with heap:=h2,toks:=tk }/\SetAt knd f h2 s.heap.objs.size its.size/\∀ b o,b<s.heap.objs.size->s.heap.get? b=some o->h2.get? b=some o) E) PySem.F.called_set.init.plain PySem.F.entry_set_init (check_set_init_1 ty ?_)) fun r2 s2 hr2=>?_
  .obtain⟨⟨oc,od,oda,osl⟩,ho,hc,nl,hd⟩:=hl;dsimp only at hc hd;subst hc;subst hd;have ho2:(s.heap.push (nSet led)).get? l=some ⟨.type "list",od,.seq its nl,osl⟩:=zaz _ ho;have u1:=PySem.F.sub_list_set;have u2:=PySem.F.sub_list_frozenset;have u3:(Value.type "list" == Value.type "dict")=false:=by decide
   have li:(s.heap.push (nSet led)).IsList l its:=⟨_,ho2,rfl,nl,rfl⟩
   unfold Builtin.«set.__init__» noKeywords Builtin.Frozenset.updateFrom;generalize hp:pyIter=PI
   wp_walk
   subst hp;refine wpAny_pyIter_list li (zay (wpAny_runValue ?_));have lt:l<s.heap.objs.size:=zbv ho;have sz:(s.heap.push (nSet led)).objs.size=s.heap.objs.size+1:=Heap.size_push _ _;have ni:l≠(s.heap.push (nSet led)).objs.size:=by rw[sz];exact zcw (Nat.lt_succ_of_lt lt)
   refine jEa (knd:=knd) (f:=f) (S:=s.heap.objs.size) ((Walks.list (show A.in1.in1.in1.handled=none by simp[hh]) _ l ni its).toS) (by
    grind) hf hn its.size 0 _ (Nat.zero_add _) ⟨⟨_,zbz _ rfl,rfl,rfl⟩,li.push _⟩ ?_ ?_
   .exact SetOf_congr ((setObjOf_fresh (knd:=knd) led).setOf (zaz _ g0) (by lia)) (fun _=>rfl) rfl
   .rintro⟨h2,g2,d2,t2,o2⟩ mv z;cases (show g2=s.gens from mv.gens);cases (show d2=s.drawn from mv.drawn);cases (show o2=s.os from mv.os);refine zab (zab ⟨rfl,h2,t2,rfl,z,fun b o hb e=>?_⟩);refine mv.heap b o (fun c=>?_) (zaz _ (zaz _ e))
    grind
  .match r2,hr2 with
   | .error e,hr2=>exact hr2
   | .ok (.ret r),hr2 =>
    obtain⟨rfl,h2,tk,rfl,z,kp⟩:=hr2
    repeat (any_goals (first|assumption|wp_step))
    grind
   | .ok .next,hr2=>exact hr2.elim
   | .ok .brk,hr2=>exact hr2.elim
   | .ok .cont,hr2=>exact hr2.elim
 | .ok .next,hr=>exact hr.elim
 | .ok .brk,hr=>exact hr.elim
 | .ok .cont,hr=>exact hr.elim
def jwp{a:Addr}{n:Nat}{Q:qc}(z:SetAt knd f s.heap a n)(hn:n<4096)(q:∀ t tk,Q (.int (met f n).length t) { s with toks:=tk }):wpAny (model prog w) A (call (.builtin "len") [.ref a]) Q E s:=by
 obtain⟨o,es,ep,t,ho,ex,hd,_,_,hb,ht,e⟩:=z;refine call_len_set ho ex hd ht (by grind [scanBound]) ?_
 grind
end
def jJd[DecidableEq κ]{f:Nat->κ}(h:f i∉met f i):met f (i+1)=met f i++[f i]:=if_neg h
def jpn(ks:List Key)(i:Nat):Key:=(ks[i]?).getD (.inl 0)
def SetF(P:Program)(w:World)(a:Addr)(ks:List Key):Heap->Prop:=fun h=>SetAt (jcp P w) (jpn ks) h a ks.length
def cntK(ks:List Key):Nat:=(met (jpn ks) ks.length).length
section
variable {X:Cx}
theorem jIs(r:RelV (kV k) u):u.scannable=true:=by
 cases k with
 | inl i=>obtain⟨t,e⟩:=(r);subst e;rfl
 | inr x=>obtain⟨t,e⟩:=(r);subst e;rfl
theorem jA9:∀ {ks:List Key} {us:List Value},Vals (ks.map kV) us->∀ (i:Nat) (v:Value),us[i]? = some v->RelV (kV (jpn ks i)) v
 | [],us,r,i,v,h=>by cases r;cases h
 | k::ks,us,r,i,v,h=>by
  cases r with
  | cons a b =>
   cases i with
   | zero=>cases h;exact a
   | succ i=>exact jA9 b i v h
def jws(hc:X.calm=true):CallR X (.type "set") (fun xs H Q=>∃ p ks,xs=[.ref p]/\SqL X.K H p (ks.map kV)/\ks.length<4000/\∀ l,H l=none->Q (.ref l) (upd H l (.ext (SetF X.prog X.w l ks)))):=by
 intro U s Z H xs us Q I r h;obtain⟨p,ks,rfl,hq,hn,q⟩:=h;obtain⟨u,rfl,rx⟩:=jmp r;cases rx;obtain⟨its,r',pl,hz⟩:=I.list hq;have hl:its.length=ks.length:=by rw[<- r'.length,zav]
 refine jwr (knd:=jcp _ X.w) (f:=jpn ks) (I.ok.hd hc) pl.isList (fun i v e=>?_) (by grind [List.size_toArray,scanBound]) fun h2 tk z kp=>?_
 .grind [List.getElem?_toArray,jA9,jx2,jIs]
 .have z1:its.toArray.size=ks.length:=by rw[zbx,hl]
  rw[z1] at z;refine⟨.ref _,_,I.laid (fun b o e=>kp b o (zbv e) e) (zac _) ?_,rfl,q _ (I.hok.fresh (zac _))⟩;obtain⟨o,es,ep,t,ho,w1⟩:=id z;exact⟨z,⟨o,ho⟩,fun h3 h4 z3 k4=>SetAt.go z3 k4⟩
def jwq:CallR X (.builtin "len") (fun xs H Q=>∃ a ks,xs=[.ref a]/\H a=some (.ext (SetF X.prog X.w a ks))/\ks.length<4000/\Q (.int (cntK ks)) H):=by
 intro U s Z H xs us Q I r h;obtain⟨a,ks,rfl,ha,hn,q⟩:=h;obtain⟨u,rfl,rx⟩:=jmp r;cases rx;exact jwp ((I.hok a _ ha).1) (by lia) fun t tk=>⟨.int _,H,I.tok _,⟨t,rfl⟩,q⟩
end
end L2
namespace DL
open L2
def keyS:D->Option Key
 | .str x=>some (.inr x)
 | .int i=>some (.inl i)
 | _=>none
def jml:List D->Option (List Key)
 | []=>some []
 | d::ds=>(keyS d).bind fun k=>(jml ds).map fun ks=>k::ks
def jCe:D->Option D
 | .lst ds=>(jml ds).bind fun ks=>if ks.length<4000 then some (.int (cntK ks)) else none
 | _=>none
def jCq(h:keyS d=some k)(r:Rep J K H d v):v=kV k:=by
 cases d with
 | str x=>cases h;exact rep_str.mp r
 | int i=>cases h;exact rep_int.mp r
 | _=>cases h
theorem jpo:∀ {ds:List D} {ks:List Key} {vs:List V},jml ds=some ks->Reps J K H ds vs->vs=ks.map kV
 | [],ks,vs,h,r=>by cases h;rw[reps_nil.mp r];rfl
 | d::ds,ks,vs,h,r=>by
  unfold jml at h
  cases hk:keyS d with
  | none=>rw[hk] at h;cases h
  | some k =>
   rw[hk] at h
   cases hs:jml ds with
   | none=>rw[hs] at h;cases h
   | some ks' =>
    rw[hs] at h;cases h;obtain⟨v,vs',rfl,q1,q2⟩:=reps_cons.mp r;rw[jCq hk q1,jpo hs q2];rfl
section
variable {X:Cx}
def jHt(hc:X.calm=true)(ms:X.mg "set"=none)(ml:X.mg "len"=none)(ha:DE X O E e fa)(gs:autoParam (Gl X "set") zau2._auto_1)(gl:autoParam (Gl X "len") zau2._auto_1)
  (he:autoParam (starEach [e] X.env=(false,eval e X.env)::starEach [] X.env) zau2._auto_1) (he2:autoParam (starEach [.Call (.Name "set" p2) [e] [] p3] X.env=(false,eval (.Call (.Name "set" p2) [e] [] p3) X.env)::starEach [] X.env) zau2._auto_1)
  (hp:autoParam ((backTo p3 (starEach [] X.env)).any (·.1)=false) zau2._auto_1) (hp2:autoParam ((backTo p4 (starEach [] X.env)).any (·.1)=false) zau2._auto_1) :
  DE X O E (.Call (.Name "len" p) [.Call (.Name "set" p2) [e] [] p3] [] p4) (f1 jCe fa):=by
 rintro U s Z H Q I ⟨J,Hz,F,Y,r,R,hf,k⟩;refine job jwq gl ml jE2 (jet (jl0 (jws hc) gs ms jLx (jet ha jht he) nofun rfl he hp) jht he2) nofun rfl he2 hp2 _ s Z H Q I ?_;refine bD R hf k fun x hf v H1 s1 r1=>?_
 obtain⟨d,hd,rfl⟩:=M.o_inv hf
 cases x with
 | lst ds =>
  have hd:((jml ds).bind _)=some d:=hd
  cases hk:jml ds with
  | none=>grind
  | some ks =>
   rw[hk] at hd;have hd2:(if ks.length<4000 then some _ else none)=some d:=hd
   split at hd2
   .rename_i hn;cases hd2;obtain⟨a,ys,rfl,q1,q2⟩:=rep_lst.mp r1;rw[jpo hk q2] at q1;exact⟨a,ks,rfl,jcj jaf q1,hn,fun l hl=>⟨l,ks,rfl,jaj,hn,k _ _ (s1.trans (jal hl)) (rep_int.mpr rfl)⟩⟩
   .cases hd2
 | _=>cases hd
end
def jHl(h:ks.Nodup):cntK ks=ks.length:=by
 have go:∀ i,i<=ks.length->met (jpn ks) i=ks.take i:=by
  intro i
  induction i with
  | zero=>intro _;rfl
  | succ i ih =>
   intro hi;have il:=hi;have e:jpn ks i=ks[i]:=by unfold jpn;rw[zax il];rfl
   have ni:jpn ks i∉ks.take i:=by
    rw[e];intro c;obtain⟨j,hj,ej⟩:=List.mem_take_iff_getElem.mp c;exact absurd ((List.getElem_inj h).mp ej) (zcw (zcx hj (Nat.min_le_left _ _)))
   have im:=ih (Nat.le_of_lt il);rw[jJd (by grind),im,e,List.take_append_getElem il]
 unfold cntK
 grind
def jx5(xs:List Str):jml (xs.map .str)=some (xs.map .inr):=by
 induction xs with
 | nil=>rfl
 | cons x xs ih=>rw[List.map_cons];unfold jml;rw[ih];rfl
def jCt{xs:List Str}(h:xs.Nodup)(hn:xs.length<4000):jCe (.lst (xs.map .str))=some (.int xs.length):=by
 show ((jml _).bind _)=_;rw[jx5];show (if (xs.map _).length<4000 then _ else none)=_;rw[zav,if_pos hn,jHl (List.Pairwise.map _ (fun a b c e=>c (Sum.inr.inj e)) h),zav]
def txtD:D->Option (List D)
 | .str x=>some ((List.range x.cps.size).map fun i=>.str ⟨#[x.cps.getD i 0]⟩)
 | _=>none
def jnr(f:DSt->M D):DSt->M (List D):=fun Y=>(f Y).b fun d=>M.o (txtD d)
section
variable {X:Cx}
def jMg(h:DE X O E iter fa):DI X O E tg iter (jnr fa):=by
 rintro U s Z H R I ⟨J,Hz,F,Y,r,RS0,hf,k⟩;refine jOv h _ s Z H R I ?_;refine bD RS0 hf k fun d hf v H1 s1 r1=>?_
 obtain⟨ds,hd,rfl⟩:=M.o_inv hf
 cases d with
 | str x =>
  cases hd;refine⟨x,rep_str.mp r1,k _ H1 s1 (jto (by grind) fun i d hi H=>?_)⟩;rw[zba] at hi;obtain⟨j,hj,rfl⟩:=Option.map_eq_some_iff.mp hi;obtain⟨hl,e⟩:=zbb.mp hj;rw[List.getElem_range] at e;subst e;exact rep_str.mpr rfl
 | _=>cases hd
end
end DL
namespace DL
open PyProof.Rows L2
def jDf(x y:Str):List Str:=match Builtin.Str.occurrences x y 0 x.length 1 with
 | i::_=>[Builtin.Str.strSub x 0 i,y,Builtin.Str.strSub x (i+y.length) x.length]
 | []=>[x,Str.empty,Str.empty]
def gPart(x:Str):D->Option D
 | .str y=>if (y.length == 0)=false/\x.length<=sizeLine then some (.tup ((jDf x y).map .str)) else none
 | _=>none
def gSplit(x:Str):D->Option D
 | .str y=>if (y.length == 0)=false/\x.length<=sizeLine/\(Txt.split x y).length<=sizeLine then some (.lst ((Txt.split x y).map .str)) else none
 | _=>none
theorem jhh{K:W.Frag}:∀ (l:List Str),Reps J K H (l.map .str) (l.map V.str)
 | []=>Reps.nil
 | _::l=>Reps.cons (rep_str.mpr rfl) (jhh l)
theorem jqv:∀ (l:List Str) (t:Nat),Vals (l.map V.str) (strsFrom t l)
 | [],_=>.nil
 | x::l,t=>.cons (⟨t,rfl⟩) (jqv l _)
def jDy(x:Str)(t:Tok):RelV (.str x) (.str x t):=⟨t,rfl⟩
def vals3(a b c:Str)(t u v:Tok):Vals ([a,b,c].map V.str) [.str a t,.str b u,.str c v]:=.cons (jDy a t) (.cons (jDy b u) (.cons (jDy c v) .nil))
def sz3(a b c:Str):([a,b,c].map V.str).length<=sizeLine:=(by decide:3<=16777216)
theorem vget:∀ {ks:List Str} {its:List Value} {i:Nat},Vals (ks.map V.str) its->i<its.length->∃ k t,ks[i]? = some k/\its[i]? = some (.str k t)
 | [],_,_,.nil,h=>absurd h (Nat.not_lt_zero _)
 | k::ks,_,0,.cons ⟨t,e⟩ _,_=>⟨k,t,rfl,by rw[e];rfl⟩
 | k::ks,_,i+1,.cons _ r,h=>by
  obtain⟨k',t,h1,h2⟩:=vget r (Nat.lt_of_succ_lt_succ h)
  grind
def jry{ks:List Str}{j:Nat}(hv:Vals (ks.map V.str) items.toList)(hj:ks[j]? = some x)(hlt:∀ m,m<j->ks[m]?≠some x) :
  Meets (Builtin.«tuple.index» ⟨[.ref l,.str x u],[]⟩) (fun A R s=>IsTup s.heap l items/\R (.ok (.ret (.int j s.toks))) { s with toks:=s.toks+1 }):=by
 intro prog w A R s ⟨hl,q⟩;refine zay (zab ?_);refine zay (tupleItemsOf_ hl ?_);refine zay (zab (zay (zab ?_)));dsimp only;rw[Std.Legacy.Range.forIn_eq_forIn_range',Nat.min_self];have hsz:=by have:=hv.length;simpa using this
 have hjl:=(zbb.mp hj).1;refine zay (thn (wpAny_forIn_list _ (fun rest b s'=>s'=s/\b.1=none/\∃ i,rest=List.range' i (items.size-i) 1/\i<=j) (fun b s'=>b.1=some (Fin.done (.ret (.int j s.toks)))/\s'={ s with toks:=s.toks+1 }) ?_ ?_ _ _ ⟨rfl,rfl,0,by simp_all,Nat.zero_le _⟩) ?_)
 .rintro i rest b s' ⟨rfl,hb,i',hr,hi⟩;have hlt':i'<items.size:=by lia
  have e:items.size-i'=(items.size-(i'+1))+1:=by lia
  rw[e,List.range'_succ] at hr;obtain⟨rfl,rfl⟩:=List.cons.inj hr;obtain⟨k,t,h1,h2⟩:=vget hv (by simpa using hlt');have h3:items[i]? = some (.str k t):=by rw[<- Array.getElem?_toList];exact h2
  simp only[h3];refine zay (eqBool_str ?_)
  by_cases hk:k=x
  .subst hk;have:i=j:=by
    rcases Nat.lt_or_ge i j with h|h
    .grind
    .lia
   subst this;rw[if_pos (by simp)];exact zay (zay (wpAny_mkInt (zab (zab ⟨rfl,rfl⟩))))
  .rw[if_neg (by grind)];refine zab ⟨rfl,rfl,_,rfl,?_⟩
   grind
 .grind
 .rintro⟨b,_⟩ s' ⟨hb,rfl⟩;subst hb;exact zab q
section
variable {X:Cx}
def jO8:Str->V->Hp->VK->Prop:=fun x y H Q=>∃ z,y=.str z/\(z.length == 0)=false/\x.length<=sizeLine/\∀ p,H p=none->Q (.ref p) (upd H p (.tup ((jDf x z).map V.str)))
def jGe:Str->V->Hp->VK->Prop:=fun x y H Q=>∃ z,y=.str z/\(z.length == 0)=false/\x.length<=sizeLine/\(Txt.split x z).length<=sizeLine/\∀ p,H p=none->Q (.ref p) (upd H p (.lst ((Txt.split x z).map V.str)))
def jK7:SmR X "partition" jO8:=fun U s Z x t pos a Q h=>by
 refine⟨_,_,PySem.F.plainAttrs_str,PySem.F.slot_str_partition,PySem.F.type_str_partition,typeIs_str _ _ _,(fun _ e=>nomatch e),?_⟩;refine method1_meets PySem.F.slot_str_partition PySem.F.entry_str_partition (thn h fun v s1 hzz=>?_);obtain⟨y,H1,I1,ry,z,hz,h1,h2,q⟩:=hzz;subst hz;obtain⟨u,rfl⟩:=ry;refine⟨typeIs_str _ _ _,PySem.F.args_str_partition_2 _ _,_,meets_str_partition x z t u h1 h2,?_⟩;have q':=q _ (I1.hok.fresh (zac _));unfold jDf at q'
 split
 .rename_i i tl e;rw[e] at q';exact⟨.ref _,_,I1.laid (o:=.tup _) (fun b o e=>zaz _ e) (zac _) ⟨sz3 _ _ _,_,vals3 _ _ _ _ _ _,IsTup.new _ _⟩,rfl,q'⟩
 .rename_i e;rw[e] at q';exact⟨.ref _,_,I1.laid (o:=.tup _) (fun b o e=>zaz _ e) (zac _) ⟨sz3 _ _ _,_,vals3 _ _ _ _ _ _,IsTup.new _ _⟩,rfl,q'⟩
def jEg:SmD X.K gPart jO8:=by
 intro x y d hd J H G v Q hG rv k
 cases y with
 | str z =>
  unfold gPart at hd;dsimp only at hd
  split at hd
  .rename_i hz;cases hd;exact⟨z,rep_str.mp rv,hz.1,hz.2,fun p hp=>k _ _ (jal hp) (jbc hp (hG p hp) (jhh _))⟩
  .cases hd
 | _=>cases hd
def jEe:SmR X "split" jGe:=fun U s Z x t pos a Q h=>by
 refine⟨_,_,PySem.F.plainAttrs_str,PySem.F.slot_str_split,PySem.F.type_str_split,typeIs_str _ _ _,(fun _ e=>nomatch e),?_⟩;refine method1_meets PySem.F.slot_str_split PySem.F.entry_str_split (thn h fun v s1 hzz=>?_);obtain⟨y,H1,I1,ry,z,hz,h1,h2,h3,q⟩:=hzz;subst hz;obtain⟨u,rfl⟩:=ry;refine⟨typeIs_str _ _ _,PySem.F.args_str_split_2 _ _,?_⟩;have q':=q _ (I1.hok.fresh (zac _));have itself:Txt.split x z=[x]->listOfItself x t X.A (wants (EP X _ Z Q) X.xe) s1:=fun e=>by
  rw[e] at q';exact⟨.ref _,_,I1.laid (o:=.lst _) (fun b o e=>zaz _ e) (zac _) ⟨by exact (by decide:1<=16777216),_,0,.cons (jDy x t) .nil,zbz _ rfl⟩,rfl,q'⟩
 cases c1:(decide (x.length<z.length) || decide (Builtin.Str.strKind x<Builtin.Str.strKind z)) with
 | true=>exact⟨_,meets_str_split_cannot_occur x z t u c1,itself (by unfold Txt.split;grind)⟩
 | false =>
  cases c2:(Builtin.Str.occurrences x z 0 _ _).isEmpty with
  | true=>exact⟨_,meets_str_split_not_found x z t u c1 h1 c2,itself (by unfold Txt.split;grind)⟩
  | false =>
   have e:Txt.split x z=Builtin.Str.partsBetween x (Builtin.Str.occurrences x z 0 x.length (x.length+1)) z.length:=by unfold Txt.split;rw[if_neg (by grind),if_neg (by grind)]
   rw[e] at q' h3;exact⟨_,meets_str_split_sep x z t u c1 h1 c2 h2 h3,.ref _,_,I1.laid (o:=.lst _) (fun b o e=>zaz _ e) (zac _) ⟨by grind,_,0,jqv _ _,zbz _ rfl⟩,rfl,q'⟩
def jAl:SmD X.K gSplit jGe:=by
 intro x y d hd J H G v Q hG rv k
 cases y with
 | str z =>
  unfold gSplit at hd;dsimp only at hd
  split at hd
  .rename_i hz;cases hd;exact⟨z,rep_str.mp rv,hz.1,hz.2.1,hz.2.2,fun p hp=>k _ _ (jal hp) (jcq hp (hG p hp) (jhh _))⟩
  .cases hd
 | _=>cases hd
inductive TupAt(K:W.Frag)(mg:qa)(x:Str)(ks:List Str):Prop
 | mk (a:Addr) (its:Array Value) (n:Nat) (sl:qe) (h1:mg x=some (.ref a)) (h2:K.lookup a=some ⟨.type "tuple",none,.seq its n,sl⟩) (h3:Vals (ks.map V.str) its.toList) (h4:its.size<=sizeLine)
def jL6(T:TupAt X.K X.mg x ks)(hg:Gl X x)(hd:autoParam (qh x) zau0._auto_1):DE X O E (.Name x pos) (fC (.tup (ks.map .str))):=by
 obtain⟨a,its,n,sl,h1,h2,h3,h4⟩:=T;exact jjz (t:=tC (.ref a)) (joc (v:=.ref a) hg h1 rfl hd) fun _ _=>rep_tup.mpr ⟨a,_,rfl,.inr ⟨_,its,n,h2,rfl,rfl,h4,h3⟩,jhh _⟩
def idxS(x:Str):List Str->Nat->Option Nat
 | [],_=>none
 | k::ks,j=>if k=x then some j else idxS x ks (j+1)
theorem jxo:∀ {ks:List Str} {i j:Nat},idxS x ks i=some j->∃ m,j=i+m/\ks[m]? = some x/\∀ l,l<m->ks[l]?≠some x
 | [],_,_,h=>by cases h
 | k::ks,i,j,h=>by
  unfold idxS at h
  split at h
  .simp_all
  .rename_i e;obtain⟨m,e1,e2,e3⟩:=jxo h;refine⟨m+1,by lia,by grind,fun l hl=>?_⟩
   grind
def fIdx(ks:List Str)(fe:DSt->M D):DSt->M D:=fun Y=>(fe Y).b fun d=>match d with
 | .str y=>M.o ((idxS y ks 0).map fun j:Nat=>.int (j:Int))
 | _=>none
def jL7(T:TupAt X.K X.mg x ks)(hg:Gl X x)(he:DE X O E e fe)(hd:autoParam (qh x) zau0._auto_1)(hbase:autoParam (attributeBase (.Name x p) "index" X.env (eval (.Name x p) X.env)=eval (.Name x p) X.env) zau2._auto_1)
  (hfew:((backTo pos (starEach [e] X.env)).all (fun x=>!x.1)&&(backToKw pos (keywordEach [] X.env)).all (fun x=>x.1.isSome)
   && decide ([e].length+([]:List Keyword).length+(if ([]:List Keyword).isEmpty then 0 else 1)<30))=true:=by rfl)
  (hline:autoParam ((apos.endLine == pos.line)=true) zau2._auto_1) (hs:autoParam (starEach [e] X.env=[(false,eval e X.env)]) zau2._auto_1):DE X O E (.Call (.Attribute (.Name x p) "index" apos) [e] [] pos) (fIdx ks fe):=by
 rintro U s Z H Q I ⟨J,Hz,F,Y,rr,R,hf,k⟩;obtain⟨a,its,n,sl,h1,h2,h3,h4⟩:=T;refine jvl (r:=fun x xs H Q=>∃ (y:Str) (j:Nat),x=.ref a/\xs=[.str y]/\idxS y ks 0=some j/\Q (.int (j)) H) PySem.F.plainAttrs_tuple PySem.F.slot_tuple_index PySem.F.type_tuple_index ?_ (joc (v:=.ref a) hg h1 rfl hd) (jet he jht hs) hbase hfew hline hs rfl _ s Z H Q I ?_
 .intro U s Z H x xs v us Q I rx rxs h;obtain⟨y,j,rfl,rfl,hj,q⟩:=h;cases rx;obtain⟨u,rfl,t,rfl⟩:=rxs.one;obtain⟨m,e1,e2,e3⟩:=jxo hj;have e1':j=m:=by lia
  subst e1';exact call_meets PySem.F.slot_tuple_index ⟨_,I.kIn a _ h2,rfl⟩ PySem.F.entry_tuple_index (PySem.F.args_tuple_index_2 _ _) (jry h3 e2 e3) ⟨(⟨_,I.kIn a _ h2,rfl,n,rfl⟩),.int _,H,I.tok _,⟨_,rfl⟩,q⟩
 .refine⟨.inr (.inl ⟨rfl,_,h2,rfl,rfl⟩),?_⟩;refine bD R hf k fun d hf u H1 s1 r1=>?_
  cases d with
  | str y =>
   obtain⟨d',hd',rfl⟩:=M.o_inv hf;obtain⟨j,hj,rfl⟩:=Option.map_eq_some_iff.mp hd';exact⟨y,j,rfl,by rw[rep_str.mp r1],hj,k _ H1 s1 (rep_int.mpr rfl)⟩
  | _=>cases hf
end
def tupAt3{K:W.Frag}(X:K.In h)(G:h.Ns mainGlobals mg)(y:W.nsIn K mainGlobals x=some (some (.ref aT)))(yT:K.lookup aT=some ⟨.type "tuple",none,.seq #[.str a u,.str b v,.str c w] nT,sT⟩):TupAt K mg x [a,b,c] :=
 ⟨aT,_,nT,sT,W.mg_of X G y,yT,.cons ⟨u,rfl⟩ (.cons ⟨v,rfl⟩ (.cons ⟨w,rfl⟩ .nil)),zdz (by decide:3<=16777216) (Nat.le_of_eq sizeLine_eq.symm)⟩
end DL
namespace DL
open L2
def jln(kvs:List (Str×D))(k:Str):Option D:=(kvs.find? fun p=>decide (p.1=k)).map (·.2)
theorem jtv(k:Str):∀ {kvs:List (Str×D)} {vk:List (Key×V)},vk.map (·.1)=kvs.map (fun p=>(Sum.inr p.1:Key))->Reps J K H (kvs.map (·.2)) (vk.map (·.2))->LookV J K H (jln kvs k) (valV vk (Sum.inr k))
 | [],[],_,_=>.none rfl rfl
 | [],_::_,h,_=>by cases h
 | _::_,[],h,_=>by cases h
 | p::kvs,q::vk,h,r=>by
  rw[List.map_cons,List.map_cons,List.cons.injEq] at h;rw[List.map_cons,List.map_cons] at r;obtain⟨u,us,e,q1,q2⟩:=reps_cons.mp r;rw[List.cons.injEq] at e;obtain⟨e1,e2⟩:=e
  by_cases hk:p.1=k
  .refine .some p.2 q.2 ?_ (jky (by rw[h.1,hk])) (by grind)
   grind [jln,List.find?_cons,decide_eq_true]
  .unfold jln;rw[List.find?_cons,decide_eq_false hk,jkx (fun z=>hk (Sum.inr.inj (by rw[<- h.1];exact z)))];exact (jtv k h.2 (by rw[<- e2] at q2;exact q2))
def jI4:DSt->MS D:=fun _ Ω=>some (.ok (.obj Ω.length),Ω++[.dck []])
noncomputable def dckK(fo fi:DSt->M D)(Y:DSt)(Ω:Sto):Option (Nat×List (Str×D)×Str):=match fo Y,fi Y with
 | some (.ok (.obj n)),some (.ok (.str y))=>match Ω[n]? with
  | some (.dck kvs)=>some (n,kvs,y)
  | _=>none
 | _,_=>none
inductive DckI(fo fi:DSt->M D)(Y:DSt)(Ω:Sto)(n:Nat)(kvs:List (Str×D))(y:Str):Prop
 | mk (h1:fo Y=some (.ok (.obj n))) (h2:fi Y=some (.ok (.str y))) (h3:Ω[n]? = some (.dck kvs))
def jrb(h:dckK fo fi Y Ω=some (n,kvs,y)):DckI fo fi Y Ω n kvs y:=by
 unfold dckK at h
 split at h
 .rename_i h1 h2
  split at h
  .rename_i h3;cases h;exact⟨h1,h2,h3⟩
  .cases h
 .cases h
def jjh(fi fo:DSt->M D):DSt->MS D:=fun Y Ω=>(dckK fo fi Y Ω).map fun t=>(.ok (.bl !(jln t.2.1 t.2.2).isSome),Ω)
def jI3(fo fi:DSt->M D)(d:D):DSt->MS D:=fun Y Ω=>(dckK fo fi Y Ω).map fun t=>(.ok ((jln t.2.1 t.2.2).getD d),Ω)
noncomputable def jMw(fo fi fv:DSt->M D):DSt->MS Out:=fun Y Ω=>(dckK fo fi Y Ω).bind fun t=>match fv Y with
 | some (.ok d)=>if (jln t.2.1 t.2.2).isSome=false/\t.2.1.length<sizeLine then some (.ok (.nx Y),Ω.set t.1 (.dck (t.2.1++[(t.2.2,d)]))) else none
 | _=>none
inductive DckAt(J:Rho)(S:qd)(K:W.Frag)(H Hv:Hp)(n:Nat)(kvs:List (Str×D))(u:V):Prop
 | mk (a:Addr) (vk:List (Key×V)) (h1:u=.ref a) (h2:J n=some a) (h3:S a=true) (h4:H a=some (.dK vk)) (h5:vk.map (·.1)=kvs.map (fun p=>Sum.inr p.1)) (h6:Reps J K Hv (kvs.map (·.2)) (vk.map (·.2)))
def RM.dck(R:RM Jz Sz Hz F K mg O J S H Z Y Ω)(hi:Ω[n]? = some (.dck kvs))(r:Rep J K (hid H (fob (un F S) Z O)) (.obj n) u):DckAt J S K H (hid H (fob (un F S) Z O)) n kvs u:=by
 obtain⟨ad,q1,q2⟩:=rep_obj.mp r;obtain⟨ad',p1,p2,vk,p3,p4,p5⟩:=R.sto.ats n _ hi;rw[q1] at p1;cases p1
 exact⟨ad,vk,q2,q1,p2,p3,p4,p5⟩
section
variable {X:Cx}{O B:List Nat}{e i o v:Expr}{fo fi fv:DSt->M D}{pos:Pos}
def jJb:ME X O (.Dict [] [] pos) jI4:=by
 rintro U s Z H Q I ⟨Jz,Sz,Hz,F,J,S,Y,Ω,R,r,Ω',hf,k⟩;cases hf;refine jDj _ s Z H Q I fun p hp=>?_
 obtain⟨t1,t2,t3⟩:=R.newS (nso:=.dck []) hp fun J' S' Hv' l v=>⟨[],jaj,rfl,Reps.nil⟩
 exact k _ _ _ _ t1 t2 t3 (rep_obj.mpr ⟨p,by unfold addR;grind,rfl⟩)
def jyx(h:tE X.K X.mg O (jjh fi fo) Z H Q):jAx (tD X.K O E0 fi) (tD X.K O E0 fo) Z H Q:=by
 obtain⟨Jz,Sz,Hz,F,J,S,Y,Ω,R,r,Ω',hf,k⟩:=h;obtain⟨⟨n,kvs,y⟩,e,hf⟩:=Option.map_eq_some_iff.mp hf;cases hf;obtain⟨h1,h2,h3⟩:=jrb e;refine⟨J,_,_,Y,_,R.rs,h2,fun u H1 s1 r1=>?_⟩;have R1:=R.mono s1;refine⟨J,_,_,Y,_,R1.rs,h1,fun w H2 s2 r2=>?_⟩;have R2:=R1.mono s2;obtain⟨ad,vk,rfl,t1,t2,t3,t4,t5⟩:=R2.dck h3 r2;cases rep_str.mp r1;have he:(valV vk (Sum.inr y)).isSome=(jln kvs y).isSome:=by
  rcases jtv y t4 t5 with ⟨z1,z2⟩|⟨d0,u0,z1,z2,z3⟩
  .rw[z1,z2];rfl
  .rw[z1,z2];rfl
 exact⟨ad,_,rfl,DGet.k (k:=Sum.inr y) t3,by rw[he];exact k _ J S H2 R2 (RLe.refl _) (jad (s1.trans s2)) (rep_bl.mpr rfl)⟩
def jyq(hu:X.A.units+1<cLine)(hi:DE X O E0 i fi)(ho:DE X O E0 o fo)(hm:behindInMarks .NotIn o=false):ME X O (.Compare i [.NotIn] [o] pos) (jjh fi fo) :=
 fun U s Z H Q I h=>jOl (jzf hu hi ho) hm _ s Z H Q I (jyx h)
def jI8(hu:X.A.units+1<cLine)(ho:DE X O E0 o fo)(hi:DE X O E0 i fi)(hf:DE X O E0 f fd)(hd:∀ Y,fd Y=some (.ok d))(m:autoParam (M2 X o "get" p2 i f p3) zau10._auto_1) :
  ME X O (.Call (.Attribute o "get" p2) [i,f] [] p3) (jI3 fo fi d):=by
 rintro U s Z H Q I ⟨Jz,Sz,Hz,F,J,S,Y,Ω,R,r,Ω',hf',k⟩;refine jDi hu ho hi hf m _ s Z H Q I ?_;obtain⟨⟨n,kvs,y⟩,e,hf'⟩:=Option.map_eq_some_iff.mp hf';cases hf';obtain⟨h1,h2,h3⟩:=jrb e;refine⟨J,_,_,Y,_,R.rs,h1,fun u H1 s1 r1=>?_⟩;have R1:=R.mono s1;obtain⟨ad,vk,rfl,t1,t2,t3,t4,t5⟩:=R1.dck h3 r1;refine⟨ad,rfl,.inl ⟨vk,.inl t3⟩,J,_,_,Y,_,R1.rs,h2,fun w H2 s2 r2=>?_⟩;have R2:=R1.mono s2;cases rep_str.mp r2;refine⟨J,_,_,Y,_,R2.rs,hd Y,fun z H3 s3 r3=>?_⟩;have R3:=R2.mono s3;obtain⟨ad',vk',e',t1',t2',t3',t4',t5'⟩:=R3.dck h3 (r1.mono (jad (s2.trans s3)));cases e';refine⟨_,DGet.k (k:=Sum.inr y) t3',k _ J S H3 R3 (RLe.refl _) (jad (s1.trans (s2.trans s3))) ?_⟩;rcases jtv y t4' t5' with ⟨z1,z2⟩|⟨d0,u0,z1,z2,z3⟩
 .rw[z1,z2];exact r3
 .rw[z1,z2];exact z3
def jJf(hu:X.A.units+1<cLine)(ho:DE X O E0 o fo)(hi:DE X O E0 i fi)(hv:DE X O E0 v fv)(hs:autoParam (swapsWith v (some (.Subscript o i p3)) pos.line X.env=pure false) zau2._auto_1) :
  MSt X O O B (.Assign [.Subscript o i p3] v pos) (jMw fo fi fv):=by
 rintro U s Z H Dn I ⟨Jz,Sz,Hz,F,J,S,Y,Ω,R,r,Ω',hg,k⟩;refine jKh hu ho hi hv hs _ s Z H Dn I ?_;obtain⟨⟨n,kvs,y⟩,e,hg⟩:=Option.bind_eq_some_iff.mp hg;obtain⟨h1,h2,h3⟩:=jrb e
 split at hg
 .rename_i d hd
  split at hg
  .rename_i hz;cases hg;refine⟨J,_,_,Y,_,R.rs,hd,fun vv H1 s1 r1=>?_⟩;have R1:=R.mono s1;refine⟨J,_,_,Y,_,R1.rs,h1,fun u H2 s2 r2=>?_⟩;have R2:=R1.mono s2;refine⟨J,_,_,Y,_,R2.rs,h2,fun w H3 s3 r3=>?_⟩;have R3:=R2.mono s3;cases rep_str.mp r3;obtain⟨ad,vk,rfl,t1,t2,t3,t4,t5⟩:=R3.dck h3 (r2.mono (jad s3));have hlen:=by
    have:=congrArg List.length t4
    rwa [zav,zav] at this
   have hnone:valV vk (Sum.inr y)=none:=by
    rcases jtv y t4 t5 with ⟨z1,z2⟩|⟨d0,u0,z1,z2,z3⟩
    .exact z2
    .rw[z1] at hz;cases hz.1
   obtain⟨w1,w2⟩:=R3.putS (so':=.dck (kvs++[(y,d)])) (o':=.dK (vk++[(Sum.inr y,vv)])) h3 t1 t2 t3 (fun _ z=>nomatch z) ⟨_,jaj,by rw[List.map_append,List.map_append,t4];rfl,by rw[List.map_append,List.map_append];exact t5.append (Reps.cons (r1.mono (jad (s2.trans s3))) Reps.nil)⟩;refine⟨ad,_,rfl,.inl ⟨vk,Sum.inr y,t3,rfl,by rw[hlen];exact hz.2,rfl⟩,?_⟩;rw[jDv _ hnone];exact k J S Z _ w1 (RLe.refl _) (by rw[w2];exact jad (s1.trans (s2.trans s3)))
  .cases hg
 .cases hg
end
noncomputable def juy(own:Nat)(caps:qf)(h:D->DSt->Option DSt)(tc:DSt->M Bool)(fe:DSt->M D)(Y:DSt)(x:D)(Ω:Sto):Option (List D):=match x with
 | .obj n=>match Ω[n]? with
  | some (.lst ds)=>(jcn h tc fe ds (jef own caps Y)).bind fun tot=>if tot.length<=sizeLine/\tot.all scalD=true then some tot else none
  | _=>none
 | _=>none
inductive CompSI(own:Nat)(caps:qf)(h:D->DSt->Option DSt)(tc:DSt->M Bool)(fe:DSt->M D)(Y:DSt)(x:D)(Ω:Sto)(tot:List D):Prop
 | mk (n:Nat) (ds:List D) (h1:x=.obj n) (h2:Ω[n]? = some (.lst ds)) (h4:jcn h tc fe ds (jef own caps Y)=some tot) (h5:tot.length<=sizeLine) (h6:tot.all scalD=true)
def jw0(e:juy own caps h tc fe Y x Ω=some tot):CompSI own caps h tc fe Y x Ω tot:=by
 unfold juy at e
 split at e
 .rename_i n
  split at e
  .rename_i ds hn;obtain⟨t,h3,e⟩:=Option.bind_eq_some_iff.mp e
   split at e
   .rename_i hz;cases e;exact⟨n,ds,rfl,hn,h3,hz.1,hz.2⟩
   .cases e
  .cases e
 .cases e
def jFs(own:Nat)(caps:qf)(fo:DSt->MS D)(h:D->DSt->Option DSt)(tc:DSt->M Bool)(fe:DSt->M D):DSt->MS D:=fun Y=>(fo Y).b fun x Ω=>(juy own caps h tc fe Y x Ω).map fun tot=>(.ok (.lst tot),Ω)
def gExt(i:Nat)(fa:DSt->M D):DSt->M Out:=fun Y=>(fa Y).b fun d=>match (Y[i]?).join,d with
 | some (.lst xs),.lst ys=>if xs.length+ys.length<=sizeLine then M.p (.nx (Y.set i (some (.lst (xs++ys))))) else none
 | _,_=>none
section
variable {X:Cx}
def jC0(hc:X.calm=true)(ck:CapsOk X scope caps)(hi:ME X O iter fo)
  (hg:∀ C s0 H0 ex,DG (jch X scope (own++caps.map (·.1)) C s0 H0 ex) [] tg h) (ht:∀ C s0 H0 ex,DC (jch X scope (own++caps.map (·.1)) C s0 H0 ex) [] E0 ifs tc)
  (he:∀ C s0 H0 ex,DE (jch X scope (own++caps.map (·.1)) C s0 H0 ex) [] E0 elt fe) (hcf:autoParam (jew O caps=true) zau2._auto_1) (hs:autoParam (∀ x,foldedSetIterable iter X.env x=pure x) zau9._auto_1) :
  ME X O (.ListComp elt [⟨tg,iter,ifs,0⟩] scope pos) (jFs own.length caps fo h tc fe):=by
 rintro U s Z H Q I ⟨Jz,Sz,Hz,F,J,S,Y,Ω,R,r,Ω',hf,k⟩;refine jsb (g:=tG X.K [] h) (tc:=tB X.K [] E0 tc) (te:=tD X.K [] E0 fe) hc ck (jKc hi) hg ht he hs _ s Z H Q I ?_;rcases MS.b_inv hf with ⟨x,Ω1,e1,hf⟩|⟨x,e1,rfl⟩
 .obtain⟨tot,e2,e3⟩:=Option.map_eq_some_iff.mp hf;cases e3;obtain⟨n,ds,rfl,hn,hcd,hz,hsc⟩:=jw0 e2;refine⟨_,_,_,F,J,S,Y,Ω,R,_,_,e1,fun v J1 S1 H1 R1 l1 v1 r1=>?_⟩;obtain⟨ad,q1,rfl⟩:=rep_obj.mp r1;obtain⟨ad',p1,p2,xs,p3,p4⟩:=R1.sto.ats n _ hn;rw[q1] at p1;cases p1
  let G:=fun b=>un F S1 b&&!(b == ad)
  have leG:=fun b hb=>by
   have hb':(un F S1 b&&!(b == ad))=true:=hb;rw[Bool.and_eq_true] at hb';exact hb'.1
  have leF:∀ b,fob G Z O b=true->fob _ Z O b=true:=fun b hb=>by
   rcases fob_t.mp hb with z|z
   .exact fob_t.mpr (.inl (leG b z))
   .exact fob_t.mpr (.inr z)
  have notG:fob G Z O ad=false:=by
   cases e:fob G Z O ad with
   | false=>rfl
   | true =>
    rcases fob_t.mp e with z|z
    .have z':(un F S1 ad&&!(ad == ad))=true:=z;simp at z'
    .exact absurd z (R1.base_S p2)
  exact⟨ad,rfl,⟨xs,SqL.of p3⟩,fun Dd hD=>(jms hcf (R1.rs.show leG) (jFn (SqL.of (hid_some.mpr ⟨notG,p3⟩)) (p4.mono (jc4 leF))) hD hcd hz fun zs H' sm hDd rz=>k _ J1 S1 H' (R1.mono sm) l1 (v1.trans (jad sm)) (rep_lst.mpr ⟨Dd,zs,rfl,SqL.of (hid_some.mpr ⟨R1.fresh hD,hDd⟩),jqd hsc rz⟩))⟩
 .exact⟨_,_,_,F,J,S,Y,Ω,R,_,_,e1,trivial⟩
def jMm(hK:noL X.K=true)(ho:O.contains i=true)(he:DE X O E e fa)(hp:Mp X i x "extend" e p1 p2 p3 pos) :
  DS X O O B E (.Expr (.Call (.Attribute (.Name x p1) "extend" p2) [e] [] p3) pos) (gExt i fa):=by
 rintro U s Z H Dn I ⟨J,Hz,F,Y,r,R,hg,k⟩;obtain⟨⟨hi,hv,hd,hcd⟩,hbase,hfew,hline,hs,hsw⟩:=hp;have ho':=zbc.mp ho;obtain⟨l,xs0,ds0,q1,q2,q3,q4,q5⟩:=R.own i ho';have mt:MtR X "list.extend" (fun x vs H Q=>∃ l b xs zs,x=.ref l/\vs=[.ref b]/\H l=some (.lst xs)/\Rd H b (.lst zs)/\xs.length+zs.length<=sizeLine/\Q .non (upd H l (.lst (xs++zs)))):=by
  intro U s Z H x vs v us Q I rx rv h;obtain⟨l,b,xs,zs,rfl,rfl,hH,hB,hz,q⟩:=h;cases rx;obtain⟨u,rfl,ru⟩:=rv.one;cases ru;obtain⟨z,its,n,r,hl,e⟩:=I.lstM hH;obtain⟨z2,its2,n2,r2,e2⟩:=hB.ok I.hok;have hl2:=r2.length;have hsz:its.toArray.size+its2.toArray.size<=sizeLine:=by rw[zbx,zbx];lia
  have hlong:¬ (!its.toArray.isEmpty&&Builtin.List.listTooLong (its.toArray.size+its2.toArray.size))=true:=by
   rw[jt7 hsz,Bool.and_false];exact Bool.false_ne_true
  refine call_meets PySem.F.slot_list_extend ⟨_,e,rfl⟩ PySem.F.entry_list_extend (PySem.F.args_list_extend_2 _ _)
   (AutoSeq1.list_extend_list_list_0 l _ n b _ n2 hlong (by lia) (by lia)) ⟨e,e2,?_⟩
  refine⟨.non,_,I.lset hH e (by simp) (r.append r2) ?_,rfl,q⟩;rw[zcb]
  lia
 refine jl2 (jvl PySem.F.plainAttrs_list PySem.F.slot_list_extend PySem.F.type_list_extend mt (jl1 hi hv hd hcd) (jet he jht hs) hbase hfew hline hs rfl) hsw _ s Z H Dn I ?_;refine⟨_,q2,.inl ⟨rfl,_,SqL.of q3⟩,?_⟩;refine bD R hg k fun d hg v H1 s1 r1=>?_
 have hj:(Y[i]?).join=some (.lst ds0):=by rw[q1];rfl
 rw[hj] at hg
 split at hg
 .rename_i xs' ys ee;cases ee
  split at hg
  .rename_i hz;cases hg;have R1:=R.mono s1;obtain⟨l',xs,ds,p1,p2,p3,p4,p5⟩:=R1.own i ho';rw[q2] at p2;cases p2
   rw[q1] at p1;cases p1
   obtain⟨b,zs,rfl,w1,w2⟩:=rep_lst.mp r1;have w3:Rd H1 b (.lst zs):=by
    rcases jcj jaf w1 with w|⟨o,_,_,hk,hc,_⟩
    .exact w
    .exact absurd hc (jN7 hK hk)
   refine⟨l,b,xs,zs,rfl,rfl,p3,w3,by rw[p5.length,w2.length];exact hz,?_⟩;refine k Z _ ?_ (R1.write ho' q2 (p5.append w2));rw[jdr (fob_t.mpr (.inr ⟨i,ho',q2⟩))];exact jad s1
  .cases hg
 .cases hg
def jJg(hb:∀ W,MSs (X.wish W) O O' B body g):MSt X O O' B (.Try body (h0::hs) [] [] tpos) g:=by
 rintro U s Z H Dn I ⟨Jz,Sz,Hz,F,J,S,Y,Ω,R,r,Ω',hf,k⟩;refine wpAny_Try_except ?_;generalize (fun (e) (s₁)=>wpAny _ X.A _ _ _ _)=W;refine thn (hb W _ s Z H Dn (I.wish W) ⟨_,_,_,F,J,S,Y,Ω,R,r,Ω',hf,k⟩) fun f s1 q=>?_
 cases f with
 | next=>exact wpAny_execs_nil (SP.unwish q)
 | ret v=>exact SP.unwish q
 | brk=>exact SP.unwish q
 | cont=>exact SP.unwish q
end
end DL
namespace L2
open PyProof.Rows PySem.W
end L2
namespace DL
open L2
end DL
namespace L2
open PyProof.Rows
open PySem.W (Frag InstAt Looks findIn mroIn clsIn)
end L2
namespace DL
open L2
section
variable {X:Cx}
noncomputable def kIsiP:List D->Option D
 | [d,.tup [.ty a,.ty b]]=>if a="int"/\b="str" then (match d with
  | .int _=>some (.bl true)
  | .str _=>some (.bl true)
  | _=>none) else none
 | _=>none
def jO6(K:W.Frag):List V->Hp->VK->Prop:=fun xs H Q=>∃ v p,xs=[v,.ref p]/\SqT K H p [.ty "int",.ty "str"]/\((∃ i,v=.int i)\/∃ y,v=.str y)/\Q (.bl true) H
def jwn:CallR X (.builtin "isinstance") (jO6 X.K):=by
 intro U s Z H xs us Q I r h;obtain⟨v,p,rfl,hp,hv,q⟩:=h;obtain⟨u,c,rfl,ru,rc⟩:=r.two;cases rc;have fin:∀ tk,EP X _ Z Q _ { s with toks:=tk }:=fun tk=>⟨.bl _,H,I.tok _,rfl,q⟩
 obtain⟨its,hi,⟨o,e,hc,hd⟩,_⟩:=I.tuple hp;obtain⟨a,b,rfl,ra,rb⟩:=hi.two;cases ra;cases rb
 obtain⟨cls,dd,dat,sl⟩:=o;cases hc;obtain⟨n,hd⟩:=hd;cases hd;rcases hv with ⟨i,rfl⟩|⟨y,rfl⟩
 .obtain⟨t,rfl⟩:=ru;exact W.kia_tup W.kitx_int I.kIn True.intro e rfl (fun z=>nomatch z) fin
 .obtain⟨t,rfl⟩:=ru;exact W.kia_tup W.kitx_str I.kIn True.intro e rfl (fun z=>nomatch z) fin
def jBk:CaD X.K kIsiP (jO6 X.K):=by
 intro xs d hd J H G us Q hG ru k;unfold kIsiP at hd
 split at hd
 .rename_i d0 a b
  split at hd
  .rename_i hab;obtain⟨rfl,rfl⟩:=hab;obtain⟨v,u,rfl,q1,q2⟩:=jD0 ru;obtain⟨p,ys,rfl,q3,q4⟩:=rep_tup.mp q2;obtain⟨y1,y2,rfl,q5,q6⟩:=jD0 q4;cases rep_ty.mp q5;cases rep_ty.mp q6
   cases d0 with
   | int i=>cases hd;exact⟨_,p,rfl,jcb jaf q3,.inl ⟨i,rep_int.mp q1⟩,k _ H (Same.refl H) (rep_bl.mpr rfl)⟩
   | str y=>cases hd;exact⟨_,p,rfl,jcb jaf q3,.inr ⟨y,rep_str.mp q1⟩,k _ H (Same.refl H) (rep_bl.mpr rfl)⟩
   | _=>cases hd
  .cases hd
 .cases hd
def jBm(hf:jot K mg x st ps)(S:FnScope N ps (jab st)):Cal P w K mg base 1 x ps.length (mir ps.length N.length fun _=>none) :=
 jE4 (O':=[]) hf S fun f cdv A outer s H E hr=>by
  rintro U s Z H Dn I ⟨J,Hz,F,Y,r,R,hf,k⟩;cases hf
end
structure Fi where
 x:Str
 k:Nat
 n:Nat
 m:List D->M D
structure Sx where
 N:List Str
 sc:Scope
 k:Nat
 t:List Fi
 b:List Str
 g:List (Str×D)
 w:List Nat
 q:List Nat
 f:Bool
def GlD(K:W.Frag)(mg:qa)(x:Str):D->Prop
 | .int i=>∃ t,mg x=some (.int i t)
 | .str z=>∃ t,mg x=some (.str z t)
 | .tup ds=>∃ ks:List Str,ds=ks.map D.str/\TupAt K mg x ks
 | _=>False
structure SxOk(S:Sx)(X:Cx):Prop where
 N:X.N=S.N
 sc:X.env.scope=S.sc
 cm:X.calm=true
 hr:Room S.k X.A
 t:∀ i∈S.t,Cal X.prog X.w X.K X.mg X.base i.k i.x i.n i.m
 b:∀ x∈S.b,X.mg x=none
 g:∀ p∈S.g,GlD X.K X.mg p.1 p.2
 f:S.f=true->∀ x,X.fn x=true
def nSt:Expr->Bool
 | .Starred _ _=>false
 | .Slice _ _ _ _=>false
 | .Set _ _ _=>false
 | _=>true
def nCo:Expr->Bool
 | .ListComp _ _ _ _=>false
 | .SetComp _ _ _ _=>false
 | .DictComp _ _ _ _ _=>false
 | _=>true
def nTe:Expr->Bool
 | .UnaryOp .Not _ _=>false
 | .BoolOp _ _ _=>false
 | .IfExp _ _ _ _=>false
 | .Compare _ _ _ _=>false
 | _=>true
def nSu:Expr->Bool
 | .Call (.Name _ _) [] [] _=>false
 | _=>true
def jeu(h:nSt e=true):starEach (e::es) env=(false,eval e env)::starEach es env:=by
 cases e<;>first|rfl|cases h
def jK6(h:nSt e=true):ji4 e:=by
 intro o i;cases e<;>first|rfl|cases h
def jJe(h:nSt e=true):behindInMarks op e=false:=by
 cases e<;>first|rfl|cases h
def jCb(h:nSt e=true)(x:Value):foldedSetIterable e env x=pure x:=by
 cases e<;>first|rfl|cases h
def jEr(h:nCo e=true):swapsWith e t l env=pure false:=by
 cases e<;>first|rfl|cases h
def jSi(h:nTe e=true)(whole:Sem Value):isTrue e env whole=(do let v <- whole;standAt e.pos;holding [v] (truthy v)):=by
 cases e with
 | UnaryOp op a p=>cases op<;>first|rfl|cases h
 | _=>first|rfl|cases h
def jG2(h:nSu e=true)(w:Sem Value):attributeBase e a env w=w:=by
 unfold nSu at h;unfold attributeBase;split at h
 .cases h
 .rename_i z;split
  .exact absurd rfl (z _ _ _)
  .rfl
theorem juv:∀ {es:List Expr},es.all nSt=true->(backTo pos (starEach es env)).any (·.1)=false
 | [],_=>rfl
 | e::es,h=>by
  rw[List.all_cons,Bool.and_eq_true] at h;rw[jeu h.1];exact juv h.2
def vis(S:Sx)(x:Str):Bool:=match S.sc.names.lookup x with
 | some .local=>true
 | some .cell=>true
 | some .free=>true
 | _=>false
theorem jP6(H:SxOk S X)(h:vis S x=true):Vis X.env.scope x:=by
 unfold vis at h;unfold Vis;rw[H.sc];grind
noncomputable def glb(S:Sx)(x:Str):Bool:=decide (S.sc.names.lookup x=some .globalImplicit)&&!(x == ("__debug__":Str))&&!(x == ("__name__":Str))
def jfb(H:SxOk S X)(h:glb S x=true):Gl X x/\(x == ("__debug__":Str))=false/\x≠"__name__":=by
 unfold glb at h;simp only[Bool.and_eq_true,decide_eq_true_eq,Bool.not_eq_true'] at h;refine⟨?_,h.1.2,fun e=>by grind⟩;show X.env.scope.names.lookup x=_;rw[H.sc];exact h.1.1
noncomputable def loc(S:Sx)(i:Nat)(x:Str):Bool:=decide (S.N[i]? = some x)&&(decide (S.sc.names.lookup x=some .local) || S.f&&decide (S.sc.names.lookup x=some .cell))
theorem jit(H:SxOk S X)(h:loc S i x=true):X.N[i]? = some x/\Loc X.env.scope x/\(X.fn x=true\/X.env.scope.names.lookup x=some .local):=by
 unfold loc at h;simp only[Bool.and_eq_true,Bool.or_eq_true,decide_eq_true_eq] at h;rw[H.N,H.sc];rcases h.2 with h'|h'
 .exact⟨h.1,.inl h',.inr h'⟩
 .exact⟨h.1,.inr h'.2,.inl (H.f h'.1 x)⟩
noncomputable def var(S:Sx)(i:Nat)(x:Str):Bool:=decide (S.N[i]? = some x)&&vis S x&&!(x == ("__debug__":Str))&&!(x == ("__classdict__":Str))
def jqy(H:SxOk S X)(h:var S i x=true):X.N[i]? = some x/\Vis X.env.scope x/\(x == ("__debug__":Str))=false/\(x == ("__classdict__":Str))=false:=by
 unfold var at h;simp only[Bool.and_eq_true,decide_eq_true_eq,Bool.not_eq_true'] at h;rw[H.N]
 grind [jP6]
abbrev QE(S:Sx)(O:List Nat)(e:Expr):=Option {f:DSt->M D // ∀ (X:Cx) (E:XK),SxOk S X->DE X O E e f}
abbrev QA(S:Sx)(O:List Nat)(es:List Expr):=Option {f:DSt->M (List D) // ∀ (X:Cx) (E:XK),SxOk S X->DA X O E es f}
abbrev QT(S:Sx)(O:List Nat)(e:Expr):=Option {f:DSt->M Bool // ∀ (X:Cx) (E:XK),SxOk S X->DT X O E e f}
abbrev QW(S:Sx)(O:List Nat)(e:Expr):=Option {f:DSt->M Bool // ∀ (X:Cx) (E:XK),SxOk S X->DW X O E e f}
abbrev QI(S:Sx)(O:List Nat)(t e:Expr):=Option {f:DSt->M (List D) // ∀ (X:Cx) (E:XK),SxOk S X->DI X O E t e f}
abbrev QG(S:Sx)(O:List Nat)(t:Expr):=Option {f:D->DSt->Option DSt // S.N.Nodup->∀ (X:Cx),SxOk S X->DG X O t f}
abbrev QC(S:Sx)(O:List Nat)(es:List Expr):=Option {f:DSt->M Bool // ∀ (X:Cx) (E:XK),SxOk S X->DC X O E es f}
abbrev QO(S:Sx)(O:List Nat)(e:Option Expr):=Option {f:DSt->M (Option Int) // ∀ (X:Cx) (E:XK),SxOk S X->DO X O E e f}
abbrev OpT(op:Operator):=Option {g:D->D->Option D // ∀ X:Cx,∃ r,OpR X (binaryOp op) r/\OpD X.K g r}
def opT(o:Bool):(op:Operator)->OpT op
 | .Add=>if o then some ⟨gCatE,fun _=>⟨_,jJv,jDb⟩⟩ else some ⟨gCat,fun _=>⟨_,jJu,jJz⟩⟩
 | .Sub=>some ⟨gSub,fun _=>⟨_,jOg,jJ3⟩⟩
 | .Mult=>some ⟨gMulT,fun _=>⟨_,jJw,jDd⟩⟩
 | .Mod=>some ⟨gMod,fun _=>⟨_,jOd,jJ0⟩⟩
 | .FloorDiv=>some ⟨gFdiv,fun _=>⟨_,jDa,jDc⟩⟩
 | .Pow=>some ⟨gPow,fun _=>⟨_,jOe,jJ2⟩⟩
 | _=>none
abbrev CpT(S:Sx)(op:CmpOp):=Option {g:D->D->Option D // ∀ X:Cx,SxOk S X->∃ r,OpR X (compareOp op) r/\OpD X.K g r}
def cpT(S:Sx):(op:CmpOp)->CpT S op
 | .Eq=>some ⟨gEq,fun _ H=>⟨_,jOa (hu30 H.hr),jOh⟩⟩
 | .NotEq=>some ⟨gNe,fun _ H=>⟨_,jy8 (hu30 H.hr),jF6⟩⟩
 | .Lt=>some ⟨gLt,fun _ _=>⟨_,jF4,jjp⟩⟩
 | .LtE=>some ⟨gLe,fun _ _=>⟨_,jOc,jjp⟩⟩
 | .Gt=>some ⟨gGt,fun _ _=>⟨_,jF2,jjp⟩⟩
 | .GtE=>some ⟨gGe,fun _ _=>⟨_,jOb,jjp⟩⟩
 | .In=>some ⟨gIn,fun _ _=>⟨_,jy6,jOi⟩⟩
 | .NotIn=>some ⟨gNotIn,fun _ _=>⟨_,jp8,jy9⟩⟩
 | .Is=>some ⟨gIs,fun _ _=>⟨_,jF3,jF5⟩⟩
 | _=>none
theorem jpp:∀ {l:List (Str×D)},l.lookup x=some d->(x,d)∈l
 | (y,c)::l,h=>by
  rw[List.lookup_cons] at h
  split at h
  .grind
  .exact zaw _ (jpp h)
structure SsOk(S:Sx)(X:Cx):Prop where
 ok:SxOk S X
 nd:S.N.Nodup
 ps:PassesOwn (model X.prog X.w) X.A X.env X.xe
 bk:X.env.blockKind=.function
 nl:noL X.K=true
abbrev QSs(S:Sx)(O O' B:List Nat)(st:List Stmt):=Option {g:DSt->M Out // ∀ (X:Cx) (E:XK),SsOk S X->DSs X O O' B E st g}
structure Lv where
 e:∀ (S:Sx) (O:List Nat) (e:Expr),QE S O e
 t:∀ (S:Sx) (O:List Nat) (e:Expr),QT S O e
 w:∀ (S:Sx) (O:List Nat) (e:Expr),QW S O e
 s:∀ (S:Sx) (O O' B:List Nat) (st:List Stmt),QSs S O O' B st
section
variable (L:Lv)(S:Sx)(O:List Nat)
def rA:(es:List Expr)->QA S O es
 | []=>some ⟨fNil,fun _ _ _=>jE8⟩
 | e::es=>do
  let a <- L.e S O e
  let r <- rA es
  if h:nSt e=true then some ⟨jaa a.1 r.1,fun X E H=>jra (a.2 X E H) (r.2 X E H) (jeu h)⟩ else none
def rO:(e:Option Expr)->QO S O e
 | none=>some ⟨oNone,fun _ _ _=>jH0⟩
 | some e=>do
  let a <- L.e S O e
  some ⟨jdn a.1,fun X E H=>jH1 (a.2 X E H)⟩
def lo(x:Str):Bool:=loc S (S.N.idxOf x) x&&!O.contains (S.N.idxOf x)
def jnw{S:Sx}{O:List Nat}(H:SxOk S X)(h:lo S O x=true):NmOk X O (S.N.idxOf x) x:=by
 unfold lo at h;rw[Bool.and_eq_true,Bool.not_eq_true'] at h
 grind [jit]
noncomputable def rG:(t:Expr)->QG S O t
 | .Name x pos =>
  let i:=S.N.idxOf x
  if h:loc S i x=true/\O.contains i=false then some ⟨gName i,fun nd X H=>have z:=jit H h.1;jrc (by rw[H.N];exact nd) h.2 z.1 z.2.1 z.2.2⟩ else none
 | .Tuple [.Name x px,.Name y py] kk pos =>
  if h:lo S O x=true/\lo S O y=true then some ⟨jbe (S.N.idxOf x) (S.N.idxOf y),fun nd X H=>jHv H.cm (by rw[H.N];exact nd) (jnw H h.1) (jnw H h.2)⟩ else none
 | .Tuple [.Name x px,.Name y py,.Name c pc] kk pos =>
  if h:lo S O x=true/\lo S O y=true/\lo S O c=true then some ⟨ju3 (S.N.idxOf x) (S.N.idxOf y) (S.N.idxOf c),fun nd X H=>jHw H.cm (by rw[H.N];exact nd) (jnw H h.1) (jnw H h.2.1) (jnw H h.2.2)⟩ else none
 | .Tuple [.Name x px,.Name y py,.Name c pc,.Name d pd] kk pos =>
  if h:(lo S O x=true/\lo S O y=true)/\lo S O c=true/\lo S O d=true then some ⟨jxk (S.N.idxOf x) (S.N.idxOf y) (S.N.idxOf c) (S.N.idxOf d),fun nd X H=>jHx H.cm (by rw[H.N];exact nd) (jnw H h.1.1) (jnw H h.1.2) (jnw H h.2.1) (jnw H h.2.2)⟩ else none
 | _=>none
def rC:(es:List Expr)->QC S O es
 | []=>some ⟨tYes,fun _ _ _=>jw4⟩
 | [a]=>do
  let a <- L.t S O a
  some ⟨a.1,fun X E H=>jL3 (a.2 X E H)⟩
 | _=>none
def bin(x:Str)(es:List Expr):Bool:=glb S x&&S.b.contains x&&es.all nSt
def jjv{S:Sx}(H:SxOk S X)(h:bin S x (a::es)=true):Gl X x/\X.mg x=none/\nSt a=true/\es.all nSt=true/\(x == ("__debug__":Str))=false/\x≠"__name__":=by
 unfold bin at h;simp only[Bool.and_eq_true,List.all_cons] at h;exact⟨(jfb H h.1.1).1,H.b _ (zbc.mp h.1.2),h.2.1,h.2.2,(jfb H h.1.1).2⟩
noncomputable def rR:(t e:Expr)->QI S O t e
 | t,.Call (.Name x p) (a::es) [] pos=>do
  let l <- rA L S O (a::es)
  if h:bin S x (a::es)=true/\x="range" then
   if es.length=2 then some ⟨jby jd2 l.1,fun X E H=>by
    obtain⟨h,rfl⟩:=h;obtain⟨h1,h2,h3,h4,_⟩:=jjv H h;exact jw8 h1 h2 (l.2 X E H) (jeu h3) (juv h4)⟩
   else some ⟨jby jbt l.1,fun X E H=>by
    obtain⟨h,rfl⟩:=h;obtain⟨h1,h2,h3,h4,_⟩:=jjv H h;exact jB0 h1 h2 (l.2 X E H) (jeu h3) (juv h4)⟩
  else none
 | _,_=>none
noncomputable def rZ:(t e:Expr)->QI S O t e
 | .Tuple ts kk tp,.Call (.Name x p) [a] [] pos=>do
  let l <- rA L S O [a]
  if h:bin S x [a]=true/\x="enumerate" then some ⟨jby jcw l.1,fun X E H=>by
   obtain⟨h,rfl⟩:=h;obtain⟨h1,h2,h3,h4,_⟩:=jjv H h;exact jHz h1 h2 (l.2 X E H) (jeu h3)⟩ else none
 | .Tuple ts kk tp,.Call (.Name x p) [a,b] [] pos=>do
  let l <- rA L S O [a,b]
  if h:bin S x [a,b]=true/\x="zip" then some ⟨jby jbl l.1,fun X E H=>by
   obtain⟨h,rfl⟩:=h;obtain⟨h1,h2,h3,h4,_⟩:=jjv H h
   rw[List.all_cons,Bool.and_eq_true] at h4;exact jMh h1 h2 (l.2 X E H) ((jeu h3).trans (congrArg _ (jeu h4.1))) (jeu h4.1)⟩ else none
 | _,_=>none
def rI(t e:Expr):QI S O t e:=match rR L S O t e with
 | some r=>some r
 | none=>match rZ L S O t e with
  | some r=>some r
  | none=>do
   let a <- L.e S O e
   if S.q.contains (e.pos.line*1000+e.pos.col) then some ⟨jnr a.1,fun X E H=>jMg (a.2 X E H)⟩ else some ⟨jbs a.1,fun X E H=>jMf (a.2 X E H)⟩
abbrev BT(S:Sx)(x:Str):=Option {k:List D->Option D // ∀ X:Cx,SxOk S X->(∃ id r,CallR X (.builtin id) r/\CaD X.K k r/\bootBuiltins x=some (.builtin id))\/(∃ T r,CallR X (.type T) r/\CaD X.K k r/\bootBuiltins x=some (.type T))}
def bT(x:Str)(tp:Bool):BT S x :=
 if h:x="len" then some ⟨kLen,fun _ _=>.inl ⟨_,_,jwo,jHa,by rw[h];exact jE2⟩⟩
 else if h:x="tuple" then some ⟨kTuple,fun _ _=>.inr ⟨_,_,jio,jo2,by rw[h];exact jnb⟩⟩
 else if h:x="int" then some ⟨kIntT,fun _ _=>.inr ⟨_,_,jwm,jBj,by rw[h];exact jE1⟩⟩
 else if h:x="all" then some ⟨kAll,fun _ H=>.inl ⟨_,_,jwl H.cm,jG8,by rw[h];exact jLv⟩⟩
 else if h:x="str" then some ⟨kStr,fun _ _=>.inr ⟨_,_,jo6,jHb,by rw[h];exact jE3⟩⟩
 else if h:x="sum" then some ⟨kSum,fun _ H=>.inl ⟨_,_,jwt H.cm,jHc,by rw[h];exact jLy⟩⟩
 else if h:x="isinstance" then if tp then some ⟨kIsiP,fun _ _=>.inl ⟨_,_,jwn,jBk,by rw[h];exact jfi⟩⟩ else some ⟨kIsi,fun _ _=>.inl ⟨_,_,jo3,jG9,by rw[h];exact jfi⟩⟩
 else if h:x="list" then some ⟨kList,fun _ _=>.inr ⟨_,_,jo5,jBl,by rw[h];exact jwj⟩⟩
 else if h:x="abs" then some ⟨kAbs,fun _ _=>.inl ⟨_,_,jBn,jG7,by rw[h];exact jLu⟩⟩
 else none
noncomputable def rCal(x:Str)(p:Pos)(e:Expr)(es:List Expr)(pos:Pos):QE S O (.Call (.Name x p) (e::es) [] pos) :=
 if h:bin S x (e::es)=true then do
  let k <- bT S x (match es with
   | [.Tuple _ _ _]=>true
   | _=>false)
  let l <- rA L S O (e::es)
  some ⟨fL k.1 l.1,fun X E H=>by
   obtain⟨h1,h2,h3,h4,h5,h6⟩:=jjv H h;rcases k.2 X H with ⟨_,_,a,b,c⟩|⟨_,_,a,b,c⟩
   .exact jBs a b h1 h2 c (l.2 X E H) h6 h5 (jeu h3) (juv h4)
   .exact jw5 a b h1 h2 c (l.2 X E H) h6 h5 (jeu h3) (juv h4)⟩
 else match hf:S.t.find? (fun i=>i.x == x) with
  | some i=>do
   let l <- rA L S O (e::es)
   if h:(glb S x=true/\i.k<=S.k)/\nSt e=true/\es.all nSt=true then some ⟨fCall i.m l.1,fun X E H=>by
    have C:=H.t i (List.mem_of_find?_eq_some hf);have q:i.x=x:=eq_of_beq (List.find?_some (p:=fun i:Fi=>i.x == x) hf);rw[q] at C;exact jHp C (H.hr.mono h.1.2) (l.2 X E H) (jfb H h.1.1).1 (jfb H h.1.1).2.1 (jeu h.2.1) (juv h.2.2)⟩ else none
  | none=>none
noncomputable def rLs(x:Str)(p:Pos)(y:Str)(p2:Pos)(e:Expr)(p3 p4:Pos):QE S O (.Call (.Name x p) [.Call (.Name y p2) [e] [] p3] [] p4) :=
 if h:(bin S x [e]=true/\x="len")/\bin S y [e]=true/\y="set" then (L.e S O e).bind fun a=>some ⟨f1 jCe a.1,fun X E H=>by
  obtain⟨⟨h1,rfl⟩,h2,rfl⟩:=h;have z:=jjv H h1;have u:=jjv H h2
  exact jHt H.cm u.2.1 z.2.1 (a.2 X E H) u.1 z.1 (jeu z.2.2.1) rfl rfl rfl⟩
 else rCal L S O x p _ _ p4
abbrev SmT(S:Sx)(n:Str):=Option {g:Str->D->Option D // ∀ X:Cx,SxOk S X->∃ r,SmR X n r/\SmD X.K g r}
def smT(n:Str):SmT S n :=
 if h:n="partition" then some ⟨gPart,fun _ _=>⟨_,by rw[h];exact jK7,jEg⟩⟩
 else if h:n="split" then some ⟨gSplit,fun _ _=>⟨_,by rw[h];exact jEe,jAl⟩⟩
 else if h:n="zfill" then some ⟨gZfill,fun _ _=>⟨_,by rw[h];exact jEf,jAm⟩⟩
 else if h:n="startswith" then some ⟨gStarts,fun _ _=>⟨_,by rw[h];exact jAk,jv0⟩⟩
 else none
noncomputable def rMet(o:Expr)(n:Str)(ap:Pos)(e:Expr)(pos:Pos):QE S O (.Call (.Attribute o n ap) [e] [] pos) :=
 (L.e S O e).bind fun b=>(L.e S O o).bind fun a =>
 if h:(nSu o=true/\nSt e=true)/\(ap.endLine == pos.line)=true then
  if q:n="join" then some ⟨fSm jgp a.1 b.1,fun X E H=>by
   subst q;exact jHs (a.2 X E H) (b.2 X E H) (jG2 h.1.1 _) (by rw[jeu h.1.2];rfl) h.2 (jeu h.1.2)⟩
  else (smT S n).bind fun g=>some ⟨fSm g.1 a.1 b.1,fun X E H=>by
   obtain⟨_,r1,r2⟩:=g.2 X H;exact jQs r1 r2 (a.2 X E H) (b.2 X E H) (jG2 h.1.1 _) (jeu h.1.2) h.2⟩
 else none
def dS:List D->List Str:=List.filterMap fun d=>match d with
 | .str x=>some x
 | _=>none
theorem jE7:∀ ks:List Str,dS (ks.map D.str)=ks
 | []=>rfl
 | k::ks=>congrArg _ (jE7 ks)
noncomputable def rKx(x:Str)(p:Pos)(n:Str)(ap:Pos)(e:Expr)(pos:Pos):QE S O (.Call (.Attribute (.Name x p) n ap) [e] [] pos) :=
 if h:(n="index"/\glb S x=true)/\nSt e=true/\(ap.endLine == pos.line)=true then match hg:S.g.lookup x with
  | some (.tup ds)=>(L.e S O e).bind fun a=>some ⟨fIdx (dS ds) a.1,fun X E H=>by
   obtain⟨⟨rfl,h1⟩,h2,h3⟩:=h;obtain⟨t,rfl,ht⟩:=H.g _ (jpp hg);rw[jE7];exact jL7 ht (jfb H h1).1 (a.2 X E H) (jfb H h1).2.1 rfl (by rw[jeu h2];rfl) h3 (jeu h2)⟩
  | _=>none
 else none
noncomputable def rJr(o:Expr)(n:Str)(ap:Pos)(y:Str)(p:Pos)(e:Expr)(p2 pos:Pos):QE S O (.Call (.Attribute o n ap) [.Call (.Name y p) [e] [] p2] [] pos) :=
 (L.e S O e).bind fun b=>(L.e S O o).bind fun a =>
 if h:((n="join"/\y="reversed")/\bin S y [e]=true)/\nSu o=true/\(ap.endLine == pos.line)=true then some ⟨fSm jpj a.1 b.1,fun X E H=>by
  obtain⟨⟨⟨rfl,rfl⟩,h1⟩,h2,h3⟩:=h;have z:=jjv H h1;exact jBw H.cm z.1 z.2.1 (a.2 X E H) (b.2 X E H) (jG2 h2 _) rfl (jeu z.2.2.1) h3⟩
 else none
def tnm:Expr->List Str
 | .Name x _=>[x]
 | .Tuple es _ _=>es.filterMap fun e=>match e with
  | .Name x _=>some x
  | _=>none
 | _=>[]
def cps(scope:Scope):qf:=S.N.zipIdx.filter fun p=>decide (scope.names.lookup p.1=some .free)
noncomputable def cpX(scope:Scope)(tg:Expr):Sx:=⟨tnm tg++(cps S scope).map (·.1),relabel scope ⟨S.sc,0,0,[],Str.empty,none,.none,none,0⟩,S.k,S.t,S.b,S.g,[],S.q,false⟩
def jni{S:Sx}(H:SxOk S X):SxOk (cpX S scope tg) (jch X scope (tnm tg++(cps S scope).map (·.1)) C s0 H0 ex):=⟨rfl,by show relabel _ _=_;unfold cpX relabel Env.kindOf;rw[H.sc],H.cm,H.hr,H.t,H.b,H.g,fun h=>nomatch h⟩
noncomputable def cpOk(scope:Scope)(tg iter:Expr)(a:Int):Bool:=decide (a=0)&&decide ((cpX S scope tg).N.Nodup)&&decide (scope.kind=.function)&&jsz S.N S.sc.names scope.names (cps S scope)&&jew O (cps S scope)&&nSt iter
def jq8{S:Sx}{O:List Nat}(h:cpOk S O scope tg iter a=true):a=0/\(cpX S scope tg).N.Nodup/\scope.kind=.function/\jsz S.N S.sc.names scope.names (cps S scope)=true/\jew O (cps S scope)=true/\nSt iter=true:=by
 simp_all [cpOk,Bool.and_eq_true,decide_eq_true_eq]
noncomputable def rCm(elt tg iter:Expr)(ifs:List Expr)(a:Int)(scope:Scope)(pos:Pos):QE S O (.ListComp elt [⟨tg,iter,ifs,a⟩] scope pos) :=
 (rI L S O tg iter).bind fun i=>(rG (cpX S scope tg) [] tg).bind fun g=>(rC L (cpX S scope tg) [] ifs).bind fun c=>(L.e (cpX S scope tg) [] elt).bind fun f =>
 if h:cpOk S O scope tg iter a=true then some ⟨ja8 (tnm tg).length (cps S scope) i.1 g.1 c.1 f.1,fun X E H=>by
  obtain⟨rfl,h1,h2,h3,h4,h5⟩:=jq8 h;exact jHq (own:=tnm tg) ⟨H.cm,jk5 H.N H.sc h2 h3,i.2 X E H,fun _ _ _ _=>g.2 h1 _ (jni H),fun _ _ _ _=>c.2 _ _ (jni H),fun _ _ _ _=>f.2 _ _ (jni H),h4,jCb h5⟩⟩ else none
def tyT(x:Str):Option {T:String // bootBuiltins x=some (.type T)} :=
 if h:x="bool" then some ⟨"bool",by rw[h];exact jG6⟩
 else if h:x="tuple" then some ⟨"tuple",by rw[h];exact jnb⟩
 else if h:x="int" then some ⟨"int",by rw[h];exact jE1⟩
 else if h:x="str" then some ⟨"str",by rw[h];exact jE3⟩
 else if h:x="list" then some ⟨"list",by rw[h];exact jwj⟩
 else none
noncomputable def rNm(x:Str)(pos:Pos):QE S O (.Name x pos) :=
 if h:var S (S.N.idxOf x) x=true/\O.contains (S.N.idxOf x)=false then some ⟨vR (S.N.idxOf x),fun X E H=>have z:=jqy H h.1;jpa _ h.2 z.1 z.2.1 z.2.2.1 z.2.2.2⟩
 else if h:glb S x=true then
  match hg:S.g.lookup x with
  | some (.int i)=>some ⟨fC (.int i),fun X E H=>by obtain⟨t,ht⟩:=H.g _ (jpp hg);exact jBu (jfb H h).1 ht (jfb H h).2.1⟩
  | some (.str z)=>some ⟨fC (.str z),fun X E H=>by obtain⟨t,ht⟩:=H.g _ (jpp hg);exact jBv (jfb H h).1 ht (jfb H h).2.1⟩
  | some (.tup ds)=>some ⟨fC (.tup ds),fun X E H=>by obtain⟨t,rfl,ht⟩:=H.g _ (jpp hg);exact jL6 ht (jfb H h).1 (jfb H h).2.1⟩
  | _=>if hb:S.b.contains x=true then (tyT x).bind fun T=>some ⟨fC (.ty T.1),fun X E H=>have z:=jfb H h;jHo z.1 (H.b _ (zbc.mp hb)) T.2 z.2.2 z.2.1⟩ else none
 else none
def rIx(a b:Expr)(pos:Pos):QE S O (.Subscript a b pos):=match a,b with
 | a,.Slice lo hi none p2=>(L.e S O a).bind fun a=>(rO L S O lo).bind fun l=>(rO L S O hi).bind fun u=>some ⟨fSl a.1 l.1 u.1,fun X E H=>jBx (a.2 X E H) (l.2 X E H) (u.2 X E H)⟩
 | .Name x p,b=>(L.e S O b).bind fun v =>
  if q:nSt b=true then
   if h:var S (S.N.idxOf x) x=true/\O.contains (S.N.idxOf x)=true then some ⟨f2 gIx (vR (S.N.idxOf x)) v.1,fun X E H=>have z:=jqy H h.1;jL9 _ h.2 (v.2 X E H) z.1 z.2.1 z.2.2.1 z.2.2.2 (jK6 q)⟩
   else (rNm S O x p).bind fun a=>some ⟨f2 gIx a.1 v.1,fun X E H=>jHr jhp jiz (a.2 X E H) (v.2 X E H) (jK6 q)⟩
  else none
 | a,b=>(L.e S O a).bind fun a=>(L.e S O b).bind fun v=>if q:nSt b=true then some ⟨f2 gIx a.1 v.1,fun X E H=>jHr jhp jiz (a.2 X E H) (v.2 X E H) (jK6 q)⟩ else none
def rBin(a:Expr)(op:Operator)(b:Expr)(pos:Pos):QE S O (.BinOp a op b pos):=match a,op with
 | .List es p2,.Mult=>(rA L S O es).bind fun a=>(L.e S O b).bind fun b=>some ⟨fRep a.1 b.1,fun X E H=>jHu (a.2 X E H) (b.2 X E H)⟩
 | a,op=>(L.e S O a).bind fun a=>(L.e S O b).bind fun b=>(opT (S.q.contains (pos.line*1000+pos.col)) op).bind fun g=>some ⟨f2 g.1 a.1 b.1,fun X E H=>by
  obtain⟨_,h1,h2⟩:=g.2 X;exact jQq h1 h2 (a.2 X E H) (b.2 X E H)⟩
def rE:(e:Expr)->QE S O e
 | .Name x pos=>rNm S O x pos
 | .Constant (.int i) j pos=>some ⟨fC (.int i),fun _ _ _=>js7⟩
 | .Constant (.str i) j pos=>some ⟨fC (.str i),fun _ _ _=>jMd⟩
 | .Constant (.bool i) j pos=>some ⟨fC (.bl i),fun _ _ _=>jQp⟩
 | .Constant .none j pos=>some ⟨fC .non,fun _ _ _=>jMa⟩
 | .BinOp a op b pos=>rBin L S O a op b pos
 | .UnaryOp .Not a pos=>(L.e S O a).bind fun a=>some ⟨f1 gNot a.1,fun X E H=>jMb (a.2 X E H)⟩
 | .UnaryOp .USub a pos=>(L.e S O a).bind fun a=>some ⟨f1 gNeg a.1,fun X E H=>jQt jP5 jLh (a.2 X E H)⟩
 | .BoolOp op [a] pos=>(L.e S O a).bind fun a=>some ⟨a.1,fun X E H=>jMc (a.2 X E H)⟩
 | .BoolOp .And (a::b::rest) pos=>(L.e S O a).bind fun a=>(L.e S O (.BoolOp .And (b::rest) pos)).bind fun b=>some ⟨fAnd a.1 b.1,fun X E H=>jL4 (a.2 X E H) (b.2 X E H)⟩
 | .BoolOp .Or (a::b::rest) pos=>(L.e S O a).bind fun a=>(L.e S O (.BoolOp .Or (b::rest) pos)).bind fun b=>some ⟨fOr a.1 b.1,fun X E H=>jQr (a.2 X E H) (b.2 X E H)⟩
 | .Compare a [op] [b] pos=>(L.e S O a).bind fun a=>(L.e S O b).bind fun v=>(cpT S op).bind fun g=>if h:nSt b=true then some ⟨f2 g.1 a.1 v.1,fun X E H=>by
  obtain⟨_,h1,h2⟩:=g.2 X H;exact jL5 h1 h2 (a.2 X E H) (v.2 X E H) (jJe h)⟩ else none
 | .Compare a [op,op'] [b,c] pos=>(L.e S O a).bind fun a=>(L.e S O b).bind fun b=>(L.e S O c).bind fun v=>(cpT S op).bind fun g=>(cpT S op').bind fun g'=>if h:nSt c=true then some ⟨jfa g.1 g'.1 a.1 b.1 v.1,fun X E H=>by
  obtain⟨_,h1,h2⟩:=g.2 X H;obtain⟨_,h3,h4⟩:=g'.2 X H;exact jBt h1 h2 h3 h4 (a.2 X E H) (b.2 X E H) (v.2 X E H) (jJe h)⟩ else none
 | .IfExp c a b pos=>(L.t S O c).bind fun c=>(L.e S O a).bind fun a=>(L.e S O b).bind fun b=>some ⟨fIf c.1 a.1 b.1,fun X E H=>jL8 (c.2 X E H) (a.2 X E H) (b.2 X E H)⟩
 | .Tuple es k pos=>(rA L S O es).bind fun a=>some ⟨fL ja1 a.1,fun X E H=>jFa (a.2 X E H)⟩
 | .List es pos=>(rA L S O es).bind fun a=>some ⟨fL jar a.1,fun X E H=>jE9 (a.2 X E H)⟩
 | .Subscript a b pos=>rIx L S O a b pos
 | .Call (.Name x p) [.Call (.Name y p2) [e] [] p3] [] p4=>rLs L S O x p y p2 e p3 p4
 | .Call (.Name x p) (e::es) [] pos=>rCal L S O x p e es pos
 | .Call (.Attribute (.Name x p) n ap) [e] [] pos=>match rKx L S O x p n ap e pos with
  | some r=>some r
  | none=>rMet L S O (.Name x p) n ap e pos
 | .Call (.Attribute o n ap) [.Call (.Name y p) [e] [] p2] [] pos=>match rJr L S O o n ap y p e p2 pos with
  | some r=>some r
  | none=>rMet L S O o n ap _ pos
 | .Call (.Attribute o n ap) [e] [] pos=>rMet L S O o n ap e pos
 | .ListComp elt [⟨tg,iter,ifs,a⟩] scope pos=>rCm L S O elt tg iter ifs a scope pos
 | _=>none
noncomputable def rW:(e:Expr)->QW S O e
 | .BoolOp .And [a] pos=>(L.t S O a).bind fun a=>some ⟨a.1,fun X E H=>jIa (a.2 X E H)⟩
 | .BoolOp .Or [a] pos=>(L.t S O a).bind fun a=>some ⟨a.1,fun X E H=>jMu (a.2 X E H)⟩
 | .BoolOp .And (a::b::rest) pos=>(L.t S O a).bind fun a=>(L.w S O (.BoolOp .And (b::rest) pos)).bind fun b=>some ⟨tAnd a.1 b.1,fun X E H=>jMt (a.2 X E H) (b.2 X E H)⟩
 | .BoolOp .Or (a::b::rest) pos=>(L.t S O a).bind fun a=>(L.w S O (.BoolOp .Or (b::rest) pos)).bind fun b=>some ⟨tOr a.1 b.1,fun X E H=>jQy (a.2 X E H) (b.2 X E H)⟩
 | _=>none
noncomputable def rT:(e:Expr)->QT S O e
 | .BoolOp op es pos=>(L.w S O (.BoolOp op es pos)).bind fun a=>some ⟨a.1,fun X E H=>(a.2 X E H).dt⟩
 | .UnaryOp .Not a pos=>(L.t S O a).bind fun a=>some ⟨tNot a.1,fun X E H=>jMq (a.2 X E H)⟩
 | .Compare a [op] [b] pos=>(L.e S O a).bind fun a=>(L.e S O b).bind fun v=>(cpT S op).bind fun g=>if h:nSt b=true then some ⟨t2 g.1 a.1 v.1,fun X E H=>by
  obtain⟨_,h1,h2⟩:=g.2 X H;exact jMp h1 h2 (a.2 X E H) (v.2 X E H) (jJe h)⟩ else none
 | e=>(L.e S O e).bind fun a=>if h:nTe e=true then some ⟨tTru a.1,fun X E H=>jMr (a.2 X E H) (jSi h)⟩ else none
end
noncomputable def swB(S:Sx)(x:Str)(scope:Scope)(cpos pos':Pos):Bool:=S.sc.names.lookup x == some .local&&pos'.line == cpos.line&&!(scope.names.any fun (n,k)=>n == x&&(k == .local || k == .cell))
def jAv(H:SsOk S X)(h:swB S x scope cpos pos'=b):swapsWith (.ListComp elt gs scope cpos) (some (.Name x pos')) l X.env=pure b:=by
 have e:swapsWith (.ListComp elt gs scope cpos) (some (.Name x pos')) l X.env=pure _:=rfl;rw[e,H.bk,<- h,show X.env.kindOf x=X.env.scope.names.lookup x from rfl,H.ok.sc];rfl
def jQj(h:nSt ix=true)(v:Value):assign (.Subscript (.Name x p1) ix p2) env v=(do
   let ov <- holding [v] (eval (.Name x p1) env)
   let iv <- holding [v,ov] (eval ix env)
   standAt p2
   holding [v,ov,iv] (setItem ov iv v)
   release [v,ov,iv] []):=by
 cases ix<;>first|rfl|cases h
def jR9(h:nCo e=true):swapsWithSole [t] e l env=pure false:=by
 cases e<;>first|rfl|cases h
def jSr:swappedStores [.Subscript (.Name x p1) ix p2] e env=pure none:=by
 cases e<;>rfl
abbrev QS(S:Sx)(O B:List Nat)(st:Stmt):=Option (Σ O':List Nat,{g:DSt->M Out // ∀ (X:Cx) (E:XK),SsOk S X->DS X O O' B E st g})
section
variable (L:Lv)(S:Sx)(O B:List Nat)
noncomputable def rSet(x:Str)(pos':Pos)(e:Expr)(pos:Pos):QS S O B (.Assign [.Name x pos'] e pos) :=
 if h:loc S (S.N.idxOf x) x=true/\O.contains (S.N.idxOf x)=false then match e with
  | .List es p2=>(rA L S O es).bind fun a =>
   if S.w.contains (S.N.idxOf x) then some ⟨S.N.idxOf x::O,gSet (S.N.idxOf x) (fL jar a.1),fun X E H=>have z:=jit H.ok h.1;jMo (by rw[H.ok.N];exact H.nd) (a.2 X E H.ok) h.2 z.1 z.2.1 (jEr rfl) z.2.2⟩
   else some ⟨O,gSet (S.N.idxOf x) (fL jar a.1),fun X E H=>have z:=jit H.ok h.1;jxa (by rw[H.ok.N];exact H.nd) (jE9 (a.2 X E H.ok)) h.2 z.1 z.2.1 (jEr rfl) z.2.2⟩
  | .ListComp elt [⟨tg,iter,ifs,a⟩] scope cpos =>
   (rI L S O tg iter).bind fun i=>(rG (cpX S scope tg) [] tg).bind fun g=>(rC L (cpX S scope tg) [] ifs).bind fun c=>(L.e (cpX S scope tg) [] elt).bind fun f =>
   if q:cpOk S O scope tg iter a=true then
    if u:swB S x scope cpos pos'=true then
     if S.w.contains (S.N.idxOf x) then some ⟨S.N.idxOf x::O,gSet (S.N.idxOf x) (ja8 (tnm tg).length (cps S scope) i.1 g.1 c.1 f.1),fun X E H=>by
      have z:=jit H.ok h.1;obtain⟨rfl,h1,h2,h3,h4,h5⟩:=jq8 q;exact jH4 (own:=tnm tg) (by rw[H.ok.N];exact H.nd) ⟨H.ok.cm,jk5 H.ok.N H.ok.sc h2 h3,i.2 X E H.ok,fun _ _ _ _=>g.2 h1 _ (jni H.ok),fun _ _ _ _=>c.2 _ _ (jni H.ok),fun _ _ _ _=>f.2 _ _ (jni H.ok),h4,jCb h5⟩ h.2 z.1 z.2.1 (jAv H u) z.2.2⟩
     else some ⟨O,gSet (S.N.idxOf x) (ja8 (tnm tg).length (cps S scope) i.1 g.1 c.1 f.1),fun X E H=>by
      have z:=jit H.ok h.1;obtain⟨rfl,h1,h2,h3,h4,h5⟩:=jq8 q;exact jH6 (own:=tnm tg) (by rw[H.ok.N];exact H.nd) ⟨H.ok.cm,jk5 H.ok.N H.ok.sc h2 h3,i.2 X E H.ok,fun _ _ _ _=>g.2 h1 _ (jni H.ok),fun _ _ _ _=>c.2 _ _ (jni H.ok),fun _ _ _ _=>f.2 _ _ (jni H.ok),h4,jCb h5⟩ h.2 z.1 z.2.1 (jAv H u) z.2.2⟩
    else (rCm L S O elt tg iter ifs a scope cpos).bind fun v=>some ⟨O,gSet (S.N.idxOf x) v.1,fun X E H=>have z:=jit H.ok h.1;jxa (by rw[H.ok.N];exact H.nd) (v.2 X E H.ok) h.2 z.1 z.2.1 (jAv H (Bool.not_eq_true _ ▸ u)) z.2.2⟩
   else none
  | e=>(L.e S O e).bind fun a=>if q:nCo e=true then some ⟨O,gSet (S.N.idxOf x) a.1,fun X E H=>have z:=jit H.ok h.1;jxa (by rw[H.ok.N];exact H.nd) (a.2 X E H.ok) h.2 z.1 z.2.1 (jEr q) z.2.2⟩ else none
 else none
noncomputable def rEx(e:Expr)(pos:Pos):QS S O B (.Expr e pos):=match e with
 | .Call (.Attribute (.Name x p1) n p2) [e] [] p3=>(L.e S O e).bind fun a =>
  if h:((var S (S.N.idxOf x) x=true/\O.contains (S.N.idxOf x)=true)/\nSt e=true)/\(p2.endLine == p3.line)=true then
   if q:n="append" then some ⟨O,gApp (S.N.idxOf x) a.1,fun X E H=>by
    have z:=jqy H.ok h.1.1.1;subst q;exact jMk h.1.1.2 (a.2 X E H.ok) ⟨z,rfl,by rw[jeu h.1.2];rfl,h.2,jeu h.1.2,rfl⟩⟩
   else if q:n="extend" then some ⟨O,gExt (S.N.idxOf x) a.1,fun X E H=>by
    have z:=jqy H.ok h.1.1.1;subst q;exact jMm H.nl h.1.1.2 (a.2 X E H.ok) ⟨z,rfl,by rw[jeu h.1.2];rfl,h.2,jeu h.1.2,rfl⟩⟩
   else none
  else none
 | e=>(L.e S O e).bind fun a=>if q:nCo e=true then some ⟨O,jmj a.1,fun X E H=>jH2 (a.2 X E H.ok) (jEr q)⟩ else none
def rTh(c:Expr):QT S O c:=(L.t S [] c).bind fun a=>some ⟨a.1,fun X E H=>jH8 (O':=[]) (fun _ h=>absurd h List.not_mem_nil) (a.2 X E H)⟩
def rS:(st:Stmt)->QS S O B st
 | .Assign [.Name x pos'] e pos=>rSet L S O B x pos' e pos
 | .Assign [.Subscript (.Name x p1) ix p2] e pos=>(L.e S O ix).bind fun b=>(L.e S O e).bind fun a =>
  if h:(var S (S.N.idxOf x) x=true/\O.contains (S.N.idxOf x)=true)/\nSt ix=true/\nCo e=true then some ⟨O,jFk (S.N.idxOf x) b.1 a.1,fun X E H=>by
   have z:=jqy H.ok h.1.1;exact jB3 h.1.2 (b.2 X E H.ok) (a.2 X E H.ok) z.1 z.2.1 z.2.2.1 z.2.2.2 (jQj h.2.1) (jR9 h.2.2) jSr rfl⟩ else none
 | .Expr e pos=>rEx L S O B e pos
 | .AugAssign (.Name x pos') .Add e pos=>(L.e S O e).bind fun a =>
  if h:loc S (S.N.idxOf x) x=true/\O.contains (S.N.idxOf x)=false then some ⟨O,gAug (S.N.idxOf x) gAdd a.1,fun X E H=>have z:=jit H.ok h.1;jMl (by rw[H.ok.N];exact H.nd) (iop_add.or jro) jJy (a.2 X E H.ok) h.2 z.1 z.2.1 z.2.2⟩ else none
 | .If c s1 s2 pos=>(rTh L S O c).bind fun c=>(L.s S O O B s1).bind fun a=>(L.s S O O B s2).bind fun b=>some ⟨O,gIf c.1 a.1 b.1,fun X E H=>jH3 (c.2 X E H.ok) (a.2 X E H) (b.2 X E H)⟩
 | .For tg iter body [] pos=>(rI L S O tg iter).bind fun i=>(rG S O tg).bind fun g=>(L.s S O O O body).bind fun b=>if q:nSt iter=true then some ⟨O,gFor i.1 g.1 b.1,fun X E H=>jMn H.ps H.ok.cm (i.2 X E H.ok) (g.2 H.nd X H.ok) (b.2 X E H) (jCb q)⟩ else none
 | .While c body [] pos=>(rTh L S O c).bind fun c=>(L.s S O O O body).bind fun b=>some ⟨O,ja7 c.1 b.1 FUEL,fun X E H=>jB4 H.ps (c.2 X E H.ok) (b.2 X E H)⟩
 | .Raise a b pos=>some ⟨O,gNever,fun _ _ _=>jnl⟩
 | _=>none
end
def rSs(L:Lv)(S:Sx)(O' B:List Nat):(sts:List Stmt)->(O:List Nat)->QSs S O O' B sts
 | [],O=>if h:O'.all (O.contains ·)=true then some ⟨gNx,fun X E H=>jk8 (fun i hi=>zbc.mp (List.all_eq_true.mp h i hi)) jH7⟩ else none
 | [.Return (some e) pos],O=>(L.e S [] e).bind fun a=>some ⟨gRet a.1,fun X E H=>jk8 (O':=[]) (fun _ h=>absurd h List.not_mem_nil) (jk7 (jFd (a.2 X E H.ok)))⟩
 | [.If c s1 s2 pos],O=>(rTh L S O c).bind fun c=>(L.s S O O' B s1).bind fun a=>(L.s S O O' B s2).bind fun b=>some ⟨gIf c.1 a.1 b.1,fun X E H=>jk7 (jH3 (c.2 X E H.ok) (a.2 X E H) (b.2 X E H))⟩
 | [.Raise a b pos],O=>some ⟨gNever,fun _ _ _=>jk7 jnl⟩
 | [st],O=>match rS L S O B st with
  | some a=>if h:O'.all (a.1.contains ·)=true then some ⟨a.2.1,fun X E H=>js9 (fun i hi=>zbc.mp (List.all_eq_true.mp h i hi)) (jk7 (a.2.2 X E H))⟩ else none
  | none=>(rS L S O.tail B st).bind fun a=>if h:O'.all (a.1.contains ·)=true then some ⟨a.2.1,fun X E H=>jk8 (fun _ h=>List.mem_of_mem_tail h) (js9 (fun i hi=>zbc.mp (List.all_eq_true.mp h i hi)) (jk7 (a.2.2 X E H)))⟩ else none
 | st::rest,O=>match rS L S O B st with
  | some a=>(rSs L S O' B rest a.1).bind fun r=>some ⟨gSeq a.2.1 r.1,fun X E H=>jnm (a.2.2 X E H) (r.2 X E H)⟩
  | none=>match rS L S O.tail B st with
   | some a=>(rSs L S O' B rest a.1).bind fun r=>some ⟨gSeq a.2.1 r.1,fun X E H=>jk8 (fun _ h=>List.mem_of_mem_tail h) (jnm (a.2.2 X E H) (r.2 X E H))⟩
   | none=>(rS L S [] B st).bind fun a=>(rSs L S O' B rest a.1).bind fun r=>some ⟨gSeq a.2.1 r.1,fun X E H=>jk8 (O':=[]) (fun _ h=>absurd h List.not_mem_nil) (jnm (a.2.2 X E H) (r.2 X E H))⟩
def lv0:Lv:=⟨fun _ _ _=>none,fun _ _ _=>none,fun _ _ _=>none,fun _ _ _ _ _=>none⟩
def lv:Nat->Lv
 | 0=>lv0
 | n+1=>⟨rE (lv n),rT (lv n),rW (lv n),fun S O O' B st=>rSs (lv n) S O' B st O⟩
def fst{α:Type}{p:α->Prop}(o:Option {a:α // p a}):Option α:=o.map (·.1)
def jlb{p:α->Prop}{o:Option {a:α // p a}}(h:fst o=some a):p a:=by
 cases o with
 | none=>cases h
 | some r=>cases h;exact r.2
noncomputable def fnOk(N ps:List Str)(sc:Scope):Bool:=decide (sc.kind=.function)&&!sc.isCoroutine&&!sc.isGenerator&&decide N.Nodup&&decide (N.take ps.length=ps)&&ps.all (fun x=>decide (sc.names.lookup x=some .local\/sc.names.lookup x=some .cell))&&sc.names.all fun y=>decide (y.2≠.free)
def jbj(h:fnOk N ps sc=true):FnScope N ps sc:=by
 unfold fnOk at h;simp only[Bool.and_eq_true,decide_eq_true_eq,List.all_eq_true,Bool.not_eq_true'] at h;exact⟨h.1.1.1.1.1.1,h.1.1.1.1.1.2,h.1.1.1.1.2,h.1.1.1.2,h.1.1.2,h.1.2,h.2⟩
structure Kn(P:Program)(w:World)(K:W.Frag)(mg:qa)(base:Heap)(t:List Fi)(b:List Str)(g:List (Str×D)):Prop where
 t:∀ i∈t,Cal P w K mg base i.k i.x i.n i.m
 b:∀ x∈b,mg x=none
 g:∀ p∈g,GlD K mg p.1 p.2
 nl:noL K=true
def Kn.add{t:List Fi}{b:List Str}{g:List (Str×D)}(Zq:Kn P w K mg base t b g)(h:Cal P w K mg base i.k i.x i.n i.m):Kn P w K mg base (i::t) b g :=
 ⟨fun j hj=>by rcases List.mem_cons.mp hj with rfl|hj;exact h;exact Zq.t j hj,Zq.b,Zq.g,Zq.nl⟩
def jQl{sc:Scope}(h:sc.kind=.function):(if sc.kind.isAnnotationScope then ScopeKind.function else sc.kind)=.function:=by rw[h];rfl
def zOk(wn q:List Nat)(S:FnScope N ps sc)(Zq:Kn P w K mg base t b gl)
  (hr:Room k (A.deeper (PyProof.Rows.envOfC x sc s.heap.objs.size f cdv))):SsOk ⟨N,sc,k,t,b,gl,wn,q,true⟩ (cxOf CX0 P w K mg base N x sc f cdv A outer s H E).nox :=
 ⟨⟨rfl,rfl,rfl,hr,Zq.t,Zq.b,Zq.g,fun _ _=>rfl⟩,S.nd,PassesOwn.never,jQl S.kind,Zq.nl⟩
def mZ(wn q:List Nat)(S:FnScope N ps sc)(Zq:Kn P w K mg base t b gl)
  (hr:Room k (A.deeper (PyProof.Rows.envOfC x sc s.heap.objs.size f cdv))) (h:SsOk ⟨N,sc,k,t,b,gl,wn,q,true⟩ (cxOf CX0 P w K mg base N x sc f cdv A outer s H E).nox->MSs (cxOf CX0 P w K mg base N x sc f cdv A outer s H E).nox O O' B sts g):MSs (cxOf CX0 P w K mg base N x sc f cdv A outer s H E).nox O O' B sts g:=h (zOk wn q S Zq hr)
def jwk(wn q:List Nat)(S:FnScope N ps (jab st))(hf:jot K mg x st ps)(Zq:Kn P w K mg base t b gl)
  (h:fst ((lv 40).s ⟨N,jab st,k,t,b,gl,wn,q,true⟩ [] [] [] (jaw st))=some g):Cal P w K mg base (k+1) x ps.length (mir ps.length N.length g) :=
 jE4 hf S fun f cdv A outer s H E hr=>jlb h _ E (zOk wn q S Zq hr)
section
variable {S:Sx}{X:Cx}{O O' B:List Nat}{E:XK}{e tg:Expr}{es:List Expr}{st:Stmt}
def SxOk.wi(Zq:SxOk S X):SxOk S (X.wish W):=⟨Zq.N,Zq.sc,Zq.cm,Zq.hr,Zq.t,Zq.b,Zq.g,Zq.f⟩
def vE(Zq:SxOk S X)(h:fst ((lv 40).e S O e)=some f):DE X O E e f:=jlb h X E Zq
def vA(Zq:SxOk S X)(h:fst (rA (lv 40) S O es)=some f):DA X O E es f:=jlb h X E Zq
def vT(Zq:SxOk S X)(h:fst (rTh (lv 40) S O e)=some f):DT X O E e f:=jlb h X E Zq
def vI(Zq:SxOk S X)(h:fst (rI (lv 40) S O tg e)=some f):DI X O E tg e f:=jlb h X E Zq
def vG(Zq:SsOk S X)(h:fst (rG S O tg)=some f):DG X O tg f:=jlb h Zq.nd X Zq.ok
def rQ(L:Lv)(S:Sx)(O O' B:List Nat):(st:Stmt)->Option {g:DSt->M Out // ∀ (X:Cx) (E:XK),SsOk S X->DS X O O' B E st g}
 | .Return (some e) pos=>(L.e S O e).bind fun a=>some ⟨gRet a.1,fun X E H=>jFd (a.2 X E H.ok)⟩
 | .If c s1 s2 pos=>(rTh L S O c).bind fun c=>(L.s S O O' B s1).bind fun a=>(L.s S O O' B s2).bind fun b=>some ⟨gIf c.1 a.1 b.1,fun X E H=>jH3 (c.2 X E H.ok) (a.2 X E H) (b.2 X E H)⟩
 | .Raise a b pos=>some ⟨gNever,fun _ _ _=>jnl⟩
 | st=>(rS L S O B st).bind fun a=>if h:O'.all (a.1.contains ·)=true then some ⟨a.2.1,fun X E H=>jH5 (fun i hi=>zbc.mp (List.all_eq_true.mp h i hi)) (a.2.2 X E H)⟩ else none
def vS(Zq:SsOk S X)(h:fst (rQ (lv 40) S O O' B st)=some g):DS X O O' B E st g:=jlb h X E Zq
end
def l0{α:Type}{p:α->Prop}:∀ x∈([]:List α),p x:=fun _ h=>absurd h List.not_mem_nil
def l1{α:Type}{p:α->Prop}{a:α}{l:List α}(h:p a)(r:∀ x∈l,p x):∀ x∈a::l,p x:=fun x hx=>by
 grind
end DL
namespace MyLaw
open L2 DL
abbrev LL:=List (List Nat)
abbrev oK{α:Type}(a:α):M α:=some (.ok a)
abbrev oL(a:List D):Option D:=some (.lst a)
abbrev oI(i:Int):Option D:=some (.int i)
abbrev oS(i:Str):Option D:=some (.str i)
abbrev cI(i:Int):DSt->M D:=fC (.int i)
abbrev cS(i:Str):DSt->M D:=fC (.str i)
abbrev nX(d:DSt):M Out:=oK (.nx d)
def top(i:Nat):Stmt:=PySem.Challenge.pw_apartbook_k13_books_shown_and_read.main.body.getD i (.Pass ⟨0,0,0,0⟩)
abbrev jm6:Stmt:=top 52
abbrev jbv:Stmt:=jng (top 35) 0
abbrev ja2:Stmt:=jng (top 35) 1
abbrev jca:Stmt:=jng (top 35) 3
abbrev jbd:Stmt:=jng (top 35) 2
abbrev jvt:Stmt:=top 34
abbrev jvs:Stmt:=top 24
abbrev jl4:Stmt:=top 62
abbrev jsj:Stmt:=top 59
abbrev jhv:Stmt:=top 61
abbrev jsh:Stmt:=top 60
abbrev jsi:Stmt:=top 57
abbrev jsl:Stmt:=top 55
abbrev jl5:Stmt:=top 47
abbrev jqe:Stmt:=top 46
abbrev jsg:Stmt:=top 54
abbrev jsf:Stmt:=top 85
abbrev jvr:Stmt:=top 86
abbrev jPg:Stmt:=top 87
abbrev FE:=Str×Nat×List Str
noncomputable abbrev fl:List FE:=List.append (α:=FE) (List.append (α:=FE) [("_law_mix",71,["_law_number","_law_place"]),("_law_at",70,["_law_script","_law_k"]),("_law_draw",72,["_law_script","_law_k"]),("_law_named",73,["_law_k","_law_number"]),("_law_wide",74,["_law_script","_law_k","_law_most"]),("_law_items",75,["_law_script","_law_many","_law_most"]),("_law_rules",76,["_law_script","_law_items_here","_law_many","_law_most"]),("_law_deeds",77,["_law_script","_law_items_here","_law_many"]),("_law_book",78,["_law_script","_law_counts_here"]),("_law_counts",79,["_law_script"]),("names_of",52,["parts"]),("shown_number",19,["number"]),("shown_item",64,["item"]),("with_part",28,["text","number","part"]),("shown_times",27,["number","name"]),("shown_sum",25,["names","form"]),("shown_rule",65,["items","rule"]),("shown_changes",67,["items","changes"]),("shown_deed",66,["items","deed"]),("shown_book",63,["book"]),("_law_sum",80,["_law_names","_law_form"]),("_law_shown",81,["_law_book_here"]),("refuse_unless",56,["good","line"]),("is_letter",12,["sign"]),("is_name",14,["word"]),("is_figure",13,["sign"]),("is_figures",15,["word"]),("is_number",16,["word"]),("number_of_figures",18,["word"]),("number_of",17,["word"])] [("read_item",58,["text","line"]),("end_of_piece",30,["text","place"]),("may_stand",31,["sign","wanted","depth"]),("depth_by",32,["word"]),("wanted_behind",33,["word"]),("pieces_of",29,["text"]),("times",38,["form","number"]),("is_plain",40,["form"]),("product",39,["left","right","place"]),("added",37,["left","right"]),("form_of_word",36,["names","word"]),("reckoned",34,["names","pieces"]),("read_sum",24,["names","text"]),("read_line_sum",62,["names","text","line"]),("read_rule",59,["items","text","line"]),("read_changes",61,["items","variable","text","line"]),("read_deed",60,["items","text","line"]),("read_part",57,["items","place","text","line"]),("take_line",55,["book","row","line"]),("are_named",49,["parts","most"]),("are_rules",50,["book"]),("are_deeds",51,["book"]),("is_book",48,["book"]),("value_of",26,["form","values"]),("spare",68,["book","rule","state"]),("refuse_broken",47,["book","state"]),("starts_of",53,["book"]),("check_book",46,["book"]),("read_book",54,["text"]),("_law_plain",85,["_law_found"])]) [("_law_same",86,["_law_found","_law_book_here"]),("_law_rule_line",82,["_law_names","_law_rule","_law_number"]),("_law_deed_line",83,["_law_names","_law_deed","_law_number"]),("_law_otherwise",84,["_law_script","_law_book_here"]),("law",87,["_law_script"])]
noncomputable abbrev bs:List Str:=["abs","all","bool","enumerate","int","isinstance","len","list","range","reversed","set","str","sum","tuple","zip"]
noncomputable abbrev fa(i:Nat):FE:=fl.getD i ("",0,[])
abbrev jQi(P:Program)(w:World)(K:W.Frag)(mg:qa)(base:Heap)(n:Nat)(x:Str)(t:Stmt)(N:List Str)(g:DSt->MS Out):Prop:=∀ (f:Addr) (bw:Value) (A:Around) (outer:List Env) (s:Shared) (H:Hp) (E:XK),Room n (A.deeper (PyProof.Rows.envOfC x (jab t) s.heap.objs.size f bw))->MSs (cxOf CX0 P w K mg base N x (jab t) f bw A outer s H E).nox [] [] [] (jaw t) g
structure Txt(K:W.Frag)(mg:qa):Prop where
 c_OpenSum:ClsAt K mg "OpenSum" ["star","term","term_sign","total"]
 nol:noL K=true
 fs:∀ p∈fl,jot K mg p.1 (top p.2.1) p.2.2
 b:∀ x∈bs,mg x=none
 f_OpenSum_init__:IniAt K mg "OpenSum" "OpenSum.__init__" jbv ["self","width"]
 f_OpenSum_take_factor:MetAt K mg "OpenSum" "take_factor" "OpenSum.take_factor" ja2 ["self","form"]
 f_OpenSum_whole:MetAt K mg "OpenSum" "whole" "OpenSum.whole" jca ["self"]
 f_OpenSum_take_sign:MetAt K mg "OpenSum" "take_sign" "OpenSum.take_sign" jbd ["self","sign","place"]
 g_BEGINNING:∃ t,mg "BEGINNING"=some (.str "beginning" t)
 g_BEHIND:∃ t,mg "BEHIND"=some (.str "behind" t)
 g_FACTOR:∃ t,mg "FACTOR"=some (.str "factor" t)
 g_KINDS:TupAt K mg "KINDS" ["item","rule","deed"]
 g_MOST_DEEDS:∃ t,mg "MOST_DEEDS"=some (.int 6 t)
 g_MOST_ITEMS:∃ t,mg "MOST_ITEMS"=some (.int 4 t)
 g_MOST_RULES:∃ t,mg "MOST_RULES"=some (.int 5 t)
 g_NAME_LENGTH:∃ t,mg "NAME_LENGTH"=some (.int 10 t)
 g_PART_FIGURES:∃ t,mg "PART_FIGURES"=some (.int 18 t)
 g_PART_SIZE:∃ t,mg "PART_SIZE"=some (.int 1000000000000000000 t)
def jNv(h:i<fl.length):fa i∈fl:=by
 unfold fa;rw[List.getD_eq_getElem?_getD,zax h];exact List.getElem_mem h
def Txt.f(T:Txt K mg)(i:Nat)(h:autoParam (i<fl.length) zau0._auto_1):jot K mg (fa i).1 (top (fa i).2.1) (fa i).2.2:=T.fs _ (jNv h)
section
variable {P:Program}{w:World}{K:W.Frag}{mg:qa}{base:Heap}
noncomputable abbrev gs:List (Str×D):=[("BEGINNING",.str "beginning"),("BEHIND",.str "behind"),("FACTOR",.str "factor"),("KINDS",.tup [.str "item",.str "rule",.str "deed"]),("MOST_DEEDS",.int 6),("MOST_ITEMS",.int 4),("MOST_RULES",.int 5),("NAME_LENGTH",.int 10),("PART_FIGURES",.int 18),("PART_SIZE",.int 1000000000000000000)]
def k0(T:Txt K mg):Kn P w K mg base [] bs gs:=⟨l0,T.b,l1 T.g_BEGINNING (l1 T.g_BEHIND (l1 T.g_FACTOR (l1 ⟨["item","rule","deed"],rfl,T.g_KINDS⟩ (l1 T.g_MOST_DEEDS (l1 T.g_MOST_ITEMS (l1 T.g_MOST_RULES (l1 T.g_NAME_LENGTH (l1 T.g_PART_FIGURES (l1 T.g_PART_SIZE (l0)))))))))),T.nol⟩
structure KT where
 t:List Fi
 h:∀ {P:Program} {w:World} {K:W.Frag} {mg:qa} {base:Heap},Txt K mg->Kn P w K mg base t bs gs
noncomputable def KT.a(z:KT)(i k:Nat)(g:DSt->M Out)(N:List Str)(wn q:List Nat)(h:(decide (i<fl.length)&&fnOk ((fa i).2.2++N) (fa i).2.2 (jab (top (fa i).2.1)),fst ((lv 40).s ⟨(fa i).2.2++N,jab (top (fa i).2.1),k,z.t,bs,gs,wn,q,true⟩ [] [] [] (jaw (top (fa i).2.1))))=(true,some g)):KT :=
 ⟨⟨(fa i).1,k+1,(fa i).2.2.length,mir (fa i).2.2.length ((fa i).2.2++N).length g⟩::z.t,fun T =>
  have e:=Prod.mk.inj h;have e1:=(Bool.and_eq_true _ _).mp e.1
  (z.h T).add (jwk wn q (jbj e1.2) (T.f i (of_decide_eq_true e1.1)) (z.h T) e.2)⟩
def kt0:KT:=⟨[],k0⟩
def ji5:DSt->M Out:=(gSet 0 (f2 gFdiv (vR 0) (cI 2147483648)))
def jld:DSt->M Out:=(gSeq (gIf (t2 gGe (vR 0) (f2 gPow (cI 10) (cI 12))) (gSeq (gSet 0 (f2 gSub (f2 gFdiv (vR 0) (f2 gPow (cI 10) (cI 12))) (cI 1)))
  (gSeq (gFor (jby jbt (jaa (f2 gMod (vR 1) (cI 61)) fNil)) (DL.gName 2) ji5)
  (gRet (f2 gMod (vR 0) (cI 2147483648))))) gNx)
  (gSeq (gSet 3 (f2 gMod (f2 gMulT (f2 gCat (f2 gCat (f2 gMod (vR 0) (cI 2147483629)) (vR 1)) (cI 1)) (f2 gCat (f2 gMulT (f2 gMulT (cI 8) (vR 1)) (vR 1)) (cI 48271))) (cI 2147483647)))
  (gSeq (gSet 3 (f2 gMod (f2 gMulT (vR 3) (vR 3)) (cI 2147483587)))
  (gRet (f2 gMod (f2 gMulT (vR 3) (f2 gCat (vR 3) (cI 2))) (cI 2147483579))))))
def jej:List D->M D:=mir 2 4 jld
def kt1:KT:=kt0.a 0 1 jld ["_law_turn","_law_part"] [] [] (by kernel_rfl)
def jnq:DSt->M Out:=(gSeq (gIf (t2 gLt (vR 1) (fL kLen (jaa (vR 0) fNil))) (gRet (f2 gIx (vR 0) (vR 1))) gNx)
  (gRet (f2 gCat (f2 gMulT (cI 19) (vR 1)) (cI 8))))
def je3:List D->M D:=mir 2 2 jnq
def kt2:KT:=kt1.a 1 1 jnq [] [] [] (by kernel_rfl)
def jja:DSt->M Out:=(gRet (fCall jej (jaa (fCall je3 (jaa (vR 0) (jaa (f2 gCat (cI 1) (f2 gMod (vR 1) (cI 62))) fNil))) (jaa (f2 gCat (cI 100) (vR 1)) fNil))))
def jbf:List D->M D:=mir 2 2 jja
def kt3:KT:=kt2.a 2 2 jja [] [] [] (by kernel_rfl)
def jh4:DSt->M Out:=(gSeq (gSet 2 (fL jar (jaa (cS "do") (jaa (cS "give") (jaa (cS "house") (jaa (cS "of") (jaa (cS "base") (jaa (cS "state") (jaa (cS "shares") (jaa (cS "knows") (jaa (cS "item") (jaa (cS "rule") (jaa (cS "deed") fNil)))))))))))))
  (gSeq (gIf (t2 gEq (f2 gMod (f2 gFdiv (vR 1) (cI 512)) (cI 8)) (cI 5)) (gRet (f2 gIx (vR 2) (f2 gMod (f2 gCat (f2 gFdiv (vR 1) (cI 4096)) (vR 0)) (cI 11)))) gNx)
  (gSeq (gIf (t2 gEq (f2 gMod (vR 1) (cI 2)) (cI 0)) (gRet (f2 gCat (f2 gMulT (f2 gIx (cS "abcdefg") (vR 0)) (f2 gCat (cI 1) (f2 gMod (f2 gFdiv (vR 1) (cI 2)) (cI 9)))) (f2 gIx (cS "xyz") (f2 gMod (f2 gFdiv (vR 1) (cI 18)) (cI 3))))) gNx)
  (gSeq (gSet 3 (f2 gMod (f2 gFdiv (vR 1) (cI 2)) (cI 10)))
  (gRet (f2 gCat (f2 gCat (f2 gMulT (cS "m") (vR 3)) (f2 gIx (cS "abcdefg") (vR 0))) (f2 gMulT (cS "m") (f2 gSub (cI 9) (vR 3)))))))))
def jek:List D->M D:=mir 2 4 jh4
def kt4:KT:=kt3.a 3 1 jh4 ["_law_some","_law_place"] [] [] (by kernel_rfl)
def jjc:DSt->M Out:=(gSeq (gSet 3 (fCall jbf (jaa (vR 0) (jaa (vR 1) fNil))))
  (gSeq (gIf (t2 gEq (f2 gMod (vR 3) (cI 8)) (cI 0)) (gRet (f2 gCat (f2 gSub (f2 gMod (fCall je3 (jaa (vR 0) (jaa (f2 gCat (cI 1) (f2 gMod (vR 1) (cI 62))) fNil))) (f2 gSub (f2 gMulT (cI 2) (vR 2)) (cI 1))) (vR 2)) (cI 1))) gNx)
  (gRet (f2 gSub (f2 gMod (f2 gFdiv (vR 3) (cI 8)) (cI 13)) (cI 6)))))
def jbx:List D->M D:=mir 3 4 jjc
def kt5:KT:=kt4.a 4 3 jjc ["_law_number"] [] [] (by kernel_rfl)
def jgh:DSt->M D:=(fL ja1 (jaa (fCall jek (jaa (vR 0) (jaa (vR 3) fNil))) (jaa (fCall jbx (jaa (vR 1) (jaa (f2 gCat (cI 10) (vR 0)) (jaa (vR 2) fNil)))) fNil)))
def jh3:DSt->M Out:=(gSeq (gSet 3 (fCall jbf (jaa (vR 0) (jaa (cI 1) fNil))))
  (gRet (ja8 1 [("_law_script",0),("_law_most",2),("_law_number",3)] (jby jbt (jaa (vR 1) fNil)) (DL.gName 0) tYes jgh)))
def jie:List D->M D:=mir 3 4 jh3
def kt6:KT:=kt5.a 5 4 jh3 ["_law_number"] [] [] (by kernel_rfl)
def jgi:DSt->M D:=(fCall jbx (jaa (vR 1) (jaa (f2 gCat (f2 gCat (cI 20) (f2 gMulT (cI 5) (vR 3))) (vR 0)) (jaa (vR 2) fNil))))
def jf9:DSt->M Out:=(gSet 7 (f2 gSub (vR 7) (f2 gMulT (vR 8) (f2 gIx (vR 9) (cI 1)))))
def jga:DSt->M Out:=(gSeq (gSet 6 (fL kTuple (jaa (ja8 1 [("_law_script",0),("_law_most",3),("_law_k",5)] (jby jbt (jaa (fL kLen (jaa (vR 1) fNil)) fNil)) (DL.gName 0) tYes jgi) fNil)))
  (gSeq (gSet 7 (f2 gMulT (f2 gMod (fCall jbf (jaa (vR 0) (jaa (f2 gCat (cI 50) (vR 5)) fNil))) (cI 30)) (f2 gMod (fCall jbf (jaa (vR 0) (jaa (f2 gCat (cI 60) (vR 5)) fNil))) (cI 3))))
  (gSeq (gFor (jby jbl (jaa (vR 6) (jaa (vR 1) fNil))) (jbe 8 9) jf9)
  (gApp 4 (fL ja1 (jaa (fCall jek (jaa (vR 5) (jaa (fCall jbf (jaa (vR 0) (jaa (cI 2) fNil))) fNil))) (jaa (vR 6) (jaa (vR 7) fNil))))))))
def jh5:DSt->M Out:=(gSeq (gSet 4 (fL jar fNil))
  (gSeq (gFor (jby jbt (jaa (vR 2) fNil)) (DL.gName 5) jga)
  (gRet (vR 4))))
def jif:List D->M D:=mir 4 10 jh5
def kt7:KT:=kt6.a 6 4 jh5 ["_law_rules_here","_law_k","_law_numbers","_law_rest","_law_many_times","_law_item"] [4] [] (by kernel_rfl)
def jev:DSt->M Out:=(gSeq (gSet 8 (f2 gMod (fCall jbf (jaa (vR 0) (jaa (f2 gCat (f2 gCat (cI 80) (f2 gMulT (cI 5) (vR 4))) (vR 7)) fNil))) (cI 3)))
  (gSeq (gSet 9 (f2 gMulT (fCall jbx (jaa (vR 0) (jaa (f2 gCat (f2 gCat (cI 120) (f2 gMulT (cI 5) (vR 4))) (vR 7)) (jaa (f2 gPow (cI 10) (cI 23)) fNil)))) (fL kIntT (jaa (f2 gNe (vR 8) (cI 1)) fNil))))
  (gApp 6 (fL ja1 (jaa (vR 9) (jaa (f2 gMulT (fCall jbx (jaa (vR 0) (jaa (f2 gCat (f2 gCat (cI 160) (f2 gMulT (cI 5) (vR 4))) (vR 7)) (jaa (f2 gPow (cI 10) (cI 23)) fNil)))) (fL kIntT (jaa (f2 gEq (vR 8) (cI 2)) fNil))) fNil))))))
def jf8:DSt->M Out:=(gSeq (gSet 5 (fCall jbx (jaa (vR 0) (jaa (f2 gCat (cI 70) (vR 4)) (jaa (f2 gPow (cI 10) (cI 23)) fNil)))))
  (gSeq (gSet 6 (fL jar fNil))
  (gSeq (gFor (jby jbt (jaa (fL kLen (jaa (vR 1) fNil)) fNil)) (DL.gName 7) jev)
  (gSeq (gSet 10 (f2 gCat (vR 5) (f2 gMod (fCall jbf (jaa (vR 0) (jaa (f2 gCat (cI 200) (vR 4)) fNil))) (cI 9))))
  (gApp 3 (fL ja1 (jaa (fCall jek (jaa (vR 4) (jaa (fCall jbf (jaa (vR 0) (jaa (cI 3) fNil))) fNil))) (jaa (vR 5) (jaa (vR 10) (jaa (fL kTuple (jaa (vR 6) fNil)) fNil))))))))))
def jh2:DSt->M Out:=(gSeq (gSet 3 (fL jar fNil))
  (gSeq (gFor (jby jbt (jaa (vR 2) fNil)) (DL.gName 4) jf8)
  (gRet (vR 3))))
def jid:List D->M D:=mir 3 11 jh2
def kt8:KT:=kt7.a 7 4 jh2 ["_law_deeds_here","_law_k","_law_low","_law_changes","_law_j","_law_some","_law_one","_law_high"] [3,6] [] (by kernel_rfl)
def ji9:DSt->M Out:=(gSeq (gSet 2 (f2 gMod (fCall jej (jaa (fCall je3 (jaa (vR 0) (jaa (cI 0) fNil))) (jaa (cI 2) fNil))) (cI 2)))
  (gSeq (gSet 3 (fCall jie (jaa (vR 0) (jaa (f2 gIx (vR 1) (cI 0)) (jaa (f2 gIx (fL jar (jaa (cI 7) (jaa (f2 gPow (cI 10) (cI 23)) fNil))) (vR 2)) fNil)))))
  (gRet (fL ja1 (jaa (vR 3) (jaa (fCall jif (jaa (vR 0) (jaa (vR 3) (jaa (f2 gIx (vR 1) (cI 1)) (jaa (f2 gIx (fL jar (jaa (f2 gPow (cI 10) (cI 23)) (jaa (cI 7) fNil))) (vR 2)) fNil))))) (jaa (fCall jid (jaa (vR 0) (jaa (vR 3) (jaa (f2 gIx (vR 1) (cI 2)) fNil)))) fNil)))))))
def jhd:List D->M D:=mir 2 4 ji9
def kt9:KT:=kt8.a 8 5 ji9 ["_law_big","_law_items_here"] [] [] (by kernel_rfl)
def jgr:DSt->M Out:=(gSeq (gSet 1 (fCall jej (jaa (fCall je3 (jaa (vR 0) (jaa (cI 0) fNil))) (jaa (cI 1) fNil))))
  (gRet (fL jar (jaa (f2 gCat (cI 1) (f2 gMod (vR 1) (cI 4))) (jaa (f2 gCat (cI 1) (f2 gMod (f2 gFdiv (vR 1) (cI 4)) (cI 5))) (jaa (f2 gCat (cI 1) (f2 gMod (f2 gFdiv (vR 1) (cI 20)) (cI 6))) fNil))))))
def jgv:List D->M D:=mir 1 2 jgr
def kt10:KT:=kt9.a 9 2 jgr ["_law_number"] [] [] (by kernel_rfl)
def jsm:FnScope ["parts"] ["parts"] (jab jm6):=jbj (by kernel_rfl)
def jc8:DSt->M D:=(f2 gIx (vR 0) (cI 0))
def jg9:DSt->M Out:=(gRet (ja8 1 [] (jbs (vR 0)) (DL.gName 0) tYes jc8))
def jcd:List D->M D:=mir 1 1 jg9
def kt11:KT:=kt10.a 10 1 jg9 [] [] [] (by kernel_rfl)
def jfp:List D->MS D:=mirE 1 1 (eRet (jFs 1 [] (lF (vR 0)) (DL.gName 0) tYes jc8))
def jp1(T:Txt K mg):CalE P w K mg base 2 "names_of" 1 jfp:=jc9 (O':=[]) (T.f 10) jsm (fun _ _ _ _ _ _ _ hr=>jai (jhs (jC0 (own:=["part"]) (caps:=[]) rfl (jk5 (N:=["parts"]) (osc:=jab jm6) rfl rfl rfl (by decide +kernel)) (jae (jpa 0)) (fun _ _ _ _=>(jrc (i:=0) (show (["part"]:List Str).Nodup from by decide +kernel))) (fun _ _ _ _=>jw4) (fun _ _ _ _=>(jHr jhp jiz (jpa 0) js7)))))
def jcc:DSt->M Bool:=(t2 gGe (vR 2) (cI 1000000000000000000))
def jb2:DSt->M Out:=(gSeq (gApp 1 (fSm gZfill (fL kStr (jaa (f2 gMod (vR 2) (cI 1000000000000000000)) fNil)) (cI 18)))
  (gSet 2 (f2 gFdiv (vR 2) (cI 1000000000000000000))))
def jci:DSt->M Out:=(gSeq (gSet 1 (fL jar fNil))
  (gSeq (gSet 2 (fL kAbs (jaa (vR 0) fNil)))
  (gSeq (ja7 jcc jb2 FUEL)
  (gSeq (gApp 1 (fL kStr (jaa (vR 2) fNil)))
  (gSeq (gIf (t2 gLt (vR 0) (cI 0)) (gApp 1 (cS "-")) gNx)
  (gRet (fSm jpj (cS "") (vR 1))))))))
def jaz:List D->M D:=mir 1 3 jci
def kt12:KT:=kt11.a 11 1 jci ["parts","left"] [1] [] (by kernel_rfl)
def jj2:DSt->M Out:=(gRet (f2 gCat (f2 gCat (f2 gCat (fC (.str "item ")) (f2 gIx (vR 0) (cI 0))) (fC (.str " "))) (fCall jaz (jaa (f2 gIx (vR 0) (cI 1)) fNil))))
def jj7:List D->M D:=mir 1 1 jj2
def kt13:KT:=kt12.a 12 2 jj2 [] [] [] (by kernel_rfl)
noncomputable def jee:DSt->M Out:=(gSeq (gIf (t2 gEq (vR 0) (cS "")) (gRet (fIf (t2 gLt (vR 1) (cI 0)) (f2 gCat (cS "-") (vR 2)) (vR 2))) gNx)
  (gRet (f2 gCat (f2 gCat (vR 0) (fIf (t2 gLt (vR 1) (cI 0)) (fC (.str " - ")) (fC (.str " + ")))) (vR 2))))
def jfv:List D->M D:=mir 3 3 jee
def kt14:KT:=kt13.a 13 1 jee [] [] [] (by kernel_rfl)
def jfm:DSt->M Out:=(gRet (fIf (t2 gEq (vR 0) (cI 1)) (vR 1) (f2 gCat (f2 gCat (fCall jaz (jaa (vR 0) fNil)) (cS "*")) (vR 1))))
def jft:List D->M D:=mir 2 2 jfm
def kt15:KT:=kt14.a 14 2 jfm [] [] [] (by kernel_rfl)
def jf7:DSt->M Out:=(gIf (t2 gNe (vR 4) (cI 0)) (gSet 2 (fCall jfv (jaa (vR 2) (jaa (vR 4) (jaa (fCall jft (jaa (fL kAbs (jaa (vR 4) fNil)) (jaa (vR 3) fNil))) fNil))))) gNx)
def jfl:DSt->M Out:=(gSeq (gSet 2 (cS ""))
  (gSeq (gFor (jby jbl (jaa (vR 0) (jaa (f2 gIx (vR 1) (cI 0)) fNil))) (jbe 3 4) jf7)
  (gSeq (gIf (t2 gNe (f2 gIx (vR 1) (cI 1)) (cI 0)) (gSet 2 (fCall jfv (jaa (vR 2) (jaa (f2 gIx (vR 1) (cI 1)) (jaa (fCall jaz (jaa (fL kAbs (jaa (f2 gIx (vR 1) (cI 1)) fNil)) fNil)) fNil))))) gNx)
  (gRet (fIf (t2 gEq (vR 2) (cS "")) (cS "0") (vR 2))))))
def jfs:List D->M D:=mir 2 5 jfl
def kt16:KT:=kt15.a 15 3 jfl ["text","name","coefficient"] [] [] (by kernel_rfl)
def jj3:DSt->M Out:=(gRet (f2 gCat (f2 gCat (f2 gCat (f2 gCat (fC (.str "rule ")) (f2 gIx (vR 1) (cI 0))) (fC (.str ": "))) (fCall jfs (jaa (vR 0) (jaa (fL ja1 (jaa (f2 gIx (vR 1) (cI 1)) (jaa (f2 gIx (vR 1) (cI 2)) fNil))) fNil)))) (fC (.str " >= 0"))))
def jj8:List D->M D:=mir 2 2 jj3
def kt17:KT:=kt16.a 16 4 jj3 [] [] [] (by kernel_rfl)
def jdp:DSt->M Out:=(gIf (t2 gNe (vR 4) (fL ja1 (jaa (cI 0) (jaa (cI 0) fNil)))) (gApp 2 (f2 gCat (f2 gCat (vR 3) (fC (.str " "))) (fCall jfs (jaa (fL jar (jaa (cS "n") fNil)) (jaa (fL ja1 (jaa (fL ja1 (jaa (f2 gIx (vR 4) (cI 0)) fNil)) (jaa (f2 gIx (vR 4) (cI 1)) fNil))) fNil))))) gNx)
def jec:DSt->M Out:=(gSeq (gSet 2 (fL jar fNil))
  (gSeq (gFor (jby jbl (jaa (vR 0) (jaa (vR 1) fNil))) (jbe 3 4) jdp)
  (gRet (fIf (t2 gEq (vR 2) (fL jar fNil)) (cS "-") (fSm jgp (fC (.str ", ")) (vR 2))))))
def jer:List D->M D:=mir 2 5 jec
def kt18:KT:=kt17.a 17 4 jec ["parts","item","change"] [2] [] (by kernel_rfl)
def jj1:DSt->M Out:=(gSeq (gSet 2 (f2 gCat (f2 gCat (f2 gCat (f2 gCat (f2 gCat (fC (.str "deed ")) (f2 gIx (vR 1) (cI 0))) (fC (.str " n "))) (fCall jaz (jaa (f2 gIx (vR 1) (cI 1)) fNil))) (fC (.str " "))) (fCall jaz (jaa (f2 gIx (vR 1) (cI 2)) fNil))))
  (gRet (f2 gCat (f2 gCat (vR 2) (fC (.str ": "))) (fCall jer (jaa (vR 0) (jaa (f2 gIx (vR 1) (cI 3)) fNil))))))
def jj6:List D->M D:=mir 2 3 jj1
def kt19:KT:=kt18.a 18 5 jj1 ["head"] [] [] (by kernel_rfl)
def jil:DSt->M D:=(fCall jj7 (jaa (vR 0) fNil))
def jim:DSt->M D:=(fCall jj8 (jaa (vR 1) (jaa (vR 0) fNil)))
def jin:DSt->M D:=(fCall jj6 (jaa (vR 1) (jaa (vR 0) fNil)))
def jgt:DSt->M Out:=(gSeq (gSet 1 (fCall jcd (jaa (f2 gIx (vR 0) (cI 0)) fNil)))
  (gSeq (gSet 2 (ja8 1 [] (jbs (f2 gIx (vR 0) (cI 0))) (DL.gName 0) tYes jil))
  (gSeq (gExt 2 (ja8 1 [("items",1)] (jbs (f2 gIx (vR 0) (cI 1))) (DL.gName 0) tYes jim))
  (gSeq (gExt 2 (ja8 1 [("items",1)] (jbs (f2 gIx (vR 0) (cI 2))) (DL.gName 0) tYes jin))
  (gRet (fSm jgp (cS "\n") (vR 2)))))))
def jgz:List D->M D:=mir 1 3 jgt
def kt20:KT:=kt19.a 19 6 jgt ["items","rows"] [2] [] (by kernel_rfl)
def jg8:DSt->M Out:=(gSeq (gSet 5 (fL kStr (jaa (fL kAbs (jaa (vR 4) fNil)) fNil)))
  (gSeq (gIf (DL.tAnd (t2 gNe (vR 3) (cS "")) (t2 gEq (fL kAbs (jaa (vR 4) fNil)) (cI 1))) (gSet 5 (vR 3)) (gIf (t2 gNe (vR 3) (cS "")) (gSet 5 (f2 gCat (f2 gCat (vR 5) (cS "*")) (vR 3))) gNx))
  (gIf (DL.tAnd (t2 gNe (vR 4) (cI 0)) (t2 gEq (vR 2) (fL jar fNil))) (gApp 2 (f2 gCat (f2 gMulT (cS "-") (fL kIntT (jaa (f2 gLt (vR 4) (cI 0)) fNil))) (vR 5))) (gIf (t2 gNe (vR 4) (cI 0)) (gApp 2 (f2 gCat (f2 gIx (fL jar (jaa (fC (.str " + ")) (jaa (fC (.str " - ")) fNil))) (fL kIntT (jaa (f2 gLt (vR 4) (cI 0)) fNil))) (vR 5))) gNx))))
def jle:DSt->M Out:=(gSeq (gSet 2 (fL jar fNil))
  (gSeq (gFor (jby jbl (jaa (f2 gCat (vR 0) (fL jar (jaa (cS "") fNil))) (jaa (f2 gCatE (f2 gIx (vR 1) (cI 0)) (fL ja1 (jaa (f2 gIx (vR 1) (cI 1)) fNil))) fNil))) (jbe 3 4) jg8)
  (gRet (f2 gCat (fSm jgp (cS "") (vR 2)) (f2 gMulT (cS "0") (fL kIntT (jaa (f2 gEq (vR 2) (fL jar fNil)) fNil)))))))
def jc1:List D->M D:=mir 2 6 jle
def kt21:KT:=kt20.a 20 1 jle ["_law_pieces","_law_name","_law_many","_law_piece"] [2] [352055] (by kernel_rfl)
def jjx:DSt->M D:=(f2 gIx (vR 0) (cI 0))
def jgl:DSt->M D:=(f2 gCat (f2 gCat (f2 gCat (fC (.str "item ")) (vR 0)) (fC (.str " "))) (fL kStr (jaa (vR 1) fNil)))
def jju:DSt->M Out:=(gApp 2 (f2 gCat (f2 gCat (f2 gCat (f2 gCat (fC (.str "rule ")) (vR 3)) (fC (.str ": "))) (fCall jc1 (jaa (vR 1) (jaa (fL ja1 (jaa (vR 4) (jaa (vR 5) fNil))) fNil)))) (fC (.str " >= 0"))))
def jgb:DSt->M Out:=(gIf (t2 gNe (vR 11) (fL ja1 (jaa (cI 0) (jaa (cI 0) fNil)))) (gApp 9 (f2 gCat (f2 gCat (vR 10) (fC (.str " "))) (fCall jc1 (jaa (fL jar (jaa (cS "n") fNil)) (jaa (fL ja1 (jaa (fL ja1 (jaa (f2 gIx (vR 11) (cI 0)) fNil)) (jaa (f2 gIx (vR 11) (cI 1)) fNil))) fNil))))) gNx)
def jgc:DSt->M Out:=(gSeq (gSet 9 (fL jar fNil))
  (gSeq (gFor (jby jbl (jaa (vR 1) (jaa (vR 8) fNil))) (jbe 10 11) jgb)
  (gSeq (gSet 12 (f2 gCat (fSm jgp (fC (.str ", ")) (vR 9)) (f2 gMulT (cS "-") (fL kIntT (jaa (f2 gEq (vR 9) (fL jar fNil)) fNil)))))
  (gApp 2 (f2 gCat (f2 gCat (f2 gCat (f2 gCat (f2 gCat (f2 gCat (f2 gCat (fC (.str "deed ")) (vR 3)) (fC (.str " n "))) (fL kStr (jaa (vR 6) fNil))) (fC (.str " "))) (fL kStr (jaa (vR 7) fNil))) (fC (.str ": "))) (vR 12))))))
def jfk:DSt->M Out:=(gSeq (gSet 1 (ja8 1 [] (jbs (f2 gIx (vR 0) (cI 0))) (DL.gName 0) tYes jjx))
  (gSeq (gSet 2 (ja8 2 [] (jbs (f2 gIx (vR 0) (cI 0))) (jbe 0 1) tYes jgl))
  (gSeq (gFor (jbs (f2 gIx (vR 0) (cI 1))) (ju3 3 4 5) jju)
  (gSeq (gFor (jbs (f2 gIx (vR 0) (cI 2))) (jxk 3 6 7 8) jgc)
  (gRet (fSm jgp (cS "\n") (vR 2)))))))
def jig:List D->M D:=mir 1 13 jfk
def kt22:KT:=kt21.a 21 2 jfk ["_law_names","_law_lines","_law_name","_law_numbers","_law_rest","_law_low","_law_high","_law_changes","_law_words","_law_item","_law_change","_law_tail"] [2,9] [] (by kernel_rfl)
def jgs:DSt->M Out:=(gIf (DL.tNot (tTru (vR 0))) gNever gNx)
def jag:List D->M D:=mir 2 2 jgs
def kt23:KT:=kt22.a 22 1 jgs [] [] [] (by kernel_rfl)
def jdv(T:Txt K mg):Cal P w K mg base 2 "refuse_unless" 2 jag  :=(kt23.h T).t _ zaa
def jh1:DSt->M Out:=(gRet (jfa gLe gLe (cS "a") (vR 0) (cS "z")))
def ja6:List D->M D:=mir 1 1 jh1
def kt24:KT:=kt23.a 23 1 jh1 [] [] [] (by kernel_rfl)
def ji6:DSt->M D:=(fCall ja6 (jaa (vR 0) fNil))
def jis:DSt->M Out:=(gRet (fAnd (jfa gLe gLe (cI 1) (fL kLen (jaa (vR 0) fNil)) (cI 10)) (fL kAll (jaa (ja8 1 [] (jnr (vR 0)) (DL.gName 0) tYes ji6) fNil))))
def jc0:List D->M D:=mir 1 1 jis
def kt25:KT:=kt24.a 24 2 jis [] [] [36078] (by kernel_rfl)
def jh0:DSt->M Out:=(gRet (jfa gLe gLe (cS "0") (vR 0) (cS "9")))
def jb5:List D->M D:=mir 1 1 jh0
def kt26:KT:=kt25.a 25 1 jh0 [] [] [] (by kernel_rfl)
def jcv:DSt->M D:=(fCall jb5 (jaa (vR 0) fNil))
noncomputable def je0:DSt->M Out:=(gSeq (gIf (DL.tOr (t2 gEq (vR 0) (cS "")) (DL.tNot (tTru (fL kAll (jaa (ja8 1 [] (jnr (vR 0)) (DL.gName 0) tYes jcv) fNil))))) (gRet (fC (.bl false))) gNx)
  (gRet (fOr (f2 gEq (vR 0) (cS "0")) (f1 gNot (fSm gStarts (vR 0) (cS "0"))))))
def je2:List D->M D:=mir 1 1 je0
def kt27:KT:=kt26.a 26 2 je0 [] [] [38058] (by kernel_rfl)
noncomputable def jfj:DSt->M Out:=(gSeq (gIf (tTru (fSm gStarts (vR 0) (cS "-"))) (gRet (fAnd (f2 gNe (vR 0) (cS "-0")) (fCall je2 (jaa (fSl (vR 0) (jdn (cI 1)) oNone) fNil)))) gNx)
  (gRet (fCall je2 (jaa (vR 0) fNil))))
def jdd:List D->M D:=mir 1 1 jfj
def kt28:KT:=kt27.a 27 3 jfj [] [] [] (by kernel_rfl)
def jcf:DSt->M Out:=(gSet 2 (f2 gCat (f2 gMulT (vR 2) (cI 1000000000000000000)) (fL kIntT (jaa (fSl (vR 0) (jdn (vR 3)) (jdn (f2 gCat (vR 3) (cI 18)))) fNil))))
def jbn:DSt->M Out:=(gSeq (gSet 1 (f2 gMod (fL kLen (jaa (vR 0) fNil)) (cI 18)))
  (gSeq (gSet 2 (fIf (t2 gEq (vR 1) (cI 0)) (cI 0) (fL kIntT (jaa (fSl (vR 0) oNone (jdn (vR 1))) fNil))))
  (gSeq (gFor (jby jd2 (jaa (vR 1) (jaa (fL kLen (jaa (vR 0) fNil)) (jaa (cI 18) fNil)))) (DL.gName 3) jcf)
  (gRet (vR 2)))))
def jco:List D->M D:=mir 1 4 jbn
def kt29:KT:=kt28.a 28 1 jbn ["first","number","place"] [] [] (by kernel_rfl)
def jdb:DSt->M Out:=(gSeq (gIf (tTru (fSm gStarts (vR 0) (cS "-"))) (gRet (f1 gNeg (fCall jco (jaa (fSl (vR 0) (jdn (cI 1)) oNone) fNil)))) gNx)
  (gRet (fCall jco (jaa (vR 0) fNil))))
def jbp:List D->M D:=mir 1 1 jdb
def kt30:KT:=kt29.a 29 2 jdb [] [] [] (by kernel_rfl)
def jh8:DSt->M Out:=(gSeq (gSet 2 (fSm gSplit (vR 0) (fC (.str " "))))
  (gSeq (jmj (fCall jag (jaa (fAnd (f2 gEq (fL kLen (jaa (vR 2) fNil)) (cI 2)) (fAnd (fCall jc0 (jaa (f2 gIx (vR 2) (cI 0)) fNil)) (fCall jdd (jaa (f2 gIx (vR 2) (cI 1)) fNil)))) (jaa (vR 1) fNil))))
  (gRet (fL ja1 (jaa (f2 gIx (vR 2) (cI 0)) (jaa (fCall jbp (jaa (f2 gIx (vR 2) (cI 1)) fNil)) fNil))))))
def jeo:List D->M D:=mir 2 3 jh8
def kt31:KT:=kt30.a 30 4 jh8 ["words"] [] [] (by kernel_rfl)
def ja3:DSt->M Bool:=(DL.tAnd (t2 gLt (vR 2) (fL kLen (jaa (vR 0) fNil))) (DL.tAnd (tTru (fCall ja6 (jaa (f2 gIx (vR 0) (vR 2)) fNil))) (t2 gLt (f2 gSub (vR 2) (vR 1)) (cI 10))))
def jct:DSt->M Out:=(gAug 2 gAdd (cI 1))
def ja5:DSt->M Bool:=(DL.tAnd (t2 gLt (vR 2) (fL kLen (jaa (vR 0) fNil))) (tTru (fCall jb5 (jaa (f2 gIx (vR 0) (vR 2)) fNil))))
def jcu:DSt->M Out:=(gAug 2 gAdd (cI 1))
def jdg:DSt->M Out:=(gSeq (gSet 2 (f2 gCat (vR 1) (cI 1)))
  (gSeq (gIf (tTru (fCall ja6 (jaa (f2 gIx (vR 0) (vR 1)) fNil))) (ja7 ja3 jct FUEL) (gIf (DL.tAnd (tTru (fCall jb5 (jaa (f2 gIx (vR 0) (vR 1)) fNil))) (t2 gNe (f2 gIx (vR 0) (vR 1)) (cS "0"))) (ja7 ja5 jcu FUEL) gNx))
  (gRet (vR 2))))
def jdj:List D->M D:=mir 2 3 jdg
def kt32:KT:=kt31.a 31 2 jdg ["end"] [] [] (by kernel_rfl)
noncomputable def jd9:DSt->M Out:=(gSeq (gIf (t2 gEq (vR 1) (cS "behind")) (gRet (fOr (f2 gIn (vR 0) (fL ja1 (jaa (cS "+") (jaa (cS "-") (jaa (cS "*") fNil))))) (fAnd (f2 gEq (vR 0) (fC (.str ")"))) (f2 gGt (vR 2) (cI 0))))) gNx)
  (gSeq (gIf (t2 gEq (vR 0) (cS "-")) (gRet (f2 gEq (vR 1) (cS "beginning"))) gNx)
  (gRet (fOr (f2 gEq (vR 0) (fC (.str "("))) (fOr (fCall ja6 (jaa (vR 0) fNil)) (fCall jb5 (jaa (vR 0) fNil)))))))
def jax:List D->M D:=mir 3 3 jd9
def kt33:KT:=kt32.a 32 2 jd9 [] [] [] (by kernel_rfl)
def ji7:DSt->M Out:=(gSeq (gIf (t2 gEq (vR 0) (fC (.str "("))) (gRet (cI 1)) gNx)
  (gRet (fIf (t2 gEq (vR 0) (fC (.str ")"))) (f1 gNeg (cI 1)) (cI 0))))
def jhb:List D->M D:=mir 1 1 ji7
def kt34:KT:=kt33.a 33 1 ji7 [] [] [] (by kernel_rfl)
noncomputable def jed:DSt->M Out:=(gSeq (gIf (t2 gEq (vR 0) (fC (.str "("))) (gRet (cS "beginning")) gNx)
  (gRet (fIf (t2 gIn (vR 0) (fL ja1 (jaa (cS "+") (jaa (cS "-") (jaa (cS "*") fNil))))) (cS "factor") (cS "behind"))))
def jc2:List D->M D:=mir 1 1 jed
def kt35:KT:=kt34.a 34 1 jed [] [] [] (by kernel_rfl)
def ja4:DSt->M Bool:=(t2 gLt (vR 4) (fL kLen (jaa (vR 0) fNil)))
def ja0:DSt->M Out:=(gSeq (gSet 5 (fCall jdj (jaa (vR 0) (jaa (vR 4) fNil))))
  (gSeq (gSet 6 (fSl (vR 0) (jdn (vR 4)) (jdn (vR 5))))
  (gSeq (gIf (t2 gNe (vR 6) (fC (.str " "))) (gSeq (gIf (DL.tNot (tTru (fCall jax (jaa (f2 gIx (vR 6) (cI 0)) (jaa (vR 3) (jaa (vR 2) fNil)))))) gNever gNx)
  (gSeq (gApp 1 (fL ja1 (jaa (vR 6) (jaa (vR 4) fNil))))
  (gSeq (gAug 2 gAdd (fCall jhb (jaa (vR 6) fNil)))
  (gSet 3 (fCall jc2 (jaa (vR 6) fNil)))))) gNx)
  (gSet 4 (vR 5)))))
def jlf:DSt->M Out:=(gSeq (gSet 1 (fL jar fNil))
  (gSeq (gSet 2 (cI 0))
  (gSeq (gSet 3 (cS "beginning"))
  (gSeq (gSet 4 (cI 0))
  (gSeq (ja7 ja4 ja0 FUEL)
  (gSeq (gIf (DL.tOr (t2 gNe (vR 3) (cS "behind")) (t2 gGt (vR 2) (cI 0))) gNever gNx)
  (gRet (vR 1))))))))
def jfq:List D->M D:=mir 1 7 jlf
def kt36:KT:=kt35.a 35 3 jlf ["pieces","depth","wanted","place","end","word"] [1] [] (by kernel_rfl)
def jff:FnScope ["self","width"] ["self","width"] (jab jbv):=jbj (by kernel_rfl)
noncomputable def jf0:DSt->MS Out:=(eSeq (ePut ["OpenSum"] "total" (lF (vR 0)) (lF (fL ja1 (jaa (fL kTuple (jaa (fRep (jaa (cI 0) fNil) (vR 1)) fNil)) (jaa (cI 0) fNil)))))
  (eSeq (ePut ["OpenSum"] "term" (lF (vR 0)) (mGet ["OpenSum"] "total" (lF (vR 0))))
  (eSeq (ePut ["OpenSum"] "term_sign" (lF (vR 0)) (lF (cI 1)))
  (ePut ["OpenSum"] "star" (lF (vR 0)) (lF (fC .non))))))
def jaq:List D->MS D:=mirE 2 2 jf0
def jfd(T:Txt K mg):IniE P w K mg base 2 "OpenSum" 2 jaq:=jIn (O':=[]) T.f_OpenSum_init__ jff fun _ _ _ _ _ _ _ hr =>
 mZ [] [] jff (kt36.h T) hr fun Zq =>
 (jac (jhr (T.c_OpenSum.is (by decide +kernel)) (jae (vE Zq.ok (by kernel_rfl))) (jae (vE Zq.ok (by kernel_rfl))))
  (jac (jhr (T.c_OpenSum.is (by decide +kernel)) (jae (vE Zq.ok (by kernel_rfl))) (jls (T.c_OpenSum.is (by decide +kernel)) (jae (vE Zq.ok (by kernel_rfl)))))
  (jac (jhr (T.c_OpenSum.is (by decide +kernel)) (jae (vE Zq.ok (by kernel_rfl))) (jae (vE Zq.ok (by kernel_rfl))))
  (jai (jhr (T.c_OpenSum.is (by decide +kernel)) (jae (vE Zq.ok (by kernel_rfl))) (jae (vE Zq.ok (by kernel_rfl))))))))
def jnc:DSt->M D:=(f2 gMulT (vR 0) (vR 1))
def jrl:DSt->M Out:=(gRet (fL ja1 (jaa (fL kTuple (jaa (ja8 1 [("number",1)] (jbs (f2 gIx (vR 0) (cI 0))) (DL.gName 0) tYes jnc) fNil)) (jaa (f2 gMulT (f2 gIx (vR 0) (cI 1)) (vR 1)) fNil))))
def jjk:List D->M D:=mir 2 2 jrl
def kt37:KT:=kt36.a 36 1 jrl [] [] [] (by kernel_rfl)
def jC8(T:Txt K mg):Cal P w K mg base 2 "times" 2 jjk  :=(kt37.h T).t _ zaa
def jk2:DSt->M D:=(f2 gEq (vR 0) (cI 0))
def ji8:DSt->M Out:=(gRet (fL kAll (jaa (ja8 1 [] (jbs (f2 gIx (vR 0) (cI 0))) (DL.gName 0) tYes jk2) fNil)))
def jhc:List D->M D:=mir 1 1 ji8
def kt38:KT:=kt37.a 37 1 ji8 [] [] [] (by kernel_rfl)
def jlg:DSt->M Out:=(gSeq (gIf (tTru (fCall jhc (jaa (vR 1) fNil))) (gRet (fCall jjk (jaa (vR 0) (jaa (f2 gIx (vR 1) (cI 1)) fNil)))) gNx)
  (gSeq (gIf (tTru (fCall jhc (jaa (vR 0) fNil))) (gRet (fCall jjk (jaa (vR 1) (jaa (f2 gIx (vR 0) (cI 1)) fNil)))) gNx)
  gNever))
def jiv:List D->M D:=mir 3 3 jlg
def kt39:KT:=kt38.a 38 2 jlg [] [] [] (by kernel_rfl)
def jvj(T:Txt K mg):Cal P w K mg base 3 "product" 3 jiv  :=(kt39.h T).t _ zaa
def jc7:FnScope ["self","form"] ["self","form"] (jab ja2):=jbj (by kernel_rfl)
def jdm:DSt->MS Out:=(eIf (mB (m2 gIs (mGet ["OpenSum"] "star" (lF (vR 0))) (lF (fC .non)))) (ePut ["OpenSum"] "term" (lF (vR 0)) (jgu jjk (jbh (lF (vR 1)) (jbh (mGet ["OpenSum"] "term_sign" (lF (vR 0))) (lF fNil))))) (ePut ["OpenSum"] "term" (lF (vR 0)) (jgu jiv (jbh (mGet ["OpenSum"] "term" (lF (vR 0))) (jbh (lF (vR 1)) (jbh (mGet ["OpenSum"] "star" (lF (vR 0))) (lF fNil)))))))
def jan:List D->MS D:=mirE 2 2 jdm
def jc6(T:Txt K mg):MetE P w K mg base 4 "OpenSum" "take_factor" 2 jan:=jrz (O':=[]) T.f_OpenSum_take_factor jc7 fun _ _ _ _ _ _ _ hr =>
 mZ [] [] jc7 (kt39.h T) hr fun Zq =>
 (jai (jlv (jty jF3 jF5 (jls (T.c_OpenSum.is (by decide +kernel)) (jae (vE Zq.ok (by kernel_rfl)))) (jae (vE Zq.ok (by kernel_rfl))) (jpz _)) (jai (jhr (T.c_OpenSum.is (by decide +kernel)) (jae (vE Zq.ok (by kernel_rfl))) (jhe (jC8 T) (hr.m rfl) (jay (jae (vE Zq.ok (by kernel_rfl))) (jay (jls (T.c_OpenSum.is (by decide +kernel)) (jae (vE Zq.ok (by kernel_rfl)))) (jak (vA Zq.ok (by kernel_rfl)))))))) (jai (jhr (T.c_OpenSum.is (by decide +kernel)) (jae (vE Zq.ok (by kernel_rfl))) (jhe (jvj T) (hr.m rfl) (jay (jls (T.c_OpenSum.is (by decide +kernel)) (jae (vE Zq.ok (by kernel_rfl)))) (jay (jae (vE Zq.ok (by kernel_rfl))) (jay (jls (T.c_OpenSum.is (by decide +kernel)) (jae (vE Zq.ok (by kernel_rfl)))) (jak (vA Zq.ok (by kernel_rfl)))))))))))
def jsy:DSt->M D:=(f2 gCat (vR 0) (vR 1))
noncomputable def jrj:DSt->M Out:=(gRet (fL ja1 (jaa (fL kTuple (jaa (ja8 2 [] (jby jbl (jaa (f2 gIx (vR 0) (cI 0)) (jaa (f2 gIx (vR 1) (cI 0)) fNil))) (jbe 0 1) tYes jsy) fNil)) (jaa (f2 gCat (f2 gIx (vR 0) (cI 1)) (f2 gIx (vR 1) (cI 1))) fNil))))
def jnz:List D->M D:=mir 2 2 jrj
def kt40:KT:=kt39.a 39 1 jrj [] [] [] (by kernel_rfl)
def jC7(T:Txt K mg):Cal P w K mg base 2 "added" 2 jnz  :=(kt40.h T).t _ zaa
def jf2:FnScope ["self"] ["self"] (jab jca):=jbj (by kernel_rfl)
def jgq:DSt->MS Out:=(eRet (jgu jnz (jbh (mGet ["OpenSum"] "total" (lF (vR 0))) (jbh (mGet ["OpenSum"] "term" (lF (vR 0))) (lF fNil)))))
def jat:List D->MS D:=mirE 1 1 jgq
def jdt(T:Txt K mg):MetE P w K mg base 3 "OpenSum" "whole" 1 jat:=jrz (O':=[]) T.f_OpenSum_whole jf2 fun _ _ _ _ _ _ _ hr =>
 mZ [] [] jf2 (kt40.h T) hr fun Zq =>
 (jai (jhs (jhe (jC7 T) (hr.m rfl) (jay (jls (T.c_OpenSum.is (by decide +kernel)) (jae (vE Zq.ok (by kernel_rfl)))) (jay (jls (T.c_OpenSum.is (by decide +kernel)) (jae (vE Zq.ok (by kernel_rfl)))) (jak (vA Zq.ok (by kernel_rfl))))))))
def jdy:FnScope ["self","sign","place"] ["self","sign","place"] (jab jbd):=jbj (by kernel_rfl)
noncomputable def jd6:DSt->MS Out:=(eIf (lF (t2 gEq (vR 1) (cS "*"))) (ePut ["OpenSum"] "star" (lF (vR 0)) (lF (vR 2))) (eSeq (ePut ["OpenSum"] "total" (lF (vR 0)) (jmm "OpenSum" "whole" jat (lF (vR 0)) (lF fNil)))
  (eSeq (ePut ["OpenSum"] "term_sign" (lF (vR 0)) (lF (fIf (t2 gEq (vR 1) (cS "-")) (f1 gNeg (cI 1)) (cI 1))))
  (ePut ["OpenSum"] "star" (lF (vR 0)) (lF (fC .non))))))
def jbb:List D->MS D:=mirE 3 3 jd6
def jhj(T:Txt K mg):MetE P w K mg base 4 "OpenSum" "take_sign" 3 jbb:=jrz (O':=[]) T.f_OpenSum_take_sign jdy fun _ _ _ _ _ _ _ hr =>
 mZ [] [] jdy (kt40.h T) hr fun Zq =>
 (jai (jlv (jlw (vT Zq.ok (by kernel_rfl))) (jai (jhr (T.c_OpenSum.is (by decide +kernel)) (jae (vE Zq.ok (by kernel_rfl))) (jae (vE Zq.ok (by kernel_rfl))))) (jac (jhr (T.c_OpenSum.is (by decide +kernel)) (jae (vE Zq.ok (by kernel_rfl))) (jn1 (jdt T) (hr.m rfl) (jae (vE Zq.ok (by kernel_rfl)))))
  (jac (jhr (T.c_OpenSum.is (by decide +kernel)) (jae (vE Zq.ok (by kernel_rfl))) (jae (vE Zq.ok (by kernel_rfl))))
  (jai (jhr (T.c_OpenSum.is (by decide +kernel)) (jae (vE Zq.ok (by kernel_rfl))) (jae (vE Zq.ok (by kernel_rfl)))))))))
def jd4:DSt->M D:=(fIf (t2 gEq (vR 0) (vR 1)) (cI 1) (cI 0))
def jdh:DSt->M Out:=(gSeq (gIf (tTru (fCall ja6 (jaa (f2 gIx (vR 1) (cI 0)) fNil))) (gRet (fL ja1 (jaa (fL kTuple (jaa (ja8 1 [("word",1)] (jbs (vR 0)) (DL.gName 0) tYes jd4) fNil)) (jaa (cI 0) fNil)))) gNx)
  (gRet (fL ja1 (jaa (fL kTuple (jaa (fRep (jaa (cI 0) fNil) (fL kLen (jaa (vR 0) fNil))) fNil)) (jaa (fCall jbp (jaa (vR 1) fNil)) fNil)))))
def jdk:List D->M D:=mir 2 2 jdh
def kt41:KT:=kt40.a 40 3 jdh [] [] [] (by kernel_rfl)
def sc_reckoned:FnScope ["names","pieces","sums","word","place","inner"] ["names","pieces"] (jab jvt):=jbj (by kernel_rfl)
def ja9:DSt->MS Out:=(eIf (lF (t2 gEq (vR 3) (fC (.str "(")))) (eApp 2 (jpv "OpenSum" jaq (lF (jaa (fL kLen (jaa (vR 0) fNil)) fNil)))) (eIf (lF (t2 gEq (vR 3) (fC (.str ")")))) (eSeq (ePop 5 2)
  (jf6 (jmm "OpenSum" "take_factor" jan (lF (f2 gIx (vR 2) (f1 gNeg (cI 1)))) (jbh (jmm "OpenSum" "whole" jat (lF (vR 5)) (lF fNil)) (lF fNil))))) (eIf (lF (t2 gIn (vR 3) (fL ja1 (jaa (cS "+") (jaa (cS "-") (jaa (cS "*") fNil)))))) (jf6 (jmm "OpenSum" "take_sign" jbb (lF (f2 gIx (vR 2) (f1 gNeg (cI 1)))) (lF (jaa (vR 3) (jaa (vR 4) fNil))))) (jf6 (jmm "OpenSum" "take_factor" jan (lF (f2 gIx (vR 2) (f1 gNeg (cI 1)))) (lF (jaa (fCall jdk (jaa (vR 0) (jaa (vR 3) fNil))) fNil)))))))
def jje:DSt->MS Out:=(eSeq (eSet 2 (mL jar (jbh (jpv "OpenSum" jaq (lF (jaa (fL kLen (jaa (vR 0) fNil)) fNil))) (lF fNil))))
  (eSeq (eFor (lF (jbs (vR 1))) (jbe 3 4) ja9)
  (eRet (jmm "OpenSum" "whole" jat (lF (f2 gIx (vR 2) (cI 0))) (lF fNil)))))
def jjj:List D->MS D:=mirE 2 6 jje
def jr8(T:Txt K mg):CalE P w K mg base 5 "reckoned" 2 jjj:=jc9 (O':=[]) (T.f 41) sc_reckoned fun _ _ _ _ _ _ _ hr =>
 mZ [] [] sc_reckoned (kt41.h T) hr fun Zq =>
 (jac (jN0 (i:=2) sc_reckoned.nd (jay (jyp (jfd T) (hr.m rfl) (jak (vA Zq.ok (by kernel_rfl)))) (jak (vA Zq.ok (by kernel_rfl)))))
  (jac (jtx PassesOwn.never rfl (jlu (vI Zq.ok (by kernel_rfl))) (vG Zq (by kernel_rfl)) (jai (jlv (jlw (vT Zq.ok (by kernel_rfl))) (jai (jNz (i:=2) rfl (jyp (jfd T) (hr.m rfl) (jak (vA Zq.ok (by kernel_rfl)))))) (jai (jlv (jlw (vT Zq.ok (by kernel_rfl))) (jac (jN1 (i:=5) (j:=2) sc_reckoned.nd rfl)
  (jai (jds (jrw (jc6 T) (hr.m rfl) (jae (vE Zq.ok (by kernel_rfl))) (jay (jn1 (jdt T) (hr.m rfl) (jae (vE Zq.ok (by kernel_rfl)))) (jak (vA Zq.ok (by kernel_rfl)))))))) (jai (jlv (jlw (vT Zq.ok (by kernel_rfl))) (jai (jds (jrw (jhj T) (hr.m rfl) (jae (vE Zq.ok (by kernel_rfl))) (jak (vA Zq.ok (by kernel_rfl)))))) (jai (jds (jrw (jc6 T) (hr.m rfl) (jae (vE Zq.ok (by kernel_rfl))) (jak (vA Zq.ok (by kernel_rfl)))))))))))))
  (jJh (O':=[]) (by decide) (jai (jhs (jn1 (jdt T) (hr.m rfl) (jae (vE Zq.ok (by kernel_rfl)))))))))
def jl9:FnScope ["names","text","pieces","word","place"] ["names","text"] (jab jvs):=jbj (by kernel_rfl)
def jfg:DSt->M Out:=(gIf (DL.tAnd (tTru (fCall ja6 (jaa (f2 gIx (vR 3) (cI 0)) fNil))) (t2 gNotIn (vR 3) (vR 0))) gNever gNx)
def jjd:DSt->MS Out:=(eSeq (lF (gSet 2 (fCall jfq (jaa (vR 1) fNil))))
  (eSeq (lF (gFor (jbs (vR 2)) (jbe 3 4) jfg))
  (eRet (jcz jjj (lF (jaa (vR 0) (jaa (vR 2) fNil)))))))
def jji:List D->MS D:=mirE 2 5 jjd
def jr7(T:Txt K mg):CalE P w K mg base 6 "read_sum" 2 jji:=jc9 (O':=[]) (T.f 42) jl9 fun _ _ _ _ _ _ _ hr =>
 mZ [] [] jl9 (kt41.h T) hr fun Zq =>
 (jac (jas (vS (O':=[]) Zq (by kernel_rfl)))
  (jac (jas (vS (O':=[]) Zq (by kernel_rfl)))
  (jai (jhs (jbq (jr8 T) (hr.m rfl) (jak (vA Zq.ok (by kernel_rfl))))))))
def jf3:FnScope ["names","text","line"] ["names","text","line"] (jab jl4):=jbj (by kernel_rfl)
def jea:DSt->MS Out:=(eRet (jcz jji (lF (jaa (vR 0) (jaa (vR 1) fNil)))))
def jb6:List D->MS D:=mirE 3 3 jea
def jdu(T:Txt K mg):CalE P w K mg base 7 "read_line_sum" 3 jb6:=jc9 (O':=[]) (T.f 43) jf3 fun _ _ _ _ _ _ _ hr =>
 mZ [] [] jf3 (kt41.h T) hr fun Zq =>
 (jai (jJg fun _=>(jai (jhs (jbq (jr7 T) (hr.m rfl) (jak (vA Zq.ok.wi (by kernel_rfl))))))))
def sc_read_rule:FnScope ["items","text","line","halves","sides","left","right","coefficients"] ["items","text","line"] (jab jsj):=jbj (by kernel_rfl)
def jgj:DSt->M D:=(f2 gSub (vR 0) (vR 1))
def jh9:DSt->MS Out:=(eSeq (lF (gSet 3 (fSm gPart (vR 1) (fC (.str ": ")))))
  (eSeq (lF (jmj (fCall jag (jaa (fCall jc0 (jaa (f2 gIx (vR 3) (cI 0)) fNil)) (jaa (vR 2) fNil)))))
  (eSeq (lF (gSet 4 (fSm gPart (f2 gIx (vR 3) (cI 2)) (cS ">="))))
  (eSeq (eSet 5 (jcz jb6 (lF (jaa (vR 0) (jaa (f2 gIx (vR 4) (cI 0)) (jaa (vR 2) fNil))))))
  (eSeq (eSet 6 (jcz jb6 (lF (jaa (vR 0) (jaa (f2 gIx (vR 4) (cI 2)) (jaa (vR 2) fNil))))))
  (eSeq (lF (gSet 7 (fL kTuple (jaa (ja8 2 [] (jby jbl (jaa (f2 gIx (vR 5) (cI 0)) (jaa (f2 gIx (vR 6) (cI 0)) fNil))) (jbe 0 1) tYes jgj) fNil))))
  (lF (gRet (fL ja1 (jaa (f2 gIx (vR 3) (cI 0)) (jaa (vR 7) (jaa (f2 gSub (f2 gIx (vR 5) (cI 1)) (f2 gIx (vR 6) (cI 1))) fNil))))))))))))
def jep:List D->MS D:=mirE 3 8 jh9
def jp5(T:Txt K mg):CalE P w K mg base 8 "read_rule" 3 jep:=jc9 (O':=[]) (T.f 44) sc_read_rule fun _ _ _ _ _ _ _ hr =>
 mZ [] [] sc_read_rule (kt41.h T) hr fun Zq =>
 (jac (jas (vS (O':=[]) Zq (by kernel_rfl)))
  (jac (jas (vS (O':=[]) Zq (by kernel_rfl)))
  (jac (jas (vS (O':=[]) Zq (by kernel_rfl)))
  (jac (jj9 (i:=5) sc_read_rule.nd (jbq (jdu T) (hr.m rfl) (jak (vA Zq.ok (by kernel_rfl)))))
  (jac (jj9 (i:=6) sc_read_rule.nd (jbq (jdu T) (hr.m rfl) (jak (vA Zq.ok (by kernel_rfl)))))
  (jac (jas (vS (O':=[]) Zq (by kernel_rfl)))
  (jai (jas (vS Zq (by kernel_rfl))))))))))
def sc_read_changes:FnScope ["items","variable","text","line","found","parts","part","halves","form"] ["items","variable","text","line"] (jab jhv):=jbj (by kernel_rfl)
def jcs:DSt->MS Out:=(eSeq (lF (gSet 7 (fSm gPart (vR 6) (fC (.str " ")))))
  (eSeq (jf6 (jgu jag (jbh (jvd (lF (f2 gIn (f2 gIx (vR 7) (cI 0)) (vR 0))) (jjh (f2 gIx (vR 7) (cI 0)) (vR 4))) (lF (jaa (vR 3) fNil)))))
  (eSeq (eSet 8 (jcz jb6 (lF (jaa (fL jar (jaa (vR 1) fNil)) (jaa (f2 gIx (vR 7) (cI 2)) (jaa (vR 3) fNil))))))
  (jMw (vR 4) (f2 gIx (vR 7) (cI 0)) (fL ja1 (jaa (f2 gIx (f2 gIx (vR 8) (cI 0)) (cI 0)) (jaa (f2 gIx (vR 8) (cI 1)) fNil)))))))
def jb3:DSt->MS D:=(jI3 (vR 1) (vR 0) (.tup [.int 0,.int 0]))
def je6:DSt->MS Out:=(eSeq (eSet 4 jI4)
  (eSeq (lF (gSet 5 (fIf (t2 gEq (vR 2) (cS "-")) (fL jar fNil) (fSm gSplit (vR 2) (fC (.str ", "))))))
  (eSeq (eFor (lF (jbs (vR 5))) (DL.gName 6) jcs)
  (eRet (mL kTuple (jbh (jI2 1 [("found",4)] (lF (jbs (vR 0))) (DL.gName 0) jb3) (lF fNil)))))))
def je7:List D->MS D:=mirE 4 9 je6
def jly(T:Txt K mg):CalE P w K mg base 8 "read_changes" 4 je7:=jc9 (O':=[]) (T.f 45) sc_read_changes fun _ _ _ _ _ _ _ hr =>
 mZ [] [] sc_read_changes (kt41.h T) hr fun Zq =>
 (jac (jj9 (i:=4) sc_read_changes.nd jJb)
  (jac (jas (vS (O':=[]) Zq (by kernel_rfl)))
  (jac (jtx PassesOwn.never rfl (jlu (vI Zq.ok (by kernel_rfl))) (vG Zq (by kernel_rfl)) (jac (jas (vS (O':=[]) Zq (by kernel_rfl)))
  (jac (jds (jhe (jdv T) (hr.m rfl) (jay (jFt (jae (vE Zq.ok (by kernel_rfl))) (jFu (jyq (Nat.lt_of_le_of_lt (Nat.add_le_add_left (by decide) _) (hu30 hr)) (vE Zq.ok (by kernel_rfl)) (vE Zq.ok (by kernel_rfl)) rfl))) (jak (vA Zq.ok (by kernel_rfl))))))
  (jac (jj9 (i:=8) sc_read_changes.nd (jbq (jdu T) (hr.m rfl) (jak (vA Zq.ok (by kernel_rfl)))))
  (jai (jJf (Nat.lt_of_le_of_lt (Nat.add_le_add_left (by decide) _) (hu30 hr)) (vE Zq.ok (by kernel_rfl)) (vE Zq.ok (by kernel_rfl)) (vE Zq.ok (by kernel_rfl))))))))
  (jai (jhs (jyo jio jo2 rfl (T.b "tuple" (by decide)) jnb (jay (jI7 (own:=["item"]) (caps:=[("found",4)]) rfl (jk5 (N:=["items","variable","text","line","found","parts","part","halves","form"]) (osc:=jab jhv) rfl rfl rfl (by decide +kernel)) (jlu (vI Zq.ok (by kernel_rfl))) (fun _ _ _ _=>(jrc (i:=0) (show (["item","found"]:List Str).Nodup from by decide +kernel))) (fun _ _ _ _=>(jI8 (Nat.lt_of_le_of_lt (Nat.add_le_add_left (by decide) _) (hu30 hr)) (jpa 1) (jpa 0) (jFa (jra js7 (jra js7 jE8))) (fun _=>rfl)))) (jak (vA Zq.ok (by kernel_rfl))))))))))
def sc_read_deed:FnScope ["items","text","line","halves","words","changes"] ["items","text","line"] (jab jsh):=jbj (by kernel_rfl)
def jh7:DSt->MS Out:=(eSeq (lF (gSet 3 (fSm gPart (vR 1) (fC (.str ": ")))))
  (eSeq (lF (gSet 4 (fSm gSplit (f2 gIx (vR 3) (cI 0)) (fC (.str " ")))))
  (eSeq (lF (jmj (fCall jag (jaa (fAnd (f2 gEq (fL kLen (jaa (vR 4) fNil)) (cI 4)) (fAnd (fCall jc0 (jaa (f2 gIx (vR 4) (cI 0)) fNil)) (fCall jc0 (jaa (f2 gIx (vR 4) (cI 1)) fNil)))) (jaa (vR 2) fNil)))))
  (eSeq (lF (jmj (fCall jag (jaa (fAnd (fCall jdd (jaa (f2 gIx (vR 4) (cI 2)) fNil)) (fCall jdd (jaa (f2 gIx (vR 4) (cI 3)) fNil))) (jaa (vR 2) fNil)))))
  (eSeq (eSet 5 (jcz je7 (lF (jaa (vR 0) (jaa (f2 gIx (vR 4) (cI 1)) (jaa (f2 gIx (vR 3) (cI 2)) (jaa (vR 2) fNil)))))))
  (lF (gRet (fL ja1 (jaa (f2 gIx (vR 4) (cI 0)) (jaa (fCall jbp (jaa (f2 gIx (vR 4) (cI 2)) fNil)) (jaa (fCall jbp (jaa (f2 gIx (vR 4) (cI 3)) fNil)) (jaa (vR 5) fNil))))))))))))
def jfr:List D->MS D:=mirE 3 6 jh7
def jp3(T:Txt K mg):CalE P w K mg base 9 "read_deed" 3 jfr:=jc9 (O':=[]) (T.f 46) sc_read_deed fun _ _ _ _ _ _ _ hr =>
 mZ [] [] sc_read_deed (kt41.h T) hr fun Zq =>
 (jac (jas (vS (O':=[]) Zq (by kernel_rfl)))
  (jac (jas (vS (O':=[]) Zq (by kernel_rfl)))
  (jac (jas (vS (O':=[]) Zq (by kernel_rfl)))
  (jac (jas (vS (O':=[]) Zq (by kernel_rfl)))
  (jac (jj9 (i:=5) sc_read_deed.nd (jbq (jly T) (hr.m rfl) (jak (vA Zq.ok (by kernel_rfl)))))
  (jai (jas (vS Zq (by kernel_rfl)))))))))
def jkd:FnScope ["items","place","text","line"] ["items","place","text","line"] (jab jsi):=jbj (by kernel_rfl)
def jlh:DSt->MS Out:=(eSeq (lF (gIf (t2 gEq (vR 1) (cI 0)) (gRet (fCall jeo (jaa (vR 2) (jaa (vR 3) fNil)))) gNx))
  (eSeq (eIf (lF (t2 gEq (vR 1) (cI 1))) (eRet (jcz jep (lF (jaa (vR 0) (jaa (vR 2) (jaa (vR 3) fNil)))))) eNx)
  (eRet (jcz jfr (lF (jaa (vR 0) (jaa (vR 2) (jaa (vR 3) fNil))))))))
def jb7:List D->MS D:=mirE 4 4 jlh
def jp4(T:Txt K mg):CalE P w K mg base 10 "read_part" 4 jb7:=jc9 (O':=[]) (T.f 47) jkd fun _ _ _ _ _ _ _ hr =>
 mZ [] [] jkd (kt41.h T) hr fun Zq =>
 (jac (jas (vS (O':=[]) Zq (by kernel_rfl)))
  (jac (jlv (jlw (vT Zq.ok (by kernel_rfl))) (jai (jhs (jbq (jp5 T) (hr.m rfl) (jak (vA Zq.ok (by kernel_rfl)))))) jjm)
  (jai (jhs (jbq (jp3 T) (hr.m rfl) (jak (vA Zq.ok (by kernel_rfl))))))))
def sc_take_line:FnScope ["book","row","line","halves","place","part"] ["book","row","line"] (jab jsl):=jbj (by kernel_rfl)
def jgk:DSt->M D:=(f2 gEq (vR 0) (fL jar fNil))
def jfn:DSt->MS Out:=(eSeq (lF (gSet 3 (fSm gPart (vR 1) (fC (.str " ")))))
  (eSeq (lF (jmj (fCall jag (jaa (f2 gIn (f2 gIx (vR 3) (cI 0)) (fC (.tup [.str "item",.str "rule",.str "deed"]))) (jaa (vR 2) fNil)))))
  (eSeq (lF (gSet 4 (fIdx ["item","rule","deed"] (f2 gIx (vR 3) (cI 0)))))
  (eSeq (jf6 (jgu jag (jbh (jfc 0 (fL kAll (jaa (ja8 1 [] (jbs (fSl (vR 0) (jdn (f2 gCat (vR 4) (cI 1))) oNone)) (DL.gName 0) tYes jgk) fNil))) (lF (jaa (vR 2) fNil)))))
  (eSeq (eSet 5 (jcz jb7 (jbh (jcz jfp (jbh (m2 gIx (lF (vR 0)) (lF (cI 0))) (lF fNil))) (lF (jaa (vR 4) (jaa (f2 gIx (vR 3) (cI 2)) (jaa (vR 2) fNil)))))))
  (eSeq (jf6 (jgu jag (jbh (jfc 0 (f2 gNotIn (f2 gIx (vR 5) (cI 0)) (fCall jcd (jaa (f2 gIx (vR 0) (vR 4)) fNil)))) (lF (jaa (vR 2) fNil)))))
  (jf6 (jyi (m2 gIx (lF (vR 0)) (lF (vR 4))) (lF (vR 5))))))))))
def jes:List D->MS D:=mirE 3 6 jfn
def jp6(T:Txt K mg):CalE P w K mg base 11 "take_line" 3 jes:=jc9 (O':=[]) (T.f 48) sc_take_line fun _ _ _ _ _ _ _ hr =>
 mZ [] [] sc_take_line (kt41.h T) hr fun Zq =>
 (jac (jas (vS (O':=[]) Zq (by kernel_rfl)))
  (jac (jas (vS (O':=[]) Zq (by kernel_rfl)))
  (jac (jas (vS (O':=[]) Zq (by kernel_rfl)))
  (jac (jds (jhe (jdv T) (hr.m rfl) (jay (jiw (i:=0) rfl (vE Zq.ok (by kernel_rfl))) (jak (vA Zq.ok (by kernel_rfl))))))
  (jac (jj9 (i:=5) sc_take_line.nd (jbq (jp4 T) (hr.m rfl) (jay (jbq (jp1 T) (hr.m rfl) (jay (jvh jhp jiz (jae (vE Zq.ok (by kernel_rfl))) (jae (vE Zq.ok (by kernel_rfl)))) (jak (vA Zq.ok (by kernel_rfl))))) (jak (vA Zq.ok (by kernel_rfl))))))
  (jac (jds (jhe (jdv T) (hr.m rfl) (jay (jiw (i:=0) rfl (vE Zq.ok (by kernel_rfl))) (jak (vA Zq.ok (by kernel_rfl))))))
  (jai (jds (jyn (jvh jhp jiz (jae (vE Zq.ok (by kernel_rfl))) (jae (vE Zq.ok (by kernel_rfl)))) (jae (vE Zq.ok (by kernel_rfl))))))))))))
def jgf:DSt->M D:=(fCall jc0 (jaa (vR 0) fNil))
noncomputable def jhy:DSt->M Out:=(gSeq (gSet 2 (fCall jcd (jaa (vR 0) fNil)))
  (gRet (fAnd (jfa gLe gLe (cI 1) (fL kLen (jaa (vR 2) fNil)) (vR 1)) (fAnd (fL kAll (jaa (ja8 1 [] (jbs (vR 2)) (DL.gName 0) tYes jgf) fNil)) (f2 gEq (f1 jCe (vR 2)) (fL kLen (jaa (vR 2) fNil)))))))
def jeh:List D->M D:=mir 2 3 jhy
def kt42:KT:=kt41.a 49 3 jhy ["names"] [] [] (by kernel_rfl)
def jgg:DSt->M D:=(f2 gEq (fL kLen (jaa (f2 gIx (vR 0) (cI 1)) fNil)) (vR 1))
noncomputable def jhz:DSt->M Out:=(gSeq (gSet 1 (fL kLen (jaa (f2 gIx (vR 0) (cI 0)) fNil)))
  (gRet (fAnd (fCall jeh (jaa (f2 gIx (vR 0) (cI 1)) (jaa (cI 5) fNil))) (fL kAll (jaa (ja8 1 [("width",1)] (jbs (f2 gIx (vR 0) (cI 1))) (DL.gName 0) tYes jgg) fNil)))))
def jic:List D->M D:=mir 1 2 jhz
def kt43:KT:=kt42.a 50 4 jhz ["width"] [] [] (by kernel_rfl)
def jjw:DSt->M D:=(fAnd (f2 gEq (fL kLen (jaa (f2 gIx (vR 0) (cI 3)) fNil)) (vR 1)) (f2 gLe (f2 gIx (vR 0) (cI 1)) (f2 gIx (vR 0) (cI 2))))
noncomputable def jhx:DSt->M Out:=(gSeq (gSet 1 (fL kLen (jaa (f2 gIx (vR 0) (cI 0)) fNil)))
  (gRet (fAnd (fCall jeh (jaa (f2 gIx (vR 0) (cI 2)) (jaa (cI 6) fNil))) (fL kAll (jaa (ja8 1 [("width",1)] (jbs (f2 gIx (vR 0) (cI 2))) (DL.gName 0) tYes jjw) fNil)))))
def jib:List D->M D:=mir 1 2 jhx
def kt44:KT:=kt43.a 51 4 jhx ["width"] [] [] (by kernel_rfl)
def jlc:DSt->M Out:=(gRet (fAnd (fCall jeh (jaa (f2 gIx (vR 0) (cI 0)) (jaa (cI 4) fNil))) (fAnd (fCall jic (jaa (vR 0) fNil)) (fCall jib (jaa (vR 0) fNil)))))
def jiu:List D->M D:=mir 1 1 jlc
def kt45:KT:=kt44.a 52 5 jlc [] [] [] (by kernel_rfl)
def jk4:DSt->M D:=(f2 gMulT (vR 0) (vR 1))
def jjf:DSt->M Out:=(gRet (f2 gCat (fL kSum (jaa (ja8 2 [] (jby jbl (jaa (f2 gIx (vR 0) (cI 0)) (jaa (vR 1) fNil))) (jbe 0 1) tYes jk4) fNil)) (f2 gIx (vR 0) (cI 1))))
def jjl:List D->M D:=mir 2 2 jjf
def kt46:KT:=kt45.a 53 1 jjf [] [] [] (by kernel_rfl)
def jrk:DSt->M Out:=(gRet (fCall jjl (jaa (fL ja1 (jaa (f2 gIx (f2 gIx (f2 gIx (vR 0) (cI 1)) (vR 1)) (cI 1)) (jaa (f2 gIx (f2 gIx (f2 gIx (vR 0) (cI 1)) (vR 1)) (cI 2)) fNil))) (jaa (vR 2) fNil))))
def jn0:List D->M D:=mir 3 3 jrk
def kt47:KT:=kt46.a 54 2 jrk [] [] [] (by kernel_rfl)
def jf4:FnScope ["book","state","place","rule"] ["book","state"] (jab jl5):=jbj (by kernel_rfl)
def jbr:DSt->MS Out:=(eIf (mB (m2 gLt (jfc 0 (fCall jn0 (jaa (vR 0) (jaa (vR 2) (jaa (vR 1) fNil))))) (lF (cI 0)))) (lF gNever) eNx)
def jeb:DSt->MS Out:=(jMv kEn (jbh (m2 gIx (lF (vR 0)) (lF (cI 1))) (lF fNil)) (jbe 2 3) jbr FUEL)
def jeq:List D->MS D:=mirE 2 4 jeb
def jkh(T:Txt K mg):CalE P w K mg base 4 "refuse_broken" 2 jeq:=jc9 (O':=[]) (T.f 55) jf4 fun _ _ _ _ _ _ _ hr =>
 mZ [] [] jf4 (kt47.h T) hr fun Zq =>
 (jai (jC3 (fuel:=FUEL) PassesOwn.never rfl rfl (T.b "enumerate" (by decide)) (jay (jvh jhp jiz (jae (vE Zq.ok (by kernel_rfl))) (jae (vE Zq.ok (by kernel_rfl)))) (jak (vA Zq.ok (by kernel_rfl)))) (vG Zq (by kernel_rfl)) (jai (jlv (jty jF4 jjp (jiw (i:=0) rfl (vE Zq.ok (by kernel_rfl))) (jae (vE Zq.ok (by kernel_rfl))) (jpz _)) (jai (jas (vS Zq (by kernel_rfl)))) jjm))))
def jjy:DSt->M D:=(f2 gIx (vR 0) (cI 1))
def jia:DSt->M Out:=(gRet (fL kTuple (jaa (ja8 1 [] (jbs (f2 gIx (vR 0) (cI 0))) (DL.gName 0) tYes jjy) fNil)))
def jfu:List D->M D:=mir 1 1 jia
def kt48:KT:=kt47.a 56 1 jia [] [] [] (by kernel_rfl)
def ji0:FnScope ["book"] ["book"] (jab jqe):=jbj (by kernel_rfl)
def jez:DSt->MS Out:=(eSeq (eIf (mNot (mTru (jfc 0 (fCall jiu (jaa (vR 0) fNil))))) (lF gNever) eNx)
  (jf6 (jcz jeq (jbh (lF (vR 0)) (jbh (jfc 0 (fCall jfu (jaa (vR 0) fNil))) (lF fNil))))))
def je1:List D->MS D:=mirE 1 1 jez
def jn6(T:Txt K mg):CalE P w K mg base 7 "check_book" 1 je1:=jc9 (O':=[]) (T.f 57) ji0 fun _ _ _ _ _ _ _ hr =>
 mZ [] [] ji0 (kt48.h T) hr fun Zq =>
 (jac (jlv (jtz (jt0 (jiw (i:=0) rfl (vE Zq.ok (by kernel_rfl))))) (jai (jas (vS Zq (by kernel_rfl)))) jjm)
  (jai (jds (jbq (jkh T) (hr.m rfl) (jay (jae (vE Zq.ok (by kernel_rfl))) (jay (jiw (i:=0) rfl (vE Zq.ok (by kernel_rfl))) (jak (vA Zq.ok (by kernel_rfl)))))))))
def sc_read_book:FnScope ["text","book","line","row"] ["text"] (jab jsg):=jbj (by kernel_rfl)
def jcr:DSt->MS Out:=(jf6 (jcz jes (jbh (lF (vR 1)) (lF (jaa (vR 3) (jaa (vR 2) fNil))))))
def jh6:DSt->MS Out:=(eSeq (eSet 1 (mL ja1 (jbh (jpw (lF fNil)) (jbh (jpw (lF fNil)) (jbh (jpw (lF fNil)) (lF fNil))))))
  (eSeq (eFor (lF (jby jcw (jaa (fSm gSplit (vR 0) (cS "\n")) fNil))) (jbe 2 3) jcr)
  (eSeq (jf6 (jcz je1 (jbh (lF (vR 1)) (lF fNil))))
  (eRet (lF (vR 1))))))
def jde:List D->MS D:=mirE 1 4 jh6
def jg0(T:Txt K mg):CalE P w K mg base 12 "read_book" 1 jde:=jc9 (O':=[]) (T.f 58) sc_read_book fun _ _ _ _ _ _ _ hr =>
 mZ [] [] sc_read_book (kt48.h T) hr fun Zq =>
 (jac (jj9 (i:=1) sc_read_book.nd (jNu (jay (jrx (jak (vA Zq.ok (by kernel_rfl)))) (jay (jrx (jak (vA Zq.ok (by kernel_rfl)))) (jay (jrx (jak (vA Zq.ok (by kernel_rfl)))) (jak (vA Zq.ok (by kernel_rfl))))))))
  (jac (jtx PassesOwn.never rfl (jlu (vI Zq.ok (by kernel_rfl))) (vG Zq (by kernel_rfl)) (jai (jds (jbq (jp6 T) (hr.m rfl) (jay (jae (vE Zq.ok (by kernel_rfl))) (jak (vA Zq.ok (by kernel_rfl))))))))
  (jac (jds (jbq (jn6 T) (hr.m rfl) (jay (jae (vE Zq.ok (by kernel_rfl))) (jak (vA Zq.ok (by kernel_rfl))))))
  (jai (jhs (jae (vE Zq.ok (by kernel_rfl))))))))
def jdo:FnScope ["_law_found"] ["_law_found"] (jab jsf):=jbj (by kernel_rfl)
def jo1(mm:List D->M D):DSt->M D:=(vR 0)
noncomputable def jda(mm:List D->M D):DSt->M Out:=(gSeq (gIf (tTru (fL kIsi (jaa (vR 0) (jaa (fC (.ty "bool")) fNil)))) (gRet (fC (.bl false))) gNx)
  (gSeq (gIf (tTru (fL kIsi (jaa (vR 0) (jaa (fC (.ty "tuple")) fNil)))) (gRet (f2 gEq (fL kLen (jaa (ja8 1 [] (jbs (vR 0)) (DL.gName 0) (DL.tNot (tTru (fCall mm (jaa (vR 0) fNil)))) (jo1 mm)) fNil)) (cI 0))) gNx)
  (gRet (fL kIsiP (jaa (vR 0) (jaa (fL ja1 (jaa (fC (.ty "int")) (jaa (fC (.ty "str")) fNil))) fNil))))))
def je4:List D->M D:=mir 1 1 fun _=>none
def jn7(T:Txt K mg):Cal P w K mg base 1 "_law_plain" 1 je4:=jBm (T.f 59) jdo
def jgw:List D->M D:=mir 1 1 (jda je4)
def jn8(T:Txt K mg):Cal P w K mg base 2 "_law_plain" 1 jgw:=jwk (t:=⟨"_law_plain",1,1,je4⟩::kt48.t) [] [] jdo (T.f 59) ((kt48.h T).add (jn7 T)) (by kernel_rfl)
def jgx:List D->M D:=mir 1 1 (jda jgw)
def jn9(T:Txt K mg):Cal P w K mg base 3 "_law_plain" 1 jgx:=jwk (t:=⟨"_law_plain",2,1,jgw⟩::kt48.t) [] [] jdo (T.f 59) ((kt48.h T).add (jn8 T)) (by kernel_rfl)
def jgy:List D->M D:=mir 1 1 (jda jgx)
def joa(T:Txt K mg):Cal P w K mg base 4 "_law_plain" 1 jgy:=jwk (t:=⟨"_law_plain",3,1,jgx⟩::kt48.t) [] [] jdo (T.f 59) ((kt48.h T).add (jn9 T)) (by kernel_rfl)
def jem:List D->M D:=mir 1 1 (jda jgy)
def jp2(T:Txt K mg):Cal P w K mg base 5 "_law_plain" 1 jem:=jwk (t:=⟨"_law_plain",4,1,jgy⟩::kt48.t) [] [] jdo (T.f 59) ((kt48.h T).add (joa T)) (by kernel_rfl)
def kt49:KT:=⟨⟨"_law_plain",5,1,jem⟩::kt48.t,fun T=>(kt48.h T).add (jp2 T)⟩
def jl8:FnScope ["_law_found","_law_book_here","_law_things"] ["_law_found","_law_book_here"] (jab jvr):=jbj (by kernel_rfl)
def jk3:DSt->M D:=(vR 0)
noncomputable def jfh:DSt->MS Out:=(eIf (mOr (mNot (mTru (fun Y=>MS.b ((jbh (lF (vR 2)) (lF (jaa (fC (.ty "list")) fNil))) Y) isiS))) (mB (m2 gGt (jyj 2 (fL kLen (jaa (ja8 1 [] (jbs (vR 2)) (DL.gName 0) (DL.tNot (tTru (fCall jem (jaa (vR 0) fNil)))) jk3) fNil))) (lF (cI 0))))) (lF (gRet (fC (.bl false)))) eNx)
noncomputable def jjb:DSt->MS Out:=(eSeq (eIf (mOr (mNot (mTru (lF (fL kIsi (jaa (vR 0) (jaa (fC (.ty "tuple")) fNil)))))) (mOr (mB (m2 gNe (lF (fL kLen (jaa (vR 0) fNil))) (lF (cI 3)))) (mB (mNeR (lF (vR 0)) (lF (vR 1)))))) (lF (gRet (fC (.bl false)))) eNx)
  (eSeq (eFor (lF (jbs (vR 0))) (DL.gName 2) jfh)
  (lF (gRet (fC (.bl true))))))
def jd1:List D->MS D:=mirE 2 3 jjb
def jih(T:Txt K mg):CalE P w K mg base 6 "_law_same" 2 jd1:=jc9 (O':=[]) (T.f 60) jl8 fun _ _ _ _ _ _ _ hr =>
 mZ [] [] jl8 (kt49.h T) hr fun Zq =>
 (jac (jlv (MW.mt (jJj (jtz (jt0 (jae (vE Zq.ok (by kernel_rfl))))) (jJj (jty (jy8 (hu30 hr)) jF6 (jae (vE Zq.ok (by kernel_rfl))) (jae (vE Zq.ok (by kernel_rfl))) (jpz _)) (jFy (jN2 (jy8 (hu30 hr)) (jae (vE Zq.ok (by kernel_rfl))) (jae (vE Zq.ok (by kernel_rfl))) (jpz _)))))) (jai (jas (vS Zq (by kernel_rfl)))) jjm)
  (jac (jtx PassesOwn.never rfl (jlu (vI Zq.ok (by kernel_rfl))) (vG Zq (by kernel_rfl)) (jai (jlv (MW.mt (jJj (jtz (jt0 (jI9 rfl (T.b "isinstance" (by decide)) (jay (jae (vE Zq.ok (by kernel_rfl))) (jak (vA Zq.ok (by kernel_rfl))))))) (jFy (jty jF2 jjp (jJa (i:=2) rfl (vE Zq.ok (by kernel_rfl))) (jae (vE Zq.ok (by kernel_rfl))) (jpz _))))) (jai (jas (vS Zq (by kernel_rfl)))) jjm)))
  (jai (jas (vS Zq (by kernel_rfl))))))
def jdq:DSt->M D:=(f2 gSub (f2 gMod (f2 gFdiv (vR 1) (f2 gCat (vR 0) (cI 1))) (cI 5)) (cI 2))
def jfz:DSt->M D:=(f2 gCat (vR 0) (vR 1))
def jd8:DSt->M Out:=(gSeq (gSet 3 (fL kTuple (jaa (ja8 1 [("_law_number",2)] (jby jbt (jaa (fL kLen (jaa (vR 0) fNil)) fNil)) (DL.gName 0) tYes jdq) fNil)))
  (gSeq (gSet 4 (fL ja1 (jaa (fL kTuple (jaa (ja8 2 [] (jby jbl (jaa (f2 gIx (vR 1) (cI 1)) (jaa (vR 3) fNil))) (jbe 0 1) tYes jfz) fNil)) (jaa (f2 gCat (f2 gIx (vR 1) (cI 2)) (cI 7)) fNil))))
  (gSeq (gSet 5 (f2 gIx (fL jar (jaa (cS ">=") (jaa (fC (.str " >= ")) (jaa (fC (.str "  >=")) (jaa (fC (.str ">=   ")) fNil))))) (f2 gMod (f2 gFdiv (vR 2) (cI 64)) (cI 4))))
  (gSeq (gSet 6 (f2 gCat (f2 gCat (f2 gCat (fC (.str "rule ")) (f2 gIx (vR 1) (cI 0))) (fC (.str ": "))) (f2 gMulT (fC (.str " ")) (f2 gMod (f2 gFdiv (vR 2) (cI 256)) (cI 3)))))
  (gRet (f2 gCat (f2 gCat (f2 gCat (f2 gCat (f2 gCat (vR 6) (fCall jc1 (jaa (vR 0) (jaa (vR 4) fNil)))) (vR 5)) (fC (.str "("))) (fCall jc1 (jaa (vR 0) (jaa (fL ja1 (jaa (vR 3) (jaa (cI 7) fNil))) fNil)))) (fC (.str ")"))))))))
def jen:List D->M D:=mir 3 7 jd8
def kt50:KT:=kt49.a 61 2 jd8 ["_law_more","_law_left","_law_middle","_law_head"] [] [] (by kernel_rfl)
def jck:DSt->M Out:=(gIf (DL.tOr (t2 gNe (vR 6) (fL ja1 (jaa (cI 0) (jaa (cI 0) fNil)))) (t2 gEq (f2 gMod (f2 gFdiv (vR 2) (cI 4)) (cI 2)) (cI 0))) (gApp 4 (f2 gCat (f2 gCat (f2 gCat (vR 5) (fC (.str " "))) (f2 gMulT (fC (.str " ")) (f2 gMod (f2 gFdiv (vR 2) (cI 8)) (cI 2)))) (fCall jc1 (jaa (fL jar (jaa (vR 3) fNil)) (jaa (fL ja1 (jaa (fL ja1 (jaa (f2 gIx (vR 6) (cI 0)) fNil)) (jaa (f2 gIx (vR 6) (cI 1)) fNil))) fNil))))) gNx)
def jcy:DSt->M Out:=(gSeq (gSet 3 (f2 gIx (fL jar (jaa (cS "n") (jaa (cS "k") (jaa (cS "abcdefghij") (jaa (f2 gIx (vR 0) (cI 0)) fNil))))) (f2 gMod (vR 2) (cI 4))))
  (gSeq (gSet 4 (fL jar fNil))
  (gSeq (gFor (jby jbl (jaa (vR 0) (jaa (f2 gIx (vR 1) (cI 3)) fNil))) (jbe 5 6) jck)
  (gSeq (gSet 7 (f2 gMod (f2 gFdiv (vR 2) (cI 16)) (f2 gCat (fL kLen (jaa (vR 4) fNil)) (cI 1))))
  (gSeq (gSet 4 (f2 gCat (fSl (vR 4) (jdn (vR 7)) oNone) (fSl (vR 4) oNone (jdn (vR 7)))))
  (gSeq (gSet 8 (f2 gCat (f2 gCat (f2 gCat (f2 gCat (f2 gCat (f2 gCat (f2 gCat (f2 gCat (fC (.str "deed ")) (f2 gIx (vR 1) (cI 0))) (fC (.str " "))) (vR 3)) (fC (.str " "))) (fL kStr (jaa (f2 gIx (vR 1) (cI 1)) fNil))) (fC (.str " "))) (fL kStr (jaa (f2 gIx (vR 1) (cI 2)) fNil))) (fC (.str ": "))))
  (gRet (f2 gCat (f2 gCat (vR 8) (fSm jgp (f2 gIx (fL jar (jaa (fC (.str ", ")) (jaa (fC (.str " , ")) fNil))) (f2 gMod (f2 gFdiv (vR 2) (cI 128)) (cI 2))) (vR 4))) (f2 gMulT (cS "-") (fL kIntT (jaa (f2 gEq (vR 4) (fL jar fNil)) fNil)))))))))))
def jei:List D->M D:=mir 3 9 jcy
def kt51:KT:=kt50.a 62 2 jcy ["_law_own","_law_words","_law_item","_law_change","_law_at_here","_law_head"] [4] [] (by kernel_rfl)
def jfx:DSt->M D:=(f2 gIx (vR 0) (cI 0))
def jfy:DSt->M D:=(f2 gCat (f2 gCat (f2 gCat (fC (.str "item ")) (vR 0)) (fC (.str " "))) (fL kStr (jaa (vR 1) fNil)))
def jcl:DSt->M D:=(fCall jen (jaa (vR 3) (jaa (vR 1) (jaa (fCall jbf (jaa (vR 2) (jaa (f2 gCat (cI 230) (vR 0)) fNil))) fNil))))
def jcm:DSt->M D:=(fCall jei (jaa (vR 3) (jaa (vR 1) (jaa (fCall jbf (jaa (vR 2) (jaa (f2 gCat (cI 240) (vR 0)) fNil))) fNil))))
def jd7:DSt->M Out:=(gSeq (gSet 2 (ja8 1 [] (jbs (f2 gIx (vR 1) (cI 0))) (DL.gName 0) tYes jfx))
  (gSeq (gSet 3 (ja8 2 [] (jbs (f2 gIx (vR 1) (cI 0))) (jbe 0 1) tYes jfy))
  (gSeq (gExt 3 (ja8 2 [("_law_script",0),("_law_names",2)] (jby jcw (jaa (f2 gIx (vR 1) (cI 1)) fNil)) (jbe 0 1) tYes jcl))
  (gSeq (gExt 3 (ja8 2 [("_law_script",0),("_law_names",2)] (jby jcw (jaa (f2 gIx (vR 1) (cI 2)) fNil)) (jbe 0 1) tYes jcm))
  (gRet (fSm jgp (cS "\n") (vR 3)))))))
def jel:List D->M D:=mir 2 4 jd7
def kt52:KT:=kt51.a 63 3 jd7 ["_law_names","_law_lines"] [3] [] (by kernel_rfl)
def sc_law:FnScope ["_law_script","_law_book_here","_law_handed","_law_told","_law_found","_law_written"] ["_law_script"] (jab jPg):=jbj (by kernel_rfl)
def jGf:DSt->MS Out:=(lF (gSet 1 (fCall jhd (jaa (vR 0) (jaa (fCall jgv (jaa (vR 0) fNil)) fNil)))))
def jGg:DSt->MS Out:=(lF (gSet 2 (fL ja1 (jaa (fL kList (jaa (f2 gIx (vR 1) (cI 0)) fNil)) (jaa (fL kList (jaa (f2 gIx (vR 1) (cI 1)) fNil)) (jaa (fL kList (jaa (f2 gIx (vR 1) (cI 2)) fNil)) fNil))))))
def jGh:DSt->MS Out:=(lF (gSet 3 (fCall jgz (jaa (vR 2) fNil))))
def jGi:DSt->MS Out:=(lF (gIf (DL.tOr (DL.tNot (tTru (fL kIsi (jaa (vR 3) (jaa (fC (.ty "str")) fNil))))) (DL.tOr (t2 gNe (vR 3) (fCall jig (jaa (vR 1) fNil))) (t2 gNe (vR 2) (vR 1)))) (gRet (fC (.bl false))) gNx))
def jz8:DSt->MS Out:=(eSet 4 (jcz jde (lF (jaa (vR 3) fNil))))
def jz9:DSt->MS Out:=(eIf (mNot (mTru (jcz jd1 (jbh (lF (vR 4)) (lF (jaa (vR 1) fNil)))))) (lF (gRet (fC (.bl false)))) eNx)
def jAa:DSt->MS Out:=(jf6 (jI1 (m2 gIx (lF (vR 4)) (lF (cI 0)))))
def jAb:DSt->MS Out:=(jf6 (jyi (m2 gIx (lF (vR 4)) (lF (cI 2))) (mIxL (m2 gIx (lF (vR 4)) (lF (cI 2))) (lF (cI 0)))))
def jGj:DSt->MS Out:=(lF (gSet 5 (fCall jel (jaa (vR 0) (jaa (vR 1) fNil)))))
def jse:DSt->MS Out:=(lF (gIf (t2 gGt (fL kLen (jaa (vR 5) fNil)) (cI 4000)) (gRet (fC (.bl true))) gNx))
def jz7:DSt->MS Out:=(eRet (jvd (jcz jd1 (jbh (jcz jde (lF (jaa (vR 3) fNil))) (lF (jaa (vR 1) fNil)))) (jcz jd1 (jbh (jcz jde (lF (jaa (vR 5) fNil))) (lF (jaa (vR 1) fNil))))))
def jCf:DSt->MS Out:=(eSeq jGf
  (eSeq jGg
  (eSeq jGh
  (eSeq jGi
  (eSeq jz8
  (eSeq jz9
  (eSeq jAa
  (eSeq jAb
  (eSeq jGj
  (eSeq jse
  jz7))))))))))
def jCy:List D->MS D:=mirE 1 6 jCf
def jBh(T:Txt K mg):jQi P w K mg base 12 "law" jPg ["_law_script","_law_book_here","_law_handed","_law_told","_law_found","_law_written"] jCf:=fun _ _ _ _ _ _ _ hr=>
 mZ [] [] sc_law (kt52.h T) hr fun Zq =>
 (jac (jas (vS (O':=[]) Zq (by kernel_rfl)))
  (jac (jas (vS (O':=[]) Zq (by kernel_rfl)))
  (jac (jas (vS (O':=[]) Zq (by kernel_rfl)))
  (jac (jas (vS (O':=[]) Zq (by kernel_rfl)))
  (jac (jj9 (i:=4) sc_law.nd (jbq (jg0 T) (hr.m rfl) (jak (vA Zq.ok (by kernel_rfl)))))
  (jac (jlv (jtz (jt0 (jbq (jih T) (hr.m rfl) (jay (jae (vE Zq.ok (by kernel_rfl))) (jak (vA Zq.ok (by kernel_rfl))))))) (jai (jas (vS Zq (by kernel_rfl)))) jjm)
  (jac (jds (jI6 (jvh jhp jiz (jae (vE Zq.ok (by kernel_rfl))) (jae (vE Zq.ok (by kernel_rfl))))))
  (jac (jds (jyn (jvh jhp jiz (jae (vE Zq.ok (by kernel_rfl))) (jae (vE Zq.ok (by kernel_rfl)))) (jNt (jvh jhp jiz (jae (vE Zq.ok (by kernel_rfl))) (jae (vE Zq.ok (by kernel_rfl)))) (jae (vE Zq.ok (by kernel_rfl))))))
  (jac (jas (vS (O':=[]) Zq (by kernel_rfl)))
  (jac (jas (vS (O':=[]) Zq (by kernel_rfl)))
  (jai (jhs (jFt (jbq (jih T) (hr.m rfl) (jay (jbq (jg0 T) (hr.m rfl) (jak (vA Zq.ok (by kernel_rfl)))) (jak (vA Zq.ok (by kernel_rfl))))) (jFu (jbq (jih T) (hr.m rfl) (jay (jbq (jg0 T) (hr.m rfl) (jak (vA Zq.ok (by kernel_rfl)))) (jak (vA Zq.ok (by kernel_rfl)))))))))))))))))))
end
def ju8{us:List Value}(h:us.length=n+1):∃ a r,us=a::r/\r.length=n:=by
 cases us with
 | nil=>cases h
 | cons a r=>exact⟨a,r,rfl,Nat.succ.inj h⟩
def jLp(h:∀ a0:Value,bindArgs fd ⟨[a0],[]⟩=pure ([p0].zip [a0]))(us:List Value)(hl:us.length=([p0]:List Str).length):bindArgs fd ⟨us,[]⟩=pure ([p0].zip us):=by
 obtain⟨a0,r0,rfl,q0⟩:=ju8 hl;cases List.eq_nil_of_length_eq_zero q0;exact h a0
def jGv(h:∀ a0 a1:Value,bindArgs fd ⟨[a0,a1],[]⟩=pure ([p0,p1].zip [a0,a1]))(us:List Value)(hl:us.length=([p0,p1]:List Str).length):bindArgs fd ⟨us,[]⟩=pure ([p0,p1].zip us):=by
 obtain⟨a0,r0,rfl,q0⟩:=ju8 hl;obtain⟨a1,r1,rfl,q1⟩:=ju8 q0;cases List.eq_nil_of_length_eq_zero q1;exact h a0 a1
def jLq(h:∀ a0 a1 a2:Value,bindArgs fd ⟨[a0,a1,a2],[]⟩=pure ([p0,p1,p2].zip [a0,a1,a2]))(us:List Value)(hl:us.length=([p0,p1,p2]:List Str).length):bindArgs fd ⟨us,[]⟩=pure ([p0,p1,p2].zip us):=by
 obtain⟨a0,r0,rfl,q0⟩:=ju8 hl;obtain⟨a1,r1,rfl,q1⟩:=ju8 q0;obtain⟨a2,r2,rfl,q2⟩:=ju8 q1;cases List.eq_nil_of_length_eq_zero q2;exact h a0 a1 a2
inductive Fct(K:W.Frag)(x:Str)(s:Stmt):Prop
 | mk {f:Addr} {oc kV dc pm cd ct:Value} {od an:Option Addr} {sl:qe} (a:W.nsIn K mainGlobals x=some (some (.ref f))) (l:K.lookup f=some ⟨oc,od,.func (W.fnOf x x (jb4 s) (jaw s) (jab s) .none kV dc pm an cd ct),sl⟩) (c:W.codeIn K cd x=true) (k:W.keepIn K (.ref f)=true):Fct K x s
def ba:∀ p∈fl,∀ (kV ci pm:Value) (an:Option Addr) (bw ct:Value) (us:List Value),us.length=p.2.2.length->bindArgs (W.fnOf p.1 p.1 (jb4 (top p.2.1)) (jaw (top p.2.1)) (jab (top p.2.1)) .none kV ci pm an bw ct) ⟨us,[]⟩=pure (p.2.2.zip us):=by
 repeat refine l1 (fun _ _ _ _ _ _ us h=>by first|exact jLp (fun _=>rfl) us h|exact jGv (fun _ _=>rfl) us h|exact jLq (fun _ _ _=>rfl) us h|(rcases us with _|⟨a,_|⟨b,_|⟨c,_|⟨d,us⟩⟩⟩⟩<;>first|rfl|(cases h;done)|(rcases us with _|⟨e,us⟩<;>first|rfl|(cases h;done)))) ?_
 exact l0
def txt_mk(X:K.In h)(G:h.Ns mainGlobals mg)
    {t2:Tok}
    {uT vT wT:Tok}
    (af:W.nsIn K mainGlobals "OpenSum"=some (some (.ref C_OpenSum)))
    (av:W.plainGet K C_OpenSum Str.empty=true)
    (au:W.hasDictIn K C_OpenSum=true)
    (aq:W.plainOver K C_OpenSum=true)
    (ao:W.findIn K (.ref C_OpenSum) "__setattr__"=some (some (.builtin "object.__setattr__")))
    (am:W.findIn K (.ref C_OpenSum) "star"=some none)
    (ak:W.findIn K (.ref C_OpenSum) "term"=some none)
    (aj:W.findIn K (.ref C_OpenSum) "term_sign"=some none)
    (ai:W.findIn K (.ref C_OpenSum) "total"=some none)
    (nol:noL K=true)
    (hF:∀ p∈fl,Fct K p.1 (top p.2.1))
    (hB:∀ x∈bs,W.nsIn K mainGlobals x=some none)
    (a36:W.findIn K (.ref C_OpenSum) "__init__"=some (some (.ref f36)))
    (b36:W.isFn K (.ref f36)=true)
    (i36:W.makesIn K C_OpenSum=true)
    (j36:W.keepIn K (.ref C_OpenSum)=true)
    (l36:K.lookup f36=some ⟨oc36,od36,.func (W.fnOf "__init__" "OpenSum.__init__" (jb4 jbv) (jaw jbv) (jab jbv) .none kV36 dc36 pm36 an36 cd36 ct36),sl36⟩)
    (c36:W.codeIn K cd36 "OpenSum.__init__"=true)
    (k36:W.keepIn K (.ref f36)=true)
    (a40:W.findIn K (.ref C_OpenSum) "take_factor"=some (some (.ref f40)))
    (b40:W.isFn K (.ref f40)=true)
    (l40:K.lookup f40=some ⟨oc40,od40,.func (W.fnOf "take_factor" "OpenSum.take_factor" (jb4 ja2) (jaw ja2) (jab ja2) .none kV40 dc40 pm40 an40 cd40 ct40),sl40⟩)
    (c40:W.codeIn K cd40 "OpenSum.take_factor"=true)
    (k40:W.keepIn K (.ref f40)=true)
    (a42:W.findIn K (.ref C_OpenSum) "whole"=some (some (.ref f42)))
    (b42:W.isFn K (.ref f42)=true)
    (l42:K.lookup f42=some ⟨oc42,od42,.func (W.fnOf "whole" "OpenSum.whole" (jb4 jca) (jaw jca) (jab jca) .none kV42 dc42 pm42 an42 cd42 ct42),sl42⟩)
    (c42:W.codeIn K cd42 "OpenSum.whole"=true)
    (k42:W.keepIn K (.ref f42)=true)
    (a43:W.findIn K (.ref C_OpenSum) "take_sign"=some (some (.ref f43)))
    (b43:W.isFn K (.ref f43)=true)
    (l43:K.lookup f43=some ⟨oc43,od43,.func (W.fnOf "take_sign" "OpenSum.take_sign" (jb4 jbd) (jaw jbd) (jab jbd) .none kV43 dc43 pm43 an43 cd43 ct43),sl43⟩)
    (c43:W.codeIn K cd43 "OpenSum.take_sign"=true)
    (k43:W.keepIn K (.ref f43)=true)
    (y0:W.nsIn K mainGlobals "BEGINNING"=some (some (.str "beginning" t0)))
    (y1:W.nsIn K mainGlobals "BEHIND"=some (some (.str "behind" t1)))
    (y2:W.nsIn K mainGlobals "FACTOR"=some (some (.str "factor" t2)))
    (y3:W.nsIn K mainGlobals "KINDS"=some (some (.ref aT)))
    (yT:K.lookup aT=some ⟨.type "tuple",none,.seq #[.str "item" uT,.str "rule" vT,.str "deed" wT] nT,sT⟩)
    (y4:W.nsIn K mainGlobals "MOST_DEEDS"=some (some (.int 6 t4)))
    (y5:W.nsIn K mainGlobals "MOST_ITEMS"=some (some (.int 4 t5)))
    (y6:W.nsIn K mainGlobals "MOST_RULES"=some (some (.int 5 t6)))
    (y7:W.nsIn K mainGlobals "NAME_LENGTH"=some (some (.int 10 t7)))
    (y8:W.nsIn K mainGlobals "PART_FIGURES"=some (some (.int 18 t8)))
    (y9:W.nsIn K mainGlobals "PART_SIZE"=some (some (.int 1000000000000000000 t9))):Txt K mg :=
  have C:=jBr X G af av au aq ao (List.forall_mem_cons.mpr ⟨am,(List.forall_mem_cons.mpr ⟨ak,(List.forall_mem_cons.mpr ⟨aj,(List.forall_mem_cons.mpr ⟨ai,(List.forall_mem_nil _)⟩)⟩)⟩)⟩)
  ⟨C,
   nol,
   fun p hp=>by obtain⟨a,l,c,k⟩:=hF p hp;exact jCd X G (ba p hp) a l c k,
   fun x hx=>W.mg_none_of X G (hB x hx),
   jCl X G (fun _ _ _ _ _ _=>jGv (fun _ _=>rfl)) af i36 a36 b36 j36 l36 c36 k36,
   jn2 X G C (fun _ _ _ _ _ _=>jGv (fun _ _=>rfl)) af a40 b40 l40 c40 k40,
   jn2 X G C (fun _ _ _ _ _ _=>jLp (fun _=>rfl)) af a42 b42 l42 c42 k42,
   jn2 X G C (fun _ _ _ _ _ _=>jLq (fun _ _ _=>rfl)) af a43 b43 l43 c43 k43,
   ⟨_,W.mg_of X G y0⟩,
   ⟨_,W.mg_of X G y1⟩,
   ⟨_,W.mg_of X G y2⟩,
   tupAt3 X G y3 yT,
   ⟨_,W.mg_of X G y4⟩,
   ⟨_,W.mg_of X G y5⟩,
   ⟨_,W.mg_of X G y6⟩,
   ⟨_,W.mg_of X G y7⟩,
   ⟨_,W.mg_of X G y8⟩,
   ⟨_,W.mg_of X G y9⟩⟩
def walk{l:W.OpenLaw}{q:Program}{aw:List Str}{XP:(qa)->Heap->Prop}{YP:World->Heap->Prop}{d:DefRec}{K:Params->W.Frag}(hn:l.most=some 63)(ce:d.params.defaults=[])
  (hY:∀ (w:World) (h:Heap),YP w h->(K w.params).In h)
  (F:∀ (w:World) (mg:qa) (fa:Addr) (h:Heap),(K w.params).In h->h.Ns mainGlobals mg->mg d.name=some (.ref fa)->Txt (K w.params) mg/\mg "law"=some (.ref fa))
  (hm:∀ ns:List Int,ns.length<=63->∃ Ω,jCy [.lst (ns.map .int)] []=some (.ok (.bl true),Ω)) :
  W.WalkO q aw XP YP l.row.toRowW d [] (fun f vs=>PySem.call f vs) :=
 L2.walk_of (n:=63) (k:=13) (x:="_law_script") (CX:=fun _=>CX0) (sp:=fun w=>spA (K w.params) 1 jCy) hn (by decide) ce ⟨rfl,by decide,by decide⟩ hY
  (fun w mg fa h KX G hmg=>by
   obtain⟨T,hf⟩:=F w mg fa h KX G hmg;obtain⟨fd,FF,hb⟩:=jxi (T.f 64) hf (fun _ _ _ _ _ _ _ _=>.of_eq rfl);exact⟨fd,hb,fun base _ _=>(fn_E FF sc_law (jBh T)).imp fun vs H Q E z=>z mg⟩)
  (fun _ _ a ns hl _ hS=>fun mg=>let ⟨Ω,e⟩:=hm ns hl;jIt hS e) fun _ _ _ _ _ z=>z
def jEy{run:Value->List Value->Sem Value}
  (he:∀ P,as=(K P).map (·.1)) (h:W.WalkO q aw XP (fun w h=>(K w.params).In h) r d kwd run):W.WalkX q aw XP (W.X.obsZ as) (W.X.valZ K n t) r d kwd run:=by
 intro w s₀ s₁ mg mb G y a o pm cd ci dV kV ho hd hcd hD hmg hg args vals as' L;refine h w s₀ s₁ mg mb G ?_ a o pm cd ci dV kV ho hd hcd hD hmg hg args vals as';have e:(K w.params).In s₀.heap:=(W.X.z_facts he y).2.1;exact fun b o' q=>L.keeps b o' (e b o' q)
def walkZ{l:W.OpenLaw}(he:∀ P,as=(K P).map (·.1))(hn:l.most=some 63)(ce:d.params.defaults=[])
  (F:∀ (w:World) (mg:qa) (fa:Addr) (h:Heap),(K w.params).In h->h.Ns mainGlobals mg->mg d.name=some (.ref fa)->Txt (K w.params) mg/\mg "law"=some (.ref fa))
  (hm:∀ ns:List Int,ns.length<=63->∃ Ω,jCy [.lst (ns.map .int)] []=some (.ok (.bl true),Ω)) :
  W.WalkX q aw XP (W.X.obsZ as) (W.X.valZ K n t) l.row.toRowW d [] (fun f vs=>PySem.call f vs) :=
 jEy he (walk (K:=K) hn ce (fun _ _ y=>y) F hm)
abbrev Fm:=List Int×Int
def fm(f:Fm):D:=.tup [.tup (f.1.map .int),.int f.2]
abbrev of(a:Fm):Option D:=some (fm a)
def addF(a b:Fm):Fm:=((a.1.zip b.1).map fun p=>p.1+p.2,a.2+b.2)
def mulF(a:Fm)(n:Int):Fm:=(a.1.map (·*n),a.2*n)
def BF(k:Nat)(f:Fm):Prop:=(∀ c∈f.1,Bt k c)/\Bt k f.2
def jb8(f:Fm):Bool:=f.1.all (· == 0)
def mT(h:Bt a i)(k:Bt b j)(ha:autoParam (a<=100000) zau0._auto_1)(hb:autoParam (b<=100000) zau0._auto_1):gMulT (.int i) (.int j)=oI (i*j):=jr3 h k ha hb
def jIc(own:Nat)(caps:qf)(Y:DSt):jef own caps Y=List.replicate own none++caps.map fun p=>(Y[p.2]?).join:=rfl
def zip_tt(xs ys:List D):jbl [.tup xs,.tup ys]=some (zipD xs ys):=rfl
def stpA:=And.intro stp (And.intro (@jIc) True.intro)
def jbk(h:ds.length<=1000):jar ds=oL ds:=jIy (zdz h (by decide))
def jBe(a b:Fm)(h:a.1.length<=1000):jnz [fm a,fm b]=oK (fm (addF a b)):=by
 unfold jnz;rw[jd5];unfold jrj fm addF;simp only[stpA,(je8 (c:=[]) (fe:=jsy) (K:=fun p=>(D.int p.1,D.int p.2)) (a.1.zip b.1) _ _ (fun p hp=>by rfl)),jbk (ds:=List.map (fun p=>D.int _) (a.1.zip b.1)) (by grind)];rw[List.map_map];rfl
def joo(ha:BF k a)(hn:Bt l n)(hk:k<=100000)(hl:l<=100000)(h:a.1.length<=1000):jjk [fm a,.int n]=oK (fm (mulF a n)):=by
 unfold jjk;rw[jd5];unfold jrl fm mulF;simp only[stpA,(jba (c:=[oI n]) (fe:=jnc) (K:=D.int) a.1 _ (fun c hc=>by unfold jnc;simp only[stpA,jr3 (ha.1 c hc) hn hk hl];rfl)),jr3 ha.2 hn hk hl,jbk (ds:=List.map (fun c=>D.int _) a.1) (by grind)];rw[List.map_map];rfl
def jud(a:Fm)(h:a.1.length<=1000):jhc [fm a]=oK (.bl (jb8 a)):=by
 have e:=jba (c:=[]) (fe:=jk2) (K:=D.int) (F:=fun c=>.bl (c == 0)) a.1 none (fun c hc=>by rfl);unfold jhc;rw[jdw];unfold ji8 fm jb8;have e2:(a.1.map fun c=>D.bl (c == 0))=(a.1.map fun c=>(c == 0)).map .bl:=by rw[List.map_map];rfl
 rw[e2] at e;simp only[stpA,e,jwd,jbk (ds:=List.map D.bl (List.map (fun c=>c == 0) a.1)) (by grind)];simp[M.p]
def jhk(a b:Fm):Fm:=if jb8 b=true then mulF a b.2 else mulF b a.2
def jvn(ha:BF k a)(hb:BF k b)(hk:k<=100000)(h1:a.1.length<=1000)(h2:b.1.length<=1000)(hp:jb8 a=true\/jb8 b=true) :
  jiv [fm a,fm b,p]=oK (fm (jhk a b)):=by
 have tb:=jud b h2;have ta:=jud a h1;unfold jiv;rw[jhn];unfold jlg jhk;have e1:∀ f,gIx (fm f) (.int 1)=oI f.2:=fun f=>by unfold fm;simp
 by_cases q:jb8 b=true
 .simp only[stpA,tb,e1,(joo ha hb.2 hk hk h1),q];rfl
 .rw[Bool.not_eq_true] at q;have q2:jb8 a=true:=by rcases hp with hp|hp;exact hp;rw[q] at hp;cases hp
  rw[q2] at ta;simp only[stpA,tb,ta,e1,(joo hb ha.2 hk hk h2),q];rfl
structure OS where
 total:Fm
 term:Fm
 sign:Int
 star:Option Int
def jqn:Option Int->D
 | none=>.non
 | some i=>.int i
noncomputable def osO(o:OS):SO:=.ins "OpenSum" [("total",fm o.total),("term",fm o.term),("term_sign",.int o.sign),("star",jqn o.star)]
def jxl(h:Ω[i]? = some (osO o)):getO ["OpenSum"] "total" (.obj i) Ω=some (.ok (fm o.total),Ω):=by unfold getO;dsimp only;rw[h];rfl
def jtl(h:Ω[i]? = some (osO o)):getO ["OpenSum"] "term" (.obj i) Ω=some (.ok (fm o.term),Ω):=by unfold getO;dsimp only;rw[h];rfl
def jCi(h:Ω[i]? = some (osO o)):getO ["OpenSum"] "term_sign" (.obj i) Ω=some (.ok (.int o.sign),Ω):=by unfold getO;dsimp only;rw[h];rfl
def jtk(h:Ω[i]? = some (osO o)):getO ["OpenSum"] "star" (.obj i) Ω=some (.ok (jqn o.star),Ω):=by unfold getO;dsimp only;rw[h];rfl
def jzy(h:Ω[i]? = some (osO o))(f:Fm):putO ["OpenSum"] "total" (.obj i) (fm f) Ω=some (.ok (),Ω.set i (osO { o with total:=f })):=by unfold putO;dsimp only;rw[h];rfl
def juk(h:Ω[i]? = some (osO o))(f:Fm):putO ["OpenSum"] "term" (.obj i) (fm f) Ω=some (.ok (),Ω.set i (osO { o with term:=f })):=by unfold putO;dsimp only;rw[h];rfl
def jDw(h:Ω[i]? = some (osO o))(f:Int):putO ["OpenSum"] "term_sign" (.obj i) (.int f) Ω=some (.ok (),Ω.set i (osO { o with sign:=f })):=by unfold putO;dsimp only;rw[h];rfl
def juj(h:Ω[i]? = some (osO o))(f:Option Int):putO ["OpenSum"] "star" (.obj i) (jqn f) Ω=some (.ok (),Ω.set i (osO { o with star:=f })):=by unfold putO;dsimp only;rw[h];rfl
def stsA:=And.intro (@s_b) <| And.intro (@jah) <| And.intro (@s_p) <| And.intro (@s_lp) <| And.intro (@jKu) <| And.intro (@s_o) <| And.intro (@s_lF) <| And.intro (@jR4) <| And.intro (@jfe) <| And.intro (@s_2) <| And.intro (@s_L) <| And.intro (@joh) <| And.intro (@jf1) <| And.intro (@jAd) <| And.intro (@jqf) <| And.intro (@jhu) <| And.intro (@jR5) <| And.intro (@s_if) <| And.intro (@s_nx) <| And.intro (@jKv) <| And.intro (@jKw) <| And.intro (@jGx) <| And.intro (@s_B) <| And.intro (@jma) <| And.intro (@jK2) <| And.intro (@jsk) <| And.intro (@joi) <| And.intro (@jD7) <| And.intro (@jGk) <| And.intro (@jAc) <| And.intro (@jD6) <| True.intro
section
variable {Ω:Sto}{i:Nat}{o:OS}
def wholeF(o:OS):Fm:=addF o.total o.term
def jos(h:Ω[i]? = some (osO o))(w:o.total.1.length<=1000):jat [.obj i] Ω=some (.ok (fm (wholeF o)),Ω):=by
 unfold jat;rw[jPh];unfold jgq;simp only[stsA,stpA,jxl h,jtl h,jBe _ _ w];rfl
def jmb(h:Ω[i]? = some x)(y:SO):(Ω.set i y)[i]? = some y:=by
 grind
def jmc(x y:SO):(Ω.set i x).set i y=Ω.set i y:=by simp
def jO2(h:Ω[i]? = some (.ins "OpenSum" fs))(hl:fs.length<1000):putO ["OpenSum"] f (.obj i) d Ω=some (.ok (),Ω.set i (.ins "OpenSum" (putD f d fs))):=by
 unfold putO
 grind
def jKi(h:Ω[i]? = some (.ins "OpenSum" []))(hl:fs.length<1000)(e:putD f d fs=fs'):putO ["OpenSum"] f (.obj i) d (Ω.set i (.ins "OpenSum" fs))=some (.ok (),Ω.set i (.ins "OpenSum" fs')):=by
 rw[jO2 (jmb h _) hl,jmc,e]
def jIo(h:Ω[i]? = some (.ins "OpenSum" []))(n:Nat)(hn:n<=1000):jaq [.obj i,.int n] Ω=some (.ok .non,Ω.set i (osO ⟨(List.replicate n 0,0),(List.replicate n 0,0),1,none⟩)):=by
 unfold jaq;rw[jGl];unfold jf0
 let z:D:=.tup [.tup (List.replicate n (.int 0)),.int 0]
 have p1:putO _ _ _ (.tup _) Ω=some (.ok (),Ω.set i (.ins _ [("total",z)])):=jO2 h (by decide);have g1:getO ["OpenSum"] "total" (.obj i) (Ω.set i (.ins "OpenSum" [("total",z)]))=some (.ok z,Ω.set i (.ins "OpenSum" [("total",z)])):=by unfold getO;dsimp only;rw[(jmb h _)];rfl
 have p2:putO _ "term" _ z (Ω.set i (.ins "OpenSum" [("total",z)]))=some (.ok (),Ω.set i (.ins "OpenSum" [("total",z),("term",z)])):=jKi h (by grind) rfl;have p3:putO _ "term_sign" _ _ (Ω.set i (.ins "OpenSum" [("total",z),("term",z)]))=some (.ok (),Ω.set i (.ins "OpenSum" [("total",z),("term",z),("term_sign",.int 1)])):=jKi h (by grind) rfl;have p4:putO _ "star" _ .non (Ω.set i (.ins "OpenSum" [("total",z),("term",z),("term_sign",.int 1)]))=some _:=jKi h (by grind) rfl;simp only[stsA,stpA,Nat.reduceSub,(jMz (Y:=[some _,oI n]) (fl:=jaa (cI 0) fNil) (fb:=vR 1) _ n rfl rfl hn),p1,g1,p2,p3,p4];unfold osO fm;rw[List.map_replicate];rfl
def takeF(o:OS)(f:Fm):OS:={ o with term:=match o.star with
 | none=>mulF f o.sign
 | some _=>jhk o.term f }
def jpg(h:Ω[i]? = some (osO o))(hf:BF k f)(c7:f.1.length<=1000)(hk:k<=100000)(hs:Bt k o.sign)(ht:o.star≠none->BF k o.term/\o.term.1.length<=1000/\(jb8 o.term=true\/jb8 f=true)) :
  jan [.obj i,fm f] Ω=some (.ok .non,Ω.set i (osO (takeF o f))):=by
 unfold jan;rw[jGl];unfold jdm takeF
 cases e:o.star with
 | none =>
  have g1:=jtk h;rw[e] at g1;have i1:gIs (jqn none) .non=some (.bl true):=rfl;simp only[stsA,stpA,g1,i1,jCi h,(joo hf hs hk hk c7),juk h];rw[e]
 | some p =>
  have g1:=jtk h;rw[e] at g1;obtain⟨t1,t2,t3⟩:=ht (by grind);have i1:gIs (jqn (some p)) .non=some (.bl false):=rfl;simp only[stsA,stpA,g1,i1,jtl h,(jvn t1 hf hk t2 c7 t3),juk h];rw[e]
noncomputable def signF(o:OS)(c:Str)(p:Int):OS:=if c="*" then { o with star:=some p } else { total:=wholeF o,term:=o.term,sign:=if c="-" then -1 else 1,star:=none }
def jey(x y:Str):gEq (.str x) (.str y)=some (.bl (x == y)):=rfl
def jK4(h:Ω[i]? = some (osO o))(w:o.total.1.length<=1000):jbb [.obj i,.str c,.int p] Ω=some (.ok .non,Ω.set i (osO (signF o c p))):=by
 unfold jbb;rw[jPi];unfold jd6 signF
 by_cases q:c="*"
 .have q':(c == "*")=true:=by rw[q];rfl
  have x:=juj h (some p);rw[show jqn _=D.int p from rfl] at x;simp only[stsA,stpA,jey,q',x,if_pos q]
 .have q':=beq_eq_false_iff_ne.mpr q;have y:jn3 "OpenSum" "whole" jat i (lF fNil) [some (.obj i),oS c,oI p] Ω=some (.ok (fm (wholeF o)),Ω):=by
   unfold jn3;rw[h];show (if _/\_ then _ else _)=_;rw[if_pos ⟨rfl,rfl⟩];simp only[stsA,stpA,(jos h w)]
  have p1:=jzy h (wholeF o);have p2:=fun n=>jDw (jmb h (osO { o with total:=wholeF o })) n
  have p3:=fun n=>juj ((fun n=>jmb h _) n) none
  rw[show jqn _=D.non from rfl] at p3
  by_cases q2:c="-"
  .have q2':(c == "-")=true:=by rw[q2];rfl
   simp only[stsA,stpA,Nat.reduceSub,jey,q',y,p1,q2',p2,jmc,p3,if_neg q,if_pos q2]
  .simp only[stsA,stpA,Nat.reduceSub,jey,q',y,p1,(beq_eq_false_iff_ne.mpr q2),p2,jmc,p3,if_neg q,if_neg q2]
end
def Stk(Ω:Sto):List Nat->List OS->Prop
 | [],[]=>True
 | i::r,o::os=>Ω[i]? = some (osO o)/\i∉r/\Stk Ω r os
 | _,_=>False
theorem Stk.set:∀ {r:List Nat} {os:List OS},i∉r->Stk Ω r os->Stk (Ω.set i x) r os
 | [],[],_,_=>trivial
 | j::r,o::os,hi,h=>by
  obtain⟨h1,h2,h3⟩:=h;exact⟨by rw[zbw (fun e=>hi (by grind))];exact h1,h2,Stk.set (fun z=>hi (zaw _ z)) h3⟩
 | [],_::_,_,h=>h.elim
 | _::_,[],_,h=>h.elim
theorem Stk.push:∀ {r:List Nat} {os:List OS},Stk Ω r os->Stk (Ω++[x]) r os
 | [],[],_=>trivial
 | j::r,o::os,h=>by
  obtain⟨h1,h2,h3⟩:=h;have:=(zbb.mp h1).1;exact⟨by grind,h2,Stk.push h3⟩
 | [],_::_,h=>h.elim
 | _::_,[],h=>h.elim
theorem Stk.lt:∀ {r:List Nat} {os:List OS},Stk Ω r os->∀ i∈r,i<Ω.length
 | [],[],_=>fun i hi=>(nomatch hi)
 | j::r,o::os,h=>fun i hi=>by
  rcases List.mem_cons.mp hi with rfl|hi
  .exact (zbb.mp h.1).1
  .exact Stk.lt h.2.2 i hi
 | [],_::_,h=>h.elim
 | _::_,[],h=>h.elim
def fresh(n:Nat):OS:=⟨(List.replicate n 0,0),(List.replicate n 0,0),1,none⟩
def jyl{n:Nat}(hn:n<=1000):jyk "OpenSum" jaq [.int n] Ω=some (.ok (.obj Ω.length),Ω++[osO (fresh n)]):=by
 unfold jyk;rw[s_b,jIo (by simp) n hn];simp[fresh]
def KB:Nat:=90000
structure OkT(n:Nat)(b:OS)(f:Fm):Prop where
 lf:f.1.length=n
 bf:BF KB f
 bs:Bt KB b.sign
 pl:b.star≠none->BF KB b.term/\b.term.1.length=n/\(jb8 b.term=true\/jb8 f=true)
def jc5(w:Str):Bool:=inD (.str w) [.str "+",.str "-",.str "*"]
def jj4(h:jc5 w=true):w="+"\/w="-"\/w="*":=by
 have:(("+") == w || (("-") == w || (("*") == w || false)))=true:=h
 grind
def jkq(w:Str):gIn (.str w) (.tup [.str "+",.str "-",.str "*"])=some (.bl (jc5 w)):=rfl
inductive Run(n:Nat)(ae:Str->Fm)(wd:Str->Prop):List (Str×Int)->List OS->List OS->Prop
 | nil (os:List OS):Run n ae wd [] os os
 | opn {ts:List (Str×Int)} {os ah:List OS} {p:Int}:Run n ae wd ts (fresh n::os) ah->Run n ae wd (("(",p)::ts) os ah
 | cls {ts:List (Str×Int)} {a b:OS} {r ah:List OS} {p:Int}:a.total.1.length=n->OkT n b (wholeF a)->Run n ae wd ts (takeF b (wholeF a)::r) ah->Run n ae wd ((")",p)::ts) (a::b::r) ah
 | sgn {ts:List (Str×Int)} {a:OS} {r ah:List OS} {c:Str} {p:Int}:jc5 c=true->a.total.1.length=n->Run n ae wd ts (signF a c p::r) ah->Run n ae wd ((c,p)::ts) (a::r) ah
 | wrd {ts:List (Str×Int)} {a:OS} {r ah:List OS} {w:Str} {p:Int}:wd w->OkT n a (ae w)->Run n ae wd ts (takeF a (ae w)::r) ah->Run n ae wd ((w,p)::ts) (a::r) ah
def Run.append{t1 t2:List (Str×Int)}{os cr cq:List OS}(h1:Run n ae wd t1 os cr)(h2:Run n ae wd t2 cr cq):Run n ae wd (t1++t2) os cq:=by
 induction h1 with
 | nil _=>exact h2
 | opn _ ih=>exact .opn (ih h2)
 | cls x y _ ih=>exact .cls x y (ih h2)
 | sgn x y _ ih=>exact .sgn x y (ih h2)
 | wrd x y _ ih=>exact .wrd x y (ih h2)
def jGz(xs:List α)(x:α):atI (xs++[x]) (-1)=some x:=by
 unfold atI ixN;rw[if_neg nofun,if_pos (by simp;lia)];have:(-1+(((xs++[x]).length):Int)).toNat=xs.length:=by simp;lia
 simp_all
def idsD(r:List Nat):D:=.lst (r.reverse.map .obj)
def jns(i:Nat)(r:List Nat):idsD (i::r)=.lst (r.reverse.map .obj++[.obj i]):=by unfold idsD;simp
section
variable {r:List Nat}{os:List OS}
def jrr:gIx (idsD (i::r)) (.int (-1))=some (.obj i):=by
 rw[jns];exact jGz _ _
def jlt{fl:DSt->MS (List D)}(h:Ω[i]? = some (osO o))(hf:([("total",fm o.total),("term",fm o.term),("term_sign",.int o.sign),("star",jqn o.star)]:List (Str×D)).lookup f=none) :
  jn3 "OpenSum" f m i fl Y Ω=((fl Y).b fun ds=>m (.obj i::ds)) Ω:=by
 unfold jn3;rw[h];show (if _/\_ then _ else _)=_
 grind
def RS1(nm pc:D)(r:List Nat)(Y:DSt):Prop:=∃ x y z,Y=[some nm,some pc,some (idsD r),x,y,z]
def jLr{i:Nat}{fa:DSt->MS D}{Y:DSt}{ds:List D}{d:D}{Ω Ω':Sto}(h:fa Y Ω=some (.ok d,Ω'))(hi:(Y[i]?).join=oL ds)(hl:ds.length<sizeLine):eApp i fa Y Ω=some (.ok (.nx (Y.set i (oL (ds++[d])))),Ω'):=by
 simp_all [eApp,s_b,jah,if_pos]
def jIm(hr:r.length<=1000000):(r.reverse.map D.obj).length<sizeLine:=by
 rw[zav,List.length_reverse,sizeLine_eq]
 lia
def jEl(hn:n<=1000)(hl:L.length=n)(S:Stk Ω r os)(hr:r.length<=1000000) :
  ja9 [oL L,some pc,some (idsD r),some (.str "("),oI p,z] Ω=some (.ok (.nx [oL L,some pc,some (idsD (Ω.length::r)),some (.str "("),oI p,z]),Ω++[osO (fresh n)])/\Stk (Ω++[osO (fresh n)]) (Ω.length::r) (fresh n::os):=by
 refine⟨?_,by simp,fun hi=>Nat.lt_irrefl _ (S.lt _ hi),S.push⟩;unfold ja9;have q:((Str.ofString "(") == (Str.ofString "("))=true:=by decide +kernel
 have e:jpv "OpenSum" jaq (lF (jaa (fL kLen (jaa (vR 0) fNil)) fNil)) [oL L,some pc,some (idsD r),some (.str "("),oI p,z] Ω=some (.ok (.obj Ω.length),Ω++[osO (fresh n)]):=by
  have l:lF (jaa (fL kLen (jaa (vR 0) fNil)) fNil) [oL L,some pc,some (idsD r),some (.str "("),oI p,z] Ω=some (.ok [.int n],Ω):=by simp only[stsA,stpA,hl]
  rw[jAc,s_b,l,jah,(jyl hn)]
 generalize jpv _ _ _=X at e |-
 have a:eApp 2 X [oL L,some pc,some (idsD r),some (.str "("),oI p,z] Ω=some (.ok (.nx [oL L,some pc,some (idsD (Ω.length::r)),some (.str "("),oI p,z]),Ω++[osO (fresh n)]):=by
  rw[jns];exact jLr e rfl (jIm hr)
 have t:lF (t2 gEq (vR 3) (fC (.str "("))) [oL L,some pc,some (idsD r),some (.str "("),oI p,z] Ω=some (.ok true,Ω):=by simp only[stsA,stpA,jey,q]
 rw[s_if,s_b,t,jah,if_pos rfl,a]
def jEm(hc:jc5 c=true)(hn:n<=1000)(ht:o.total.1.length=n)(S:Stk Ω (i::r) (o::os)) :
  ja9 [some nm,some pc,some (idsD (i::r)),oS c,oI p,z] Ω=some (.ok (.nx [some nm,some pc,some (idsD (i::r)),oS c,oI p,z]),Ω.set i (osO (signF o c p)))/\Stk (Ω.set i (osO (signF o c p))) (i::r) (signF o c p::os):=by
 refine⟨?_,jmb S.1 _,S.2.1,S.2.2.set S.2.1⟩;unfold ja9;have q1:(c == Str.ofString "(")=false:=by rcases jj4 hc with rfl|rfl|rfl<;>decide +kernel
 have q2:(c == Str.ofString ")")=false:=by rcases jj4 hc with rfl|rfl|rfl<;>decide +kernel
 simp only[stsA,stpA,jey,q1,q2,jkq,hc,jrr,(fun (fl) (Y)=>jlt (m:=jbb) (fl:=fl) (Y:=Y) (f:="take_sign") S.1 rfl),(jK4 S.1 (by lia))]
def jEo(h1:(w == Str.ofString "(")=false)(h2:(w == Str.ofString ")")=false)(h3:jc5 w=false)(hf:jdk [nm,.str w]=oK (fm f))(hn:n<=1000)(T:OkT n o f)(S:Stk Ω (i::r) (o::os)) :
  ja9 [some nm,some pc,some (idsD (i::r)),oS w,oI p,z] Ω=some (.ok (.nx [some nm,some pc,some (idsD (i::r)),oS w,oI p,z]),Ω.set i (osO (takeF o f)))/\Stk (Ω.set i (osO (takeF o f))) (i::r) (takeF o f::os):=by
 refine⟨?_,jmb S.1 _,S.2.1,S.2.2.set S.2.1⟩;unfold ja9;simp only[stsA,stpA,jey,h1,h2,jkq,h3,jrr,(fun (fl) (Y)=>jlt (m:=jan) (fl:=fl) (Y:=Y) (f:="take_factor") S.1 rfl),hf,(jpg S.1 T.bf (by rw[T.lf];exact hn) (by decide) T.bs (fun z=>let ⟨a,b,c⟩:=T.pl z;⟨a,by lia,c⟩))]
def jEk(hn:n<=1000)(ht:o.total.1.length=n)(T:OkT n b (wholeF o))(S:Stk Ω (i::j::r) (o::b::os)) :
  ja9 [some nm,some pc,some (idsD (i::j::r)),some (.str ")"),oI p,z] Ω=some (.ok (.nx [some nm,some pc,some (idsD (j::r)),some (.str ")"),oI p,some (.obj i)]),Ω.set j (osO (takeF b (wholeF o))))/\Stk (Ω.set j (osO (takeF b (wholeF o)))) (j::r) (takeF b (wholeF o)::os):=by
 have Sb:=S.2.2;refine⟨?_,jmb Sb.1 _,Sb.2.1,Sb.2.2.set Sb.2.1⟩;unfold ja9;have q1:(Str.ofString ")" == Str.ofString "(")=false:=by decide +kernel
 have q2:(Str.ofString ")" == Str.ofString ")")=true:=by decide +kernel
 have pp:ePop 5 2 [some nm,some pc,some (idsD (i::j::r)),some (.str ")"),oI p,z] Ω=some (.ok (.nx [some nm,some pc,some (idsD (j::r)),some (.str ")"),oI p,some (.obj i)]),Ω):=by
  unfold ePop;rw[jns];have e1:((j::r).reverse.map D.obj++[D.obj i])[((j::r).reverse.map D.obj++[D.obj i]).length-1]? = some (D.obj i):=by simp
  simp only[stpA];rw[e1,List.dropLast_concat];rfl
 simp only[stsA,stpA,jey,q1,q2,pp,jrr,(fun (fl) (Y)=>jlt (m:=jan) (fl:=fl) (Y:=Y) (f:="take_factor") Sb.1 rfl),(fun (fl) (Y)=>jlt (m:=jat) (fl:=fl) (Y:=Y) (f:="whole") S.1 rfl),(jos S.1 (by lia)),(jpg Sb.1 T.bf (by rw[T.lf];exact hn) (by decide) T.bs (fun z=>let ⟨a,b,c⟩:=T.pl z;⟨a,by lia,c⟩))]
end
def pcD(q:Str×Int):D:=.tup [.str q.1,.int q.2]
def jcx{g:DSt->MS Out}{tg:D->DSt->Option DSt}{d:D}{ds:List D}{Y Y1 Y2:DSt}{Ω Ω1:Sto}(h1:tg d Y=some Y1)(h2:g Y1 Ω=some (.ok (.nx Y2),Ω1)):forE g tg (d::ds) Y Ω=forE g tg ds Y2 Ω1:=by
 simp_all [forE,s_b,jah]
structure Wd(nm:D)(ae:Str->Fm)(w:Str):Prop where
 p1:(w == Str.ofString "(")=false
 p2:(w == Str.ofString ")")=false
 p3:jc5 w=false
 fw:jdk [nm,.str w]=oK (fm (ae w))
def Stk.inv{os:List OS}(h:Stk Ω r (a::os)):∃ i r',r=i::r':=by
 cases r with
 | nil=>exact h.elim
 | cons i r'=>grind
structure Kept(N:Nat)(Ω Ω':Sto):Prop where
 at':∀ i,i<N->Ω'[i]? = Ω[i]?
 le:Ω.length<=Ω'.length
theorem Kept.refl(N:Nat)(Ω:Sto):Kept N Ω Ω:=⟨fun _ _=>rfl,zac _⟩
def Kept.trans(a:Kept N Ω Ω1)(b:Kept N Ω1 Ω2):Kept N Ω Ω2:=⟨fun i h=>(b.at' i h).trans (a.at' i h),zdz a.le b.le⟩
def Kept.mono{N M:Nat}(a:Kept N Ω Ω1)(h:M<=N):Kept M Ω Ω1:=⟨fun i q=>a.at' i (zcx q h),a.le⟩
def Kept.set(h:N<=i):Kept N Ω (Ω.set i x):=⟨fun j q=>zbw (by lia),by grind⟩
def Kept.app(h:N<=Ω.length):Kept N Ω (Ω++r):=⟨fun j q=>List.getElem?_append_left (by lia),by grind⟩
def jIx(hn:n<=1000)(hl:L.length=n){os ah:List OS}(R:Run n ae (Wd (.lst L) ae) ts os ah) :
  ∀ (r:List Nat) (Ω:Sto) (Y:DSt),RS1 (.lst L) pc r Y->Stk Ω r os->r.length+ts.length<=1000000->(∀ i∈r,N<=i)->N<=Ω.length ->
   ∃ Y' r' Ω',forE ja9 (jbe 3 4) (ts.map pcD) Y Ω=some (.ok (.nx Y'),Ω')/\RS1 (.lst L) pc r' Y'/\Stk Ω' r' ah/\Kept N Ω Ω':=by
 induction R with
 | nil os=>intro r Ω Y h S _ _ _;exact⟨Y,r,Ω,rfl,h,S,.refl _ _⟩
 | opn _ ih =>
  rename_i ts os ah p hR;intro r Ω Y h S hz hN hO;obtain⟨x,y,z,rfl⟩:=h;simp only[List.length_cons] at hz;obtain⟨e,S'⟩:=jEl hn hl S (by lia);rw[List.map_cons,jcx rfl e];obtain⟨a1,a2,a3,a4,a5,a6,a7⟩:=ih _ _ _ ⟨_,_,_,rfl⟩ S' (by simp only[List.length_cons];lia) (fun i hi=>(List.mem_cons.mp hi).elim (fun z=>by lia) (hN i)) (by grind);exact⟨a1,a2,a3,a4,a5,a6,(Kept.app hO).trans a7⟩
 | cls ht T hR ih =>
  rename_i ts a b os ah p;intro r Ω Y h S hz hN hO;obtain⟨x,y,z,rfl⟩:=h;obtain⟨i,r1,rfl⟩:=S.inv;obtain⟨j,r2,rfl⟩:=Stk.inv S.2.2;simp only[List.length_cons] at hz;obtain⟨e,S'⟩:=jEk hn ht T S;rw[List.map_cons,jcx rfl e];obtain⟨a1,a2,a3,a4,a5,a6,a7⟩:=ih _ _ _ ⟨_,_,_,rfl⟩ S' (by simp only[List.length_cons];lia) (fun i hi=>hN i (zaw _ hi)) (by rw[List.length_set];exact hO);exact⟨a1,a2,a3,a4,a5,a6,(Kept.set (hN j (zaw _ zaa))).trans a7⟩
 | sgn hc ht hR ih =>
  rename_i ts a os ah c p;intro r Ω Y h S hz hN hO;obtain⟨x,y,z,rfl⟩:=h;obtain⟨i,r1,rfl⟩:=S.inv;simp only[List.length_cons] at hz;obtain⟨e,S'⟩:=jEm hc hn ht S;rw[List.map_cons,jcx rfl e];obtain⟨a1,a2,a3,a4,a5,a6,a7⟩:=ih _ _ _ ⟨_,_,_,rfl⟩ S' (by simp only[List.length_cons];lia) (fun i hi=>hN i hi) (by rw[List.length_set];exact hO);exact⟨a1,a2,a3,a4,a5,a6,(Kept.set (hN i zaa)).trans a7⟩
 | wrd hw T hR ih =>
  rename_i ts a os ah w p;intro r Ω Y h S hz hN hO;obtain⟨x,y,z,rfl⟩:=h;obtain⟨i,r1,rfl⟩:=S.inv;simp only[List.length_cons] at hz;obtain⟨e,S'⟩:=jEo hw.p1 hw.p2 hw.p3 hw.fw hn T S;rw[List.map_cons,jcx rfl e];obtain⟨a1,a2,a3,a4,a5,a6,a7⟩:=ih _ _ _ ⟨_,_,_,rfl⟩ S' (by simp only[List.length_cons];lia) (fun i hi=>hN i hi) (by rw[List.length_set];exact hO);exact⟨a1,a2,a3,a4,a5,a6,(Kept.set (hN i zaa)).trans a7⟩
def jsd(hn:n<=1000)(hl:L.length=n)(R:Run n ae (Wd (.lst L) ae) ts [fresh n] [a])(ha:a.total.1.length=n)(hz:ts.length<=100000)(Ω:Sto) :
  ∃ Ω',jjj [.lst L,.lst (ts.map pcD)] Ω=some (.ok (fm (wholeF a)),Ω')/\Kept Ω.length Ω Ω':=by
 have m:=jyl (Ω:=Ω) hn;have e1:eSet 2 (mL jar (jbh (jpv "OpenSum" jaq (lF (jaa (fL kLen (jaa (vR 0) fNil)) fNil))) (lF fNil))) [oL L,oL (ts.map pcD),none,none,none,none] Ω=some (.ok (.nx [oL L,oL (ts.map pcD),some (idsD [Ω.length]),none,none,none]),Ω++[osO (fresh n)]):=by
  have l:lF (jaa (fL kLen (jaa (vR 0) fNil)) fNil) [oL L,oL (ts.map pcD),none,none,none,none] Ω=some (.ok [.int n],Ω):=by simp only[stsA,stpA,hl]
  have e:jpv "OpenSum" jaq (lF (jaa (fL kLen (jaa (vR 0) fNil)) fNil)) [oL L,oL (ts.map pcD),none,none,none,none] Ω=some (.ok (.obj Ω.length),Ω++[osO (fresh n)]):=by
   rw[jAc,s_b,l,jah,m]
  rw[jAd,s_b,s_L,s_b,jfe,s_b,e,jah];rfl
 have S0:Stk (Ω++[osO (fresh n)]) [Ω.length] [fresh n]:=⟨by simp,by simp,trivial⟩
 obtain⟨Y',r',Ω',e2,⟨x,y,z,rfl⟩,S',kp⟩:=jIx (N:=Ω.length) hn hl R _ _ _ ⟨_,_,_,rfl⟩ S0 (by simp;lia) (fun i hi=>by simp at hi;lia) (by simp);obtain⟨i,r1,rfl⟩:=S'.inv;have hr1:r1=[]:=by
  cases r1 with
  | nil=>rfl
  | cons _ _=>exact S'.2.2.elim
 subst hr1;refine⟨Ω',?_,(Kept.app (zac _)).trans kp⟩;show ((jje [oL L,oL (ts.map pcD),none,none,none,none]).b outE) Ω=_;unfold jje;have e3:eRet (jmm "OpenSum" "whole" jat (lF (f2 gIx (vR 2) (cI 0))) (lF fNil)) [oL L,oL (ts.map pcD),some (idsD [i]),x,y,z] Ω'=some (.ok (.rt (fm (wholeF a))),Ω'):=by
  have i0:lF (f2 gIx (vR 2) (cI 0)) [oL L,oL (ts.map pcD),some (idsD [i]),x,y,z] Ω'=some (.ok (.obj i),Ω'):=by unfold idsD;simp only[stsA,stpA,List.reverse_cons,List.reverse_nil]
  rw[jqf,s_b,jGk,s_b,i0,jah];dsimp only;rw[jlt (f:="whole") S'.1 rfl,s_b,s_lF,jxc,s_lp,jah,(jos S'.1 (by lia)),jah];rfl
 have e4:eFor (lF (jbs (vR 1))) (jbe 3 4) ja9 [oL L,oL (ts.map pcD),some (idsD [Ω.length]),none,none,none] (Ω++[osO (fresh n)])=some (.ok (.nx [oL L,oL (ts.map pcD),some (idsD [i]),x,y,z]),Ω'):=by
  rw[jD6,s_b];have i0:lF (jbs (vR 1)) [oL L,oL (ts.map pcD),some (idsD [Ω.length]),none,none,none] (Ω++[osO (fresh n)])=some (.ok (ts.map pcD),Ω++[osO (fresh n)]):=by simp only[stsA,stpA]
  rw[i0,jah,e2]
 rw[s_b,jsk,s_b,e1,jah,jma,jsk,s_b,e4,jah,jma,e3,jah];rfl
theorem jd0(f:Fm)(n:Int):(mulF f n).1.length=f.1.length:=by unfold mulF;simp
def jna(h:f.1.length=g.1.length):(addF f g).1.length=f.1.length:=by grind [addF]
def jhg(f:Fm):mulF f 1=f:=by unfold mulF;simp
theorem jt1(f:Fm)(a b:Int):mulF (mulF f a) b=mulF f (a*b):=by
 unfold mulF;simp[Int.mul_assoc]
def jyt(f:Fm)(a b:Int):mulF (mulF f a) b=mulF (mulF f b) a:=by grind [jt1,Int.mul_comm]
def jzo(h:jb8 f=true)(n:Int):jb8 (mulF f n)=true:=by
 unfold jb8 mulF at *
 grind
def juc(h:jb8 f=true):f=(List.replicate f.1.length 0,f.2):=by
 obtain⟨cs,k⟩:=f;unfold jb8 at h;simp only[List.all_eq_true,beq_iff_eq] at h;have:=List.eq_replicate_iff.mpr ⟨rfl,h⟩;rw[<- this]
def jij:addF (List.replicate f.1.length 0,0) f=f:=by
 obtain⟨cs,k⟩:=f;unfold addF;simp only[Int.zero_add,Prod.mk.injEq,and_true]
 induction cs<;>simp_all [List.length_cons,List.replicate_succ,List.zip_cons_cons,List.map_cons,Int.zero_add]
def jzr(h:jb8 f=true)(hl:f.1.length=g.1.length):jhk f g=mulF g f.2:=by
 unfold jhk
 split
 .rename_i hg;rw[juc h,juc hg,hl];unfold mulF;simp[Int.mul_comm]
 .rfl
def BF.mono(h:BF j f)(hk:j<=k):BF k f:=⟨fun c hc=>(h.1 c hc).mono hk,h.2.mono hk⟩
def BF.mul(h:BF j f)(hn:Bt k n):BF (j+k) (mulF f n):=by
 refine⟨fun c hc=>?_,h.2.mul hn⟩;obtain⟨d,hd,rfl⟩:=zcv.mp hc;exact (h.1 d hd).mul hn
def BF.neg(h:BF j f):BF j (mulF f (-1)):=by
 refine⟨fun c hc=>?_,?_⟩
 .obtain⟨d,hd,rfl⟩:=zcv.mp hc;have:=(h.1 d hd).neg;simpa[Int.mul_neg] using this
 .have:=h.2.neg;show Bt j (f.2*-1);simpa[Int.mul_neg] using this
def BF.add(h:BF j f)(k:BF j g):BF (j+1) (addF f g):=by
 refine⟨fun c hc=>?_,h.2.add k.2⟩;obtain⟨⟨a,b⟩,hd,rfl⟩:=zcv.mp hc;have:=zca hd;exact (h.1 _ this.1).add (k.1 _ this.2)
def BF.sgn(h:BF j f)(hs:s=1\/s=-1):BF j (mulF f s):=by
 rcases hs with rfl|rfl
 .rw[jhg];exact h
 .exact h.neg
structure FO(n:Nat)(f:Fm):Prop where
 len:f.1.length=n
 bf:BF KB f
variable (n ae wd) in
def jwb(ts:List Str)(f:Fm):Prop:=∀ ps:List (Str×Int),ps.map (·.1)=ts->∀ o r,OkT n o f->Run n ae wd ps (o::r) (takeF o f::r)
variable (n ae wd) in
def jii(ts:List Str)(f:Fm):Prop:=∀ ps:List (Str×Int),ps.map (·.1)=ts->∀ (o:OS) (r:List OS),o.star=none->(o.sign=1\/o.sign=-1)->o.total.1.length=n->∃ o',Run n ae wd ps (o::r) (o'::r)/\o'.total=o.total/\o'.term=mulF f o.sign/\(o'.sign=o.sign)
variable (n ae wd) in
def jk0(ts:List Str)(f:Fm):Prop:=∀ ps:List (Str×Int),ps.map (·.1)=ts->∀ r:List OS,∃ o',Run n ae wd ps (fresh n::r) (o'::r)/\wholeF o'=f/\o'.total.1.length=n/\o'.term.1.length=n
def jGn(h:s=1\/s=-1):Bt KB s:=by
 have:Bt 1 s:=by unfold Bt;rcases h with rfl|rfl<;>decide
 exact this.mono (by decide)
def jCa{w:Str}(hw:wd w):jwb n ae wd [w] (ae w):=by
 intro ps hp o r T;obtain⟨q,ps',rfl⟩:∃ q ps',ps=q::ps':=by cases ps<;>grind
 simp only[List.map_cons,List.cons.injEq,List.map_eq_nil_iff] at hp;obtain⟨rfl,rfl⟩:=hp;exact .wrd hw T (.nil _)
def jrv{ps:List (Str×Int)}(h:ps.map (·.1)=a++b):∃ p1 p2,ps=p1++p2/\p1.map (·.1)=a/\p2.map (·.1)=b:=by
 obtain⟨p1,p2,e,h1,h2⟩:=List.map_eq_append_iff.mp h
 grind
def jlr{ps:List (Str×Int)}(h:ps.map (·.1)=a::b):∃ p p2,ps=(a,p)::p2/\p2.map (·.1)=b:=by
 cases ps<;>grind
def jxh(hs:jk0 n ae wd ts f):jwb n ae wd ((("(":Str)::ts)++[(")":Str)]) f:=by
 intro ps hp o r T;obtain⟨p1,p2,rfl,h1,h2⟩:=jrv hp;obtain⟨p,q1,rfl,h4⟩:=jlr h1;obtain⟨p',q2,rfl,h3⟩:=jlr h2;have h2':=List.map_eq_nil_iff.mp h3;subst h2';obtain⟨o',R,w,l1,l2⟩:=hs q1 h4 _;refine .opn (R.append (.cls l1 (by grind) ?_));rw[w];exact .nil _
def jEs(h:jwb n ae wd ts f)(hf:FO n f):jii n ae wd ts f:=by
 intro ps hp o r hs hg _;refine⟨_,h ps hp o r ⟨hf.len,hf.bf,jGn hg,fun z=>absurd hs z⟩,rfl,?_,rfl⟩
 grind [takeF]
def jxw:jc5 "*"=true:=by decide +kernel
def jxv:jc5 "+"=true:=by decide +kernel
def jnu:jc5 "-"=true:=by decide +kernel
def jvx(o:OS)(p:Int):signF o "+" p=⟨wholeF o,o.term,1,none⟩:=by unfold signF;rw[if_neg (by decide +kernel),if_neg (by decide +kernel)]
def jsn(o:OS)(p:Int):signF o "-" p=⟨wholeF o,o.term,-1,none⟩:=by unfold signF;rw[if_neg (by decide +kernel),if_pos rfl]
def jDs(f g:Fm)(t:Int):jhk (mulF f t) g=mulF (jhk f g) t:=by
 unfold jhk
 split
 .exact jyt _ _ _
 .show mulF g (f.2*t)=_;rw[jt1]
def jEt(h1:jii n ae wd ts f)(h2:jwb n ae wd us g)(hf:FO n f)(hg:FO n g)(hp:jb8 f=true\/jb8 g=true):jii n ae wd (ts++("*":Str)::us) (jhk f g):=by
 intro ps hps o r hs hsg ht;obtain⟨p1,p2,rfl,e1,e2⟩:=jrv hps;obtain⟨p,q2,rfl,e3⟩:=jlr e2;obtain⟨o1,R,t1,t2,t3⟩:=h1 p1 e1 o r hs hsg ht;have T:OkT n { o1 with star:=some p } g:=⟨hg.len,hg.bf,by rw[t3];exact jGn hsg,fun _=>by
  rw[t2];exact⟨hf.bf.sgn hsg,by rw[jd0];exact hf.len,hp.imp (fun z=>jzo z _) id⟩⟩
 refine⟨takeF { o1 with star:=some p } g,R.append (.sgn jxw (by grind) (h2 q2 e3 _ _ T)),t1,?_,t3⟩
 .show jhk _ g=_;rw[t2,jDs]
def jEq(h:jii n ae wd ts f)(hf:FO n f):jk0 n ae wd ts f:=by
 intro ps hp r;obtain⟨o',R,t1,t2,t3⟩:=h ps hp (fresh n) r rfl (.inl rfl) (by simp[fresh]);have e2:o'.term=f:=by rw[t2];exact jhg f
 refine⟨o',R,?_,by grind [fresh],by rw[e2];exact hf.len⟩;unfold wholeF;rw[t1,e2,show (fresh n).total=(List.replicate f.1.length 0,0) by rw[hf.len];rfl];exact jij
def jLa(h:jii n ae wd ts f)(hf:FO n f):jk0 n ae wd (("-":Str)::ts) (mulF f (-1)):=by
 intro ps hp r;obtain⟨p,q,rfl,e⟩:=jlr hp;have hw:wholeF (fresh n)=(List.replicate n 0,0):=by
  have:=jij (f:=(List.replicate n 0,0));rw[List.length_replicate] at this;exact this
 obtain⟨o',R,t1,t2,t3⟩:=h q e ⟨wholeF _,_,-1,_⟩ r rfl (.inr rfl) (by rw[hw];simp);refine⟨o',.sgn jnu (by simp[fresh]) (R),?_,by grind,by rw[t2,jd0];exact hf.len⟩;unfold wholeF;rw[t1,t2,hw];have:=jij (f:=mulF f (-1));rw[jd0,hf.len] at this;exact this
def juq(h1:jk0 n ae wd ts f)(h2:jii n ae wd us g)(hg:FO n g)(hc:jc5 c=true)(ht:t=1\/t=-1)(hs:∀ o p,signF o c p=⟨wholeF o,o.term,t,none⟩):jk0 n ae wd (ts++c::us) (addF f (mulF g t)):=by
 intro ps hps r;obtain⟨p1,p2,rfl,e1,e2⟩:=jrv hps;obtain⟨p,q2,rfl,e3⟩:=jlr e2;obtain⟨o1,R,w,l1,l2⟩:=h1 p1 e1 r;have hl:(wholeF o1).1.length=n:=by
  unfold wholeF;rw[jna (by lia)];exact l1
 obtain⟨o',R2,t1,t2,t3⟩:=h2 q2 e3 ⟨wholeF o1,_,t,_⟩ r rfl ht hl;refine⟨o',R.append (.sgn hc l1 (by rw[hs];exact R2)),?_,by rw[t1];exact hl,by rw[t2,jd0];exact hg.len⟩;show addF _ _=_;rw[t1,t2,w]
def jK8(h1:jk0 n ae wd ts f)(h2:jii n ae wd us g)(hg:FO n g):jk0 n ae wd (ts++("+":Str)::us) (addF f g):=by
 have:=juq h1 h2 hg jxv (.inl rfl) jvx
 rwa [jhg] at this
def jLb(h1:jk0 n ae wd ts f)(h2:jii n ae wd us g)(hg:FO n g):jk0 n ae wd (ts++("-":Str)::us) (addF f (mulF g (-1))) :=
 juq h1 h2 hg jnu (.inr rfl) jsn
def S1(c:Nat):Str:=⟨#[c]⟩
def isL(c:Nat):Bool:=decide (97<=c)&&decide (c<=122)
def isG(c:Nat):Bool:=decide (48<=c)&&decide (c<=57)
def jts(a b:Nat):gLe (.str (S1 a)) (.str (S1 b))=some (.bl (decide (a<=b))):=by
 show some (D.bl (!decide ([b]<[a])))=_;have:([b]<[a])↔b<a:=by
  constructor
  .intro h;cases h<;>simp_all
  .exact fun h=>.rel h
 grind
def js1{g g':D->D->Option D}{fa fb fc:DSt->M D}{Y:DSt}{x y z:D}{p q:Bool}(ha:fa Y=M.p x)(hb:fb Y=M.p y)(hc:fc Y=M.p z)(h1:g x y=some (.bl p))(h2:g' y z=some (.bl q)):jfa g g' fa fb fc Y=M.p (.bl (p&&q)):=by
 unfold jfa;rw[ha,hb,M.b_p,M.b_p,h1]
 cases p with
 | true=>rw[hc,M.b_p,h2];rfl
 | false=>rfl
def jeg(c:Nat):ja6 [.str (S1 c)]=oK (.bl (isL c)):=by
 unfold ja6;rw[jdw];unfold jh1;rw[ju0,js1 (by rfl) rfl (by rfl) (jts _ _) (jts _ _)];rfl
def jiq(c:Nat):jb5 [.str (S1 c)]=oK (.bl (isG c)):=by
 unfold jb5;rw[jdw];unfold jh0;rw[ju0,js1 (by rfl) rfl (by rfl) (jts _ _) (jts _ _)];rfl
def len_str(h:x.length<=50000):kLen [.str x]=oI x.length:=if_pos (zdz (by assumption) (by decide))
structure At(x:Str)(pre rest:List Nat):Prop where
 eq:x.cps.toList=pre++rest
 small:x.length<=50000
def At.len{pre rest:List Nat}(h:At x pre rest):x.length=pre.length+rest.length:=by
 have:x.length=x.cps.toList.length:=by simp[Str.length]
 rw[this,h.eq,zcb]
def At.ix{pre rest:List Nat}(h:At x pre (c::rest)):gIx (.str x) (.int (pre.length:Nat))=oS (S1 c):=by
 show (if x.length<=sizeLine then (atI _ _).map _ else none)=_;rw[if_pos (by have:=h.small;exact zdz (by assumption) (by decide)),h.eq,DL.atI_get (v:=c) (by simp)];rfl
def At.step{pre a rest:List Nat}(h:At x pre (a++rest)):At x (pre++a) rest:=⟨by rw[h.eq,List.append_assoc],h.small⟩
def At.slice{pre a rest:List Nat}(h:At x pre (a++rest)):Txt.slice x (some (pre.length:Nat)) (some ((pre.length+a.length:Nat):Int))=⟨a.toArray⟩:=by
 rw[eq_of_beq (PyProof.Rows.slice_closes ⟨Int.natCast_nonneg _,by lia,by rw[h.eq];simp;lia⟩),h.eq];have:((pre.length):Int).toNat=pre.length:=Int.toNat_natCast _;rw[this,List.drop_left];have:(((pre.length+a.length:Nat):Int)-(pre.length)).toNat=a.length:=by lia
 grind
def At.cut{pre a rest:List Nat}(h:At x pre (a++rest)):cutD (.str x) (some (pre.length:Nat)) (some ((pre.length+a.length:Nat):Int))=oS ⟨a.toArray⟩:=by
 show (if x.length<=sizeLine then some _ else none)=_;rw[if_pos (by have:=h.small;exact zdz (by assumption) (by decide)),h.slice]
def jkz{t:DSt->M Bool}{g:DSt->M Out}{k:Nat}{Y Y':DSt}(h1:t Y=some (.ok true))(h2:g Y=some (.ok (.nx Y'))):ja7 t g (k+1) Y=ja7 t g k Y':=by
 conv=>lhs;unfold ja7
 simp_all
def jg7{t:DSt->M Bool}{g:DSt->M Out}{k:Nat}{Y:DSt}(h1:t Y=some (.ok false)):ja7 t g (k+1) Y=nX Y:=by
 conv=>lhs;unfold ja7
 rw[h1,M.b_ok,if_neg nofun];rfl
def ed(x:Str)(p e:Nat):DSt:=[oS x,oI p,oI e]
def jQm(x:Str)(p e:Nat):jct (ed x p e)=nX (ed x p (e+1)):=by
 rfl
def jQn(x:Str)(p e:Nat):jcu (ed x p e)=nX (ed x p (e+1)):=by
 rfl
def jPp{pre rest:List Nat}(h:At x pre (c::rest)):ja3 (ed x p pre.length)=oK (isL c&&decide (pre.length<p+10)):=by
 unfold ja3 ed;have hl:=h.len;rw[List.length_cons] at hl;have e1:decide (((pre.length):Int)<(x.length))=true:=decide_eq_true (by lia);simp only[stpA,len_str h.small,e1,h.ix,jeg]
 cases isL c with
 | false=>rfl
 | true =>
  have:decide (((pre.length):Int)-(p)<10)=decide (pre.length<p+10):=by
   by_cases q:pre.length<p+10
   .grind
   .grind
  simp only[this];rfl
def jPq(h:At x pre []):ja3 (ed x p pre.length)=oK false:=by
 unfold ja3 ed;have hl:=h.len;rw[List.length_nil] at hl;have e1:decide (((pre.length):Int)<(x.length))=false:=decide_eq_false (by lia);simp only[stpA,len_str h.small,e1];rfl
def jPr{pre rest:List Nat}(h:At x pre (c::rest)):ja5 (ed x p pre.length)=oK (isG c):=by
 unfold ja5 ed;have hl:=h.len;rw[List.length_cons] at hl;have e1:decide (((pre.length):Int)<(x.length))=true:=decide_eq_true (by lia);simp only[stpA,len_str h.small,e1,h.ix,jiq];rfl
def jPs(h:At x pre []):ja5 (ed x p pre.length)=oK false:=by
 unfold ja5 ed;have hl:=h.len;rw[List.length_nil] at hl;have e1:decide (((pre.length):Int)<(x.length))=false:=decide_eq_false (by lia);simp only[stpA,len_str h.small,e1];rfl
def Stop(q:Nat->Bool):List Nat->Prop
 | []=>True
 | c::_=>q c=false
theorem jm1{rest:List Nat}(hr:Stop isL rest):∀ (a pre:List Nat) (k:Nat),At x pre (a++rest)->(∀ c∈a,isL c=true)->pre.length+a.length<=p+10->a.length<k ->
  ja7 ja3 jct k (ed x p pre.length)=nX (ed x p (pre.length+a.length))
 | [],pre,k,h,ha,hb,hk=>by
  obtain⟨k,rfl⟩:∃ j,k=j+1:=⟨k-1,by lia⟩
  cases rest with
  | nil=>exact jg7 (jPq h)
  | cons c rest =>
   have:=hr;exact jg7 (by rw[jPp h,this];rfl)
 | c::a,pre,k,h,ha,hb,hk=>by
  obtain⟨k,rfl⟩:∃ j,k=j+1:=⟨k-1,by lia⟩
  rw[List.length_cons] at hb hk;have e:ja3 (ed x p pre.length)=oK true:=by
   rw[jPp h,ha c zaa,decide_eq_true (show pre.length<p+10 by lia)];rfl
  rw[jkz e (jQm x p _)];have:=jm1 (p:=p) hr a _ k (At.step (a:=[c]) h) (fun d hd=>ha d (zaw _ hd)) (by simp;lia) (Nat.le_of_succ_le_succ (by assumption));rw[zcb,List.length_singleton] at this;rw[this,List.length_cons,Nat.add_assoc,Nat.add_comm 1]
theorem jmt{rest:List Nat}(hr:Stop isG rest):∀ (a pre:List Nat) (k:Nat),At x pre (a++rest)->(∀ c∈a,isG c=true)->a.length<k ->
  ja7 ja5 jcu k (ed x p pre.length)=nX (ed x p (pre.length+a.length))
 | [],pre,k,h,ha,hk=>by
  obtain⟨k,rfl⟩:∃ j,k=j+1:=⟨k-1,by lia⟩
  cases rest with
  | nil=>exact jg7 (jPs h)
  | cons c rest =>
   have:=hr;exact jg7 (by rw[jPr h,this])
 | c::a,pre,k,h,ha,hk=>by
  obtain⟨k,rfl⟩:∃ j,k=j+1:=⟨k-1,by lia⟩
  have e:ja5 (ed x p pre.length)=oK true:=by
   rw[jPr h,ha c zaa]
  rw[jkz e (jQn x p _)];have:=jmt (p:=p) hr a _ k (At.step (a:=[c]) h) (fun d hd=>ha d (zaw _ hd)) (Nat.le_of_succ_le_succ (by assumption));rw[zcb,List.length_singleton] at this;rw[this,List.length_cons,Nat.add_assoc,Nat.add_comm 1]
inductive Piece:List Nat->List Nat->Prop
 | sign {c:Nat} {rest:List Nat}:isL c=false->isG c=false->Piece [c] rest
 | zero {rest:List Nat}:Piece [48] rest
 | name {a rest:List Nat}:a≠[]->(∀ c∈a,isL c=true)->a.length<=10->Stop isL rest->Piece a rest
 | num {a rest:List Nat}:a≠[]->(∀ c∈a,isG c=true)->a.head?≠some 48->Stop isG rest->Piece a rest
def jtn(h:isG c=true):isL c=false:=by
 unfold isG isL at *
 grind
def jJn(c:Nat):gNe (.str (S1 c)) (.str "0")=some (.bl !(c == 48)):=by
 show some (D.bl !(S1 c == S1 48))=_;have:(S1 c == S1 48)=(c == 48):=by
  by_cases q:c=48
  .subst q;simp
  .rw[beq_eq_false_iff_ne.mpr q,beq_eq_false_iff_ne.mpr (fun z=>q (by grind [S1]))]
 rw[this]
def jc3{g1 g2:DSt->M Out}{Y Y':DSt}(h:g1 Y=some (.ok (.nx Y'))):gSeq g1 g2 Y=g2 Y':=by simp_all
def jmk{t:DSt->M Bool}{g1 g2:DSt->M Out}{Y:DSt}{b:Bool}(h:t Y=some (.ok b)):gIf t g1 g2 Y=if b=true then g1 Y else g2 Y:=by simp_all
def jM1{pre a rest:List Nat}(h:At x pre (a++rest))(P:Piece a rest)(hf:x.length<FUEL):jdj [.str x,.int (pre.length:Nat)]=oK (.int ((pre.length+a.length:Nat):Int)):=by
 obtain⟨c,a',rfl⟩:∃ c a',a=c::a':=by cases a with|nil=>exact absurd rfl (by cases P<;>first|assumption|simp)|cons c a'=>exact⟨c,a',rfl⟩
 have ix:=At.ix h;have h':=At.step (a:=[c]) h;have hl:=h.len;rw[zcb,List.length_cons] at hl;have hp:(pre++[c]).length=pre.length+1:=by simp
 have s0:gSet 2 (f2 gCat (vR 1) (cI 1)) [oS x,oI (pre.length),none]=nX (ed x pre.length (pre++[c]).length):=by
  simp only[hp];rfl
 have t1:tTru (fCall ja6 (jaa (f2 gIx (vR 0) (vR 1)) fNil)) (ed x pre.length (pre++[c]).length)=oK (isL c):=by
  unfold ed;simp only[stpA,ix,jeg];rfl
 have t2:DL.tAnd (tTru (fCall jb5 (jaa (f2 gIx (vR 0) (vR 1)) fNil))) (t2 gNe (f2 gIx (vR 0) (vR 1)) (cS "0")) (ed x pre.length (pre++[c]).length)=oK (isG c&&!(c == 48)):=by
  unfold ed;simp only[stpA,ix,jiq,jJn];cases isG c<;>rfl
 have body:gIf (tTru (fCall ja6 (jaa (f2 gIx (vR 0) (vR 1)) fNil))) (ja7 ja3 jct FUEL) (gIf (DL.tAnd (tTru (fCall jb5 (jaa (f2 gIx (vR 0) (vR 1)) fNil))) (DL.t2 gNe (f2 gIx (vR 0) (vR 1)) (cS "0"))) (ja7 ja5 jcu FUEL) gNx) (ed x pre.length (pre++[c]).length)=nX (ed x pre.length ((pre++[c]).length+a'.length)):=by
  rw[jmk t1,jmk t2]
  cases P with
  | sign q1 q2=>rw[q1,q2];rfl
  | zero=>rfl
  | name _ q1 q2 q3 =>
   rw[q1 c zaa,if_pos rfl];exact jm1 q3 a' _ _ h' (fun d hd=>q1 d (zaw _ hd)) (by simp at q2;lia) (by lia)
  | num _ q1 q2 q3 =>
   have hg:=q1 c zaa;rw[jtn hg,hg,(beq_eq_false_iff_ne.mpr (fun z=>q2 (by rw[z];rfl))),if_neg nofun,if_pos (by decide)];exact jmt q3 a' _ _ h' (fun d hd=>q1 d (zaw _ hd)) (by lia)
 show (jdg [oS x,oI _,none]).b _=_;unfold jdg;rw[jc3 s0,jc3 body,hp,List.length_cons,show pre.length+1+a'.length=pre.length+(a'.length+1) by lia];rfl
def St(a:List Nat):Str:=⟨a.toArray⟩
abbrev sT(a:List Nat):D:=.str (St a)
theorem jbi(a:List Nat):(St a).length=a.length:=by simp[St,Str.length]
def jAn(c:Nat):St [c]=S1 c:=rfl
def jm8(h:St a=St b):a=b:=by
 grind [St]
theorem jg5(a b:List Nat):(St a == St b)=(a == b):=by
 by_cases q:a=b
 .subst q;simp
 .rw[beq_eq_false_iff_ne.mpr q,beq_eq_false_iff_ne.mpr (fun z=>q (jm8 z))]
def jyh:(Str.ofString "(")=St [40]:=by decide +kernel
def jIz:(Str.ofString ")")=St [41]:=by decide +kernel
def jlq:(Str.ofString "-")=St [45]:=by decide +kernel
def jNs:(Str.ofString "*")=St [42]:=by decide +kernel
def jjg:(Str.ofString " ")=St [32]:=by decide +kernel
theorem jso(a:List Nat):jc5 (St a)=([43] == a || ([45] == a || ([42] == a || false))):=by
 show (St [43] == St a || (St [45] == St a || (St [42] == St a || false)))=_
 grind [jg5]
def jv1(h:jc5 (St [c])=true):jax [.str (S1 c),.str "behind",.int d]=oK (.bl true):=by
 unfold jax;rw[jhn];unfold jd9;have e:gIn (.str (S1 c)) (.tup [.str "+",.str "-",.str "*"])=some (.bl true):=by rw[jkq,<- jAn,h]
 simp only[stpA,e];rfl
def jAo(h:0<d):jax [.str (S1 41),.str "behind",.int d]=oK (.bl true):=by
 unfold jax;rw[jhn];unfold jd9;have e:gIn (.str (S1 41)) (.tup [.str "+",.str "-",.str "*"])=some (.bl false):=by rfl
 have q:(S1 41 == Str.ofString ")")=true:=by decide +kernel
 simp only[stpA,decide_eq_true h];rfl
def jAp:jax [.str (S1 45),.str "beginning",.int d]=oK (.bl true):=by
 rfl
def jqm(hw:(wt == Str.ofString "behind")=false)(hc:c≠45)(h:c=40\/isL c=true\/isG c=true):jax [.str (S1 c),.str wt,.int d]=oK (.bl true):=by
 unfold jax;rw[jhn];unfold jd9;have q:(S1 c == Str.ofString "-")=false:=by rw[jlq,<- jAn,jg5];exact beq_eq_false_iff_ne.mpr (by grind)
 rw[jc3 (by rw[jmk (by simp only[stpA,jey,hw];rfl),if_neg nofun];rfl),jc3 (by rw[jmk (by simp only[stpA,jey,q];rfl),if_neg nofun];rfl)];have q2:(S1 c == Str.ofString "(")=(c == 40):=by rw[jyh,<- jAn,jg5];simp
 simp only[stpA,jey,q2,jeg,jiq]
 by_cases h1:c=40
 .subst h1;rfl
 .rw[beq_eq_false_iff_ne.mpr h1,jRu];rcases h with h|h|h
  .lia
  .rw[h];rfl
  .rw[h];cases isL c<;>rfl
def dby(a:List Nat):Int:=if a=[40] then 1 else if a=[41] then -1 else 0
def wby(a:List Nat):Str:=if a=[40] then "beginning" else if jc5 (St a)=true then "factor" else "behind"
def jBz(a:List Nat):jhb [sT a]=oK (.int (dby a)):=by
 unfold jhb;rw[jdw];unfold ji7 dby;have q1:(St a == Str.ofString "(")=(a == [40]):=by rw[jyh,jg5]
 have q2:(St a == Str.ofString ")")=(a == [41]):=by rw[jIz,jg5]
 simp only[stpA,jey,q1]
 by_cases h:a=[40]
 .rw[beq_iff_eq.mpr h,if_pos h];rfl
 .rw[beq_eq_false_iff_ne.mpr h,if_neg h];simp only[stpA,jey,q2]
  by_cases h2:a=[41]
  .rw[beq_iff_eq.mpr h2,if_pos h2];rfl
  .rw[beq_eq_false_iff_ne.mpr h2,if_neg h2];rfl
def jBb(a:List Nat):jc2 [sT a]=oK (.str (wby a)):=by
 unfold jc2;rw[jdw];unfold jed wby;have q1:(St a == Str.ofString "(")=(a == [40]):=by rw[jyh,jg5]
 simp only[stpA,jey,q1]
 by_cases h:a=[40]
 .rw[beq_iff_eq.mpr h,if_pos h];rfl
 .rw[beq_eq_false_iff_ne.mpr h,if_neg h];simp only[stpA,jkq];cases jc5 _<;>rfl
def pd(x:Str)(ps:List (Str×Int))(d:Int)(wt:Str)(pl:Nat)(e w:Option D):DSt:=[oS x,oL (ps.map pcD),oI d,oS wt,oI pl,e,w]
def jvy{fa:DSt->M D}{fl fh:DSt->M (Option Int)}{Y:DSt}{x d:D}{lo hi:Option Int}(ha:fa Y=M.p x)(hl:fl Y=M.p lo)(hh:fh Y=M.p hi)(h:cutD x lo hi=some d):fSl fa fl fh Y=M.p d:=by
 unfold fSl;rw[ha,hl,hh];show M.o _=_;rw[h];rfl
def jGw{i:Nat}{fa:DSt->M D}{Y:DSt}{ds:List D}{d:D}(h:fa Y=M.p d)(hi:(Y[i]?).join=oL ds)(hl:ds.length<sizeLine):gApp i fa Y=nX (Y.set i (oL (ds++[d]))):=by
 rw[jIb,h,M.b_p,hi,jsu hl];rfl
def jmw{pre a rest:List Nat}(h:At x pre (a++rest))(P:Piece a rest)(hf:x.length<FUEL) :
  gSeq (gSet 5 (fCall jdj (jaa (vR 0) (jaa (vR 4) fNil)))) (gSeq (gSet 6 (fSl (vR 0) (jdn (vR 4)) (jdn (vR 5)))) G) (pd x ps d wt pre.length e w)=G (pd x ps d wt pre.length (oI ((pre.length+a.length:Nat):Int)) (some (sT a))):=by
 have e1:gSet 5 (fCall jdj (jaa (vR 0) (jaa (vR 4) fNil))) (pd x ps d wt pre.length e w)=nX (pd x ps d wt pre.length (oI ((pre.length+a.length:Nat))) w):=by
  have:=jM1 h P hf;unfold pd;simp only[stpA,this];rfl
 have e2:gSet 6 (fSl (vR 0) (jdn (vR 4)) (jdn (vR 5))) (pd x ps d wt pre.length (oI ((pre.length+a.length:Nat))) w)=nX (pd x ps d wt pre.length (oI ((pre.length+a.length:Nat))) (some (sT a))):=by
  have:=jvy (fa:=vR 0) (fl:=jdn (vR 4)) (fh:=jdn (vR 5)) (Y:=pd x ps d wt _ (oI _) w) rfl rfl rfl h.cut;rw[jB8,this];rfl
 simp_all
def jRt(a:List Nat):gNe (sT a) (.str " ")=some (.bl !(a == [32])):=by
 show some (D.bl !(St a == St [32]))=_;rw[jg5]
def jv4{pre rest:List Nat}(h:At x pre (32::rest))(hf:x.length<FUEL) :
  ∃ e' w',ja0 (pd x ps d wt pre.length e w)=nX (pd x ps d wt (pre++[32]).length e' w'):=by
 refine⟨oI ((pre.length+[32].length)),some (sT [32]),?_⟩
 .unfold ja0;rw[jmw h (.sign rfl rfl) hf];simp only[zcb];rfl
def jEn{pre a rest:List Nat}(h:At x pre ((c::a)++rest))(P:Piece (c::a) rest)(hf:x.length<FUEL)(hs:(c::a)≠[32])(hm:jax [.str (S1 c),.str wt,.int d]=oK (.bl true))(hz:ps.length<=100000) :
  ∃ e' w',ja0 (pd x ps d wt pre.length e w)=nX (pd x (ps++[(St (c::a),(pre.length:Int))]) (d+dby (c::a)) (wby (c::a)) (pre++(c::a)).length e' w'):=by
 refine⟨oI ((pre.length+(c::a).length)),some (sT (c::a)),?_⟩
 .unfold ja0;rw[jmw h P hf];have hx:(St (c::a)).length<=50000:=by
   have:=h.len;rw[jbi];have hsm:=h.small;simp at this |-
   lia
  have ix:gIx (sT (c::a)) (.int 0)=oS (S1 c):=by
   show (if (St _).length<=sizeLine then (atI _ 0).map _ else none)=_;rw[if_pos (by rw[sizeLine_eq];lia)];unfold St;simp;rfl
  let Y1:=pd x ps d wt pre.length (oI ((pre.length+(c::a).length:Nat))) (some (sT (c::a)))
  have t:DL.t2 gNe (vR 6) (fC (.str " ")) Y1=oK true:=by
   show DL.t2 gNe _ _ (pd _ _ _ _ _ _ _)=_;unfold pd;simp only[stpA,jRt];rw[beq_eq_false_iff_ne.mpr hs];rfl
  have t0:DL.tNot (tTru (fCall jax (jaa (f2 gIx (vR 6) (cI 0)) (jaa (vR 3) (jaa (vR 2) fNil))))) Y1=oK false:=by
   show DL.tNot _ (pd _ _ _ _ _ _ _)=_;unfold pd;simp only[stpA,ix,hm];rfl
  have t1:gIf (DL.tNot (tTru (fCall jax (jaa (f2 gIx (vR 6) (cI 0)) (jaa (vR 3) (jaa (vR 2) fNil)))))) gNever gNx Y1=nX Y1:=by
   rw[jmk t0,if_neg nofun];rfl
  let Y2:=pd x (ps++[(St (c::a),(pre.length:Int))]) d wt pre.length (oI ((pre.length+(c::a).length))) (some (sT (c::a)))
  have az:gApp 1 (fL ja1 (jaa (vR 6) (jaa (vR 4) fNil))) Y1=nX Y2:=by
   have:=jGw (i:=1) (fa:=fL ja1 (jaa (vR 6) (jaa (vR 4) fNil))) (Y:=Y1) rfl rfl (by rw[zav,sizeLine_eq];lia);rw[this];show some _=nX (pd _ _ _ _ _ _ _);unfold pd;rw[List.map_append];rfl
  let Y3:=pd x (ps++[(St (c::a),(pre.length:Int))]) (d+dby (c::a)) wt pre.length (oI ((pre.length+(c::a).length:Nat))) (some (sT (c::a)))
  have t3:gAug 2 gAdd (fCall jhb (jaa (vR 6) fNil)) Y2=nX Y3:=by
   show gAug _ _ _ (pd _ _ _ _ _ _ _)=nX _;unfold pd;simp only[stpA,jBz];rfl
  let Y4:=pd x (ps++[(St (c::a),(pre.length:Int))]) (d+dby (c::a)) (wby (c::a)) pre.length (oI ((pre.length+(c::a).length:Nat))) (some (sT (c::a)))
  have t4:gSet 3 (fCall jc2 (jaa (vR 6) fNil)) Y3=nX Y4:=by
   show gSet _ _ (pd _ _ _ _ _ _ _)=nX _;unfold pd;simp only[stpA,jBb];rfl
  rw[jc3 (by rw[jmk t,if_pos rfl,jc3 t1,jc3 az,jc3 t3,t4]),zcb];rfl
inductive Word:List Nat->Prop
 | zero:Word [48]
 | name {a:List Nat}:a≠[]->(∀ c∈a,isL c=true)->a.length<=10->Word a
 | num {a:List Nat}:a≠[]->(∀ c∈a,isG c=true)->a.head?≠some 48->Word a
inductive Acc:LL->Str->Nat->Prop
 | done:Acc [] "behind" 0
 | word {a:List Nat} {ts:LL} {wt:Str} {d:Nat}:Word a->(wt == Str.ofString "behind")=false->Acc ts "behind" d->Acc (a::ts) wt d
 | opn {ts:LL} {wt:Str} {d:Nat}:(wt == Str.ofString "behind")=false->Acc ts "beginning" (d+1)->Acc ([40]::ts) wt d
 | cls {ts:LL} {d:Nat}:Acc ts "behind" d->Acc ([41]::ts) "behind" (d+1)
 | neg {ts:LL} {d:Nat}:Acc ts "factor" d->Acc ([45]::ts) "beginning" d
 | bin {a:Nat} {ts:LL} {d:Nat}:jc5 (St [a])=true->Acc ts "factor" d->Acc ([a]::ts) "behind" d
def jav:List (Nat×List Nat)->Nat->List Nat
 | [],p=>List.replicate p 32
 | (k,a)::s,p=>List.replicate k 32++(a++jav s p)
def jjs(h:jc5 (St [a])=true):a=43\/a=45\/a=42:=by
 grind [jso]
def jAt{q:Nat->Bool}(de:q 32=false)(h41:q 41=false)(hs:q 43=false/\q 45=false/\q 42=false):∀ (ab:List (Nat×List Nat)) (p d:Nat),Acc (ab.map (·.2)) "behind" d->Stop q (jav ab p)
 | [],0,_,_=>trivial
 | [],p+1,_,_=>de
 | (k+1,a)::s,p,_,_=>de
 | (0,a)::s,p,d,h=>by
  generalize hw:(Str.ofString _)=wt at h
  cases h with
  | word _ hb _=>rw[<- hw] at hb;exact absurd hb (by decide +kernel)
  | opn hb _=>rw[<- hw] at hb;exact absurd hb (by decide +kernel)
  | cls _=>exact h41
  | neg _=>exact absurd hw (by decide +kernel)
  | bin hc _ =>
   rcases jjs hc with rfl|rfl|rfl
   .exact hs.1
   .exact hs.2.1
   .exact hs.2.2
def jPo{pre rest:List Nat}(h:At x pre (c::rest)):ja4 (pd x ps d wt pre.length e w)=oK true:=by
 unfold ja4 pd;have hl:=h.len;rw[List.length_cons] at hl;simp only[stpA,len_str h.small,decide_eq_true (show ((pre.length):Int)<(x.length) by lia)];rfl
def jPn(h:At x pre []):ja4 (pd x ps d wt pre.length e w)=oK false:=by
 unfold ja4 pd;have hl:=h.len;rw[List.length_nil] at hl;simp only[stpA,len_str h.small,decide_eq_false (show ¬ ((pre.length):Int)<(x.length) by lia)];rfl
theorem jmd{rest:List Nat}(hf:x.length<FUEL):∀ (k:Nat) (pre:List Nat) (m:Nat) (e w:Option D),At x pre (List.replicate k 32++rest) ->
  ∃ e' w',ja7 ja4 ja0 (m+k) (pd x ps d wt pre.length e w)=ja7 ja4 ja0 m (pd x ps d wt (pre++List.replicate k 32).length e' w')/\At x (pre++List.replicate k 32) rest
 | 0,pre,m,e,w,h=>⟨e,w,by simp,by simpa using h⟩
 | k+1,pre,m,e,w,h=>by
  obtain⟨e1,w1,q⟩:=jv4 h hf;obtain⟨e2,w2,q2,h2⟩:=jmd hf k _ m e1 w1 (At.step (a:=[32]) h);refine⟨e2,w2,?_,?_⟩
  .rw[<- Nat.add_assoc,jkz (jPo h) q,q2];simp
  grind
def jP0{pre a rest:List Nat}(h:At x pre ((c::a)++rest))(P:Piece (c::a) rest)(hf:x.length<FUEL)(hs:(c::a)≠[32])(hm:jax [.str (S1 c),.str wt,.int d]=oK (.bl true))(hz:ps.length<=100000) :
  ∃ e' w',ja7 ja4 ja0 (m+1) (pd x ps d wt pre.length e w)=ja7 ja4 ja0 m (pd x (ps++[(St (c::a),(pre.length:Int))]) (d+dby (c::a)) (wby (c::a)) (pre++(c::a)).length e' w')/\At x (pre++(c::a)) rest:=by
 obtain⟨e',w',q⟩:=jEn h P hf hs hm hz;exact⟨e',w',jkz (jPo h) q,h.step⟩
def jd3(h:Word a):dby a=0/\wby a="behind"/\a≠[32]/\∃ c a',a=c::a'/\c≠45/\(isL c=true\/isG c=true):=by
 have b8:∃ c a',a=c::a'/\(isL c=true\/isG c=true):=by
  cases h with
  | zero=>exact⟨48,[],rfl,.inr rfl⟩
  | name h1 h2 _=>cases a<;>grind
  | num h1 h2 _=>cases a<;>grind
 obtain⟨c,a',rfl,hc⟩:=b8;have ne:∀ k,isL k=false->isG k=false->c≠k:=fun k h1 h2 z=>by grind
 have n1:=ne 40 rfl rfl;have n4:=ne 45 rfl rfl;have s:jc5 (St (c::a'))=false:=by
  rw[jso];simp;refine⟨fun z=>absurd z.symm (ne 43 rfl rfl),fun z=>absurd z.symm n4,fun z=>absurd z.symm (ne 42 rfl rfl)⟩
 refine⟨?_,?_,by simp[(ne 32 rfl rfl)],c,a',rfl,n4,hc⟩
 .unfold dby;rw[if_neg (by simp[n1]),if_neg (by simp[(ne 41 rfl rfl)])]
 .unfold wby;rw[if_neg (by simp[n1]),s,if_neg nofun]
def jv8{a rest:List Nat}(h:Word a)(h1:Stop isL rest)(h2:Stop isG rest):Piece a rest:=by
 cases h with
 | zero=>exact .zero
 | name q1 q2 q3=>exact .name q1 q2 q3 h1
 | num q1 q2 q3=>exact .num q1 q2 q3 h2
def d41:dby [41]=-1:=rfl
def w40:wby [40]="beginning":=rfl
def w41:wby [41]="behind":=by rfl
def dsg(h:jc5 (St [a])=true):dby [a]=0/\wby [a]="factor":=by
 rcases jjs h with rfl|rfl|rfl<;>exact⟨rfl,rfl⟩
def pcs:List (Nat×List Nat)->Nat->List (Str×Int)
 | [],_=>[]
 | (k,a)::s,o=>(St a,((o+k:Nat):Int))::pcs s (o+k+a.length)
theorem jzh:∀ (ab:List (Nat×List Nat)) (o:Nat),(pcs ab o).map (·.1)=ab.map fun q=>St q.2
 | [],_=>rfl
 | (k,a)::s,o=>by
  show St a::(pcs s _).map _=_;rw[jzh s];rfl
def jru(hf:x.length<FUEL):∀ (ab:List (Nat×List Nat)) (pre:List Nat) (ps:List (Str×Int)) (d:Nat) (wt:Str) (e w:Option D) (m:Nat),At x pre (jav ab p)->Acc (ab.map (·.2)) wt d->(jav ab p).length<m->ps.length+ab.length<=100000 ->
  ∃ ps' e' w' pl,ja7 ja4 ja0 m (pd x ps d wt pre.length e w)=nX (pd x ps' (0:Nat) "behind" pl e' w')/\ps'=ps++pcs ab pre.length:=by
 intro ab
 induction ab with
 | nil =>
  intro pre ps d wt e w m h A hm hz;have b9:∃ j,m=j+1+p:=⟨m-1-p,by grind [jav]⟩
  obtain⟨j,rfl⟩:=b9;obtain⟨e',w',q,h2⟩:=jmd hf p pre _ e w (by rw[List.append_nil];exact h)
  cases A with
  | done =>
   refine⟨ps,e',w',(pre++List.replicate p 32).length,?_,by simp[pcs]⟩;rw[q,jg7 (jPn h2)]
 | cons sg ab ih =>
  intro pre ps d wt e w m h A hm hz;obtain⟨k,a⟩:=sg;rw[List.map_cons] at A;have hr:(jav ((k,a)::ab) p).length=k+(a.length+(jav ab p).length):=by rw[show jav _ p=List.replicate k 32++(a++jav _ p) from rfl];simp
  rw[List.length_cons] at hz;have ha:a≠[]:=by
   intro z;subst z
   cases A with
   | word hw _ _=>obtain⟨_,_,_,c,a',z,_⟩:=jd3 hw;cases z
  have hal:1<=a.length:=by cases a with|nil=>grind|cons _ _=>simp
  obtain⟨j,rfl⟩:∃ j,m=j+1+k:=⟨m-1-k,by lia⟩
  obtain⟨e1,w1,q1,h1⟩:=jmd hf k pre _ e w h;rw[q1];have fin:∀ (c:Nat) (a':List Nat) (d':Nat) (bo:Str),a=c::a'->Piece (c::a') (jav ab p)->(c::a')≠[32]->jax [.str (S1 c),.str wt,.int d]=oK (.bl true)->(d)+dby (c::a')=(d')->wby (c::a')=bo->Acc (ab.map (·.2)) bo d' ->
    ∃ ps' e' w' pl,ja7 ja4 ja0 (j+1) (pd x ps d wt (pre++List.replicate k 32).length e1 w1)=nX (pd x ps' (0) "behind" pl e' w')/\ps'=ps++pcs ((k,a)::ab) pre.length:=by
   rintro c a' d' bo rfl P hs hm' hd hw A';obtain⟨e2,w2,q2,h2⟩:=jP0 (ps:=ps) h1 P hf hs hm' (by lia);rw[q2,hd,hw];obtain⟨ps',e',w',pl,q3,q4⟩:=ih _ (ps++[(St _,((pre++List.replicate k 32).length:Int))]) d' bo e2 w2 j h2 A' (by lia) (by grind);refine⟨ps',e',w',pl,q3,?_⟩;rw[q4];simp[pcs,Nat.add_assoc]
  cases A with
  | word hw hb A' =>
   obtain⟨f1,f2,f3,c,a',rfl,f4,f5⟩:=jd3 hw;exact fin c a' d _ rfl (jv8 hw (jAt rfl rfl ⟨rfl,rfl,rfl⟩ _ p d A') (jAt rfl rfl ⟨rfl,rfl,rfl⟩ _ p d A')) f3 (jqm hb f4 (.inr f5)) (by grind) f2 A'
  | opn hb A'=>exact fin 40 [] _ _ rfl (.sign rfl rfl) nofun (jqm hb nofun (.inl rfl)) (by rfl) w40 A'
  | cls A' =>
   rename_i d';exact fin 41 [] d' _ rfl (.sign rfl rfl) nofun (jAo (by lia)) (by rw[d41];lia) w41 A'
  | neg A'=>exact fin 45 [] d _ rfl (.sign rfl rfl) nofun jAp (by rw[(dsg (by decide +kernel)).1,Int.add_zero]) (dsg (by decide +kernel)).2 A'
  | bin hc A' =>
   rename_i c;have hl:isL c=false/\isG c=false/\c≠32:=by rcases jjs hc with rfl|rfl|rfl<;>exact⟨rfl,rfl,by decide⟩
   exact fin c [] d _ rfl (.sign hl.1 hl.2.1) (by simp[hl.2.2]) (jv1 hc) (by rw[(dsg hc).1,Int.add_zero]) (dsg hc).2 A'
def jzm(hx:x.cps.toList=jav ab p)(hs:x.length<=50000)(A:Acc (ab.map (·.2)) "beginning" 0)(hz:ab.length<=100000) :
  jfq [.str x]=oK (.lst ((pcs ab 0).map pcD)):=by
 have hf:x.length<FUEL:=by rw[jq1];exact Nat.lt_of_le_of_lt (by assumption) (by decide)
 have hl:(jav ab p).length=x.length:=by rw[<- hx];simp[Str.length]
 obtain⟨ps,e,w,pl,q,hp⟩:=jru hf _ [] [] 0 _ _ _ FUEL ⟨hx,hs⟩ A (by lia) (by grind);have hp':=by simpa using hp
 rw[<- hp'];have e1:gSet 1 (fL jar fNil) [oS x,none,none,none,none,none,none]=nX [oS x,oL [],none,none,none,none,none]:=rfl;have e2:gSet 2 (cI 0) [oS x,oL [],none,none,none,none,none]=nX [oS x,oL [],oI 0,none,none,none,none]:=rfl;have e3:gSet 3 (cS _) [oS x,oL [],oI 0,none,none,none,none]=nX [oS x,oL [],oI 0,oS "beginning",none,none,none]:=rfl;have e4:gSet 4 (cI 0) [oS x,oL [],oI 0,oS _,none,none,none]=nX (pd x [] (0:Nat) "beginning" ([]:List Nat).length _ _):=rfl;have e5:gIf (DL.tOr (DL.t2 gNe (vR 3) (cS "behind")) (DL.t2 gGt (vR 2) (cI 0))) gNever gNx (pd x ps (0:Nat) "behind" pl e w)=nX (pd x ps (0) "behind" pl e w):=by
  rfl
 show (gSeq _ _ [oS x,none,none,none,none,none,none]).b _=_;rw[jc3 e1,jc3 e2,jc3 e3,jc3 e4,jc3 q,jc3 e5];rfl
end MyLaw
namespace MyLaw
open L2 DL PySem.NumText
def jvz(x:Str)(u:Option Int):Txt.slice x none u=Txt.slice x (some 0) u:=by
 unfold Txt.slice;have:Builtin.Str.strSliceIndices none u 1 x.length=Builtin.Str.strSliceIndices (some 0) u 1 x.length:=by
  unfold Builtin.Str.strSliceIndices sliceRange;have z:max 0 (min 0 (x.length:Int))=0:=by lia
  cases u<;>simp[z]
 rw[this]
def jH9(b:List Nat):∀ (m:Nat),b.foldl (fun acc c=>acc*10+(c-48)) m=m*10 ^ b.length+b.foldl (fun acc c=>acc*10+(c-48)) 0:=by
 induction b with
 | nil=>simp
 | cons c b ih =>
  intro m;rw[List.foldl_cons,List.foldl_cons,ih,ih (0*10+(c-48)),List.length_cons,Nat.pow_succ,Nat.add_mul,Nat.zero_mul,Nat.zero_add,Nat.mul_assoc,Nat.mul_comm 10 _]
  lia
def jxb(a b:List Nat):digitsVal (a++b)=digitsVal a*10 ^ b.length+digitsVal b:=by
 unfold digitsVal;rw[List.foldl_append,jH9]
theorem jFe:∀ (b:List Nat) (m:Nat),AllDigits b->b.foldl (fun acc c=>acc*10+(c-48)) m<(m+1)*10 ^ b.length
 | [],m,_=>by simp
 | c::b,m,h=>by
  have h2:=h.head;have:=jFe b (m*10+(c-48)) h.tail;rw[List.foldl_cons,List.length_cons,Nat.pow_succ];refine zcx this ?_;rw[Nat.mul_comm (10 ^ b.length) 10,<- Nat.mul_assoc];exact Nat.mul_le_mul_right _ (by lia)
def jQx(h:AllDigits a):digitsVal a<10 ^ a.length:=by
 have:=jFe a 0 h
 rwa [Nat.zero_add,Nat.one_mul] at this
theorem jLo(h:∀ c∈a,isG c=true):AllDigits a:=fun c hc=>by
 have:=h c hc
 grind [isG]
def jFl(h:AllDigits a)(h1:a≠[])(h2:a.length<=640):kIntT [sT a]=oI (digitsVal a:Nat):=by
 have hl:=jbi a;have e:(St a).cps.toList=a:=by simp[St]
 show (if (St a).length<=640 then (intText? _).map _ else none)=_;rw[if_pos (by lia),intText_digits (h) (h1) (by lia),e];rfl
def jLw(h:AllDigits a)(hl:a.length<=60):Bt 200 ((digitsVal a:Nat):Int):=by
 unfold Bt;have h1:=jQx h;have h2:10 ^ a.length<=10 ^ 60:=Nat.pow_le_pow_right (by decide) hl
 lia
def jQk(a b:List Nat)(h:(a++b).length<=50000):At (St (a++b)) a b:=⟨by simp[St],h⟩
def jmu(h:AllDigits a)(h1:a≠[])(hl:a.length<=40):jco [sT a]=oK (.int (digitsVal a:Nat)):=by
 let f:=a.length % 18
 let k:=a.length / 18
 have cz:f+18*k=a.length:=Nat.mod_add_div _ _;have hz:(St a).length<=50000:=zdz hl (by decide);have ay:kLen [sT a]=oI (a.length:Nat):=by rw[len_str hz,jbi]
 have cut:∀ (i n:Nat),i+n<=a.length->cutD (sT a) _ _=some (sT _):=fun i n hin=>by
  have e:a=a.take i++((a.drop i).take n++(a.drop i).drop n):=by rw[List.take_append_drop,List.take_append_drop]
  have A:At (St a) _ _:=⟨by rw[<- e];simp[St],hz⟩
  have:=A.cut;rw[(List.length_take_of_le (zdz (Nat.le_add_right i n) hin)),(List.length_take_of_le (by rw[List.length_drop];exact Nat.le_sub_of_add_le (by rw[Nat.add_comm];exact hin)))] at this;exact this
 have dig:∀ (i n:Nat),AllDigits ((a.drop i).take n):=fun i n c hc=>h c (List.mem_of_mem_drop (List.mem_of_mem_take hc))
 let Y0 (n:Nat) (z:Option D):DSt:=[some (sT a),oI (f:Nat),oI (n:Nat),z]
 have e1:gSet 1 (f2 gMod (fL kLen (jaa (vR 0) fNil)) (cI 18)) [some (sT a),none,none,none]=nX [some (sT a),oI (f),none,none]:=by
  simp only[stpA,ay];rfl
 have e2:gSet 2 (fIf (DL.t2 gEq (vR 1) (cI 0)) (cI 0) (fL kIntT (jaa (fSl (vR 0) oNone (jdn (vR 1))) fNil))) [some (sT a),oI (f:Nat),none,none]=nX (Y0 (digitsVal (a.take f)) none):=by
  by_cases q:f=0
  .have q':(((f:Nat):Int) == 0)=true:=by rw[q];rfl
   have z:digitsVal (a.take f)=0:=by rw[q];rfl
   simp only[stpA,q',z];rfl
  .have q':(((f:Nat):Int) == 0)=false:=beq_eq_false_iff_ne.mpr fun z=>q (Int.ofNat.inj z)
   have c:cutD (sT a) none (some (f:Nat))=some (sT (a.take f)):=by
    have:=cut 0 f (by rw[Nat.zero_add];exact Nat.mod_le _ _);rw[Nat.zero_add,List.drop_zero] at this;rw[<- this];show (if _ then some _ else none)=(if _ then some (D.str (Txt.slice _ (some 0) _)) else none);rw[jvz]
   have s:fSl (vR 0) oNone (jdn (vR 1)) [some (sT a),oI (f:Nat),none,none]=M.p _:=jvy rfl rfl rfl c;simp only[stpA,q',s,(jFl (a:=a.take f) (fun c hc=>h c (List.mem_of_mem_take hc)) (fun z=>by have:=congrArg List.length z;rw[List.length_take_of_le (Nat.mod_le _ _)] at this;exact q this) (zdz (List.length_take_le _ _) (zdz (Nat.le_of_lt (Nat.mod_lt _ (by decide))) (by decide))))];rfl
 have rg:jd2 [.int (f:Nat),.int (a.length),.int 18]=some (jb9 (f:Nat) 18 k):=by
  show (if (0:Int)<18/\(18:Int)<2 ^ 60 then some _ else none)=_;rw[if_pos (by decide)];have:(Builtin.Range.rangeSize ((f:Nat):Int) (a.length:Nat) 18).toNat=k:=by
   unfold Builtin.Range.rangeSize;rw[if_pos (by decide)]
   by_cases q:f<a.length
   .lia
   .lia
  rw[this]
 obtain⟨Y',e3,hd⟩:=jnp (g:=jcf) (tg:=DL.gName 3) (jb9 (f:Nat) 18 k) (fun j Y=>∃ z,Y=Y0 (digitsVal (a.take (f+18*j))) z) (fun j hj Y ⟨z,hz⟩=>by
  subst hz;have hjk:=by simpa[jb9] using hj
  have hg:(jb9 _ 18 k)[j]=.int ((f+18*j:Nat):Int):=by simp[jb9];lia
  refine⟨_,by rw[hg];rfl,Y0 _ (oI ((f+18*j:Nat):Int)),.inl ?_,_,rfl⟩;have bj:f+18*j+18<=a.length:=by rw[<- cz,Nat.add_assoc];exact Nat.add_le_add_left (Nat.mul_le_mul_left 18 hjk) f
  have c:=cut _ 18 bj;have l2:=List.length_take_of_le (by rw[List.length_drop];exact Nat.le_sub_of_add_le (by rw[Nat.add_comm];exact bj));have v:digitsVal (a.take (f+18*(j+1)))=digitsVal (a.take (f+18*j))*1000000000000000000+digitsVal ((a.drop (f+18*j)).take 18):=by
   have:a.take (f+18*(j+1))=a.take (f+18*j)++(a.drop (f+18*j)).take 18:=by rw[show f+18*(j+1)=(f+18*j)+18 from rfl,List.take_add]
   rw[this,jxb,l2]
  rw[v];show gSet 2 _ _=_;rw[jB8,e_2,e_2,e_L,jce,(jvy rfl rfl rfl c)];show ((M.o _).b fun x=>((M.o _).b _)).b _=_;rw[(mT (b:=60) (jLw (fun c hc=>h c (List.mem_of_mem_take hc)) (zdz (List.length_take_le' _ _) (zdz hl (by decide)))) (by unfold Bt;decide)),(jFl (dig _ 18) (fun z=>by rw[z] at l2;cases l2) (by rw[l2];decide))];show some (Except.ok (Out.nx [_,_,some _,_]))=some (Except.ok (Out.nx [_,_,some _,_]));rw[show ((digitsVal _*1000000000000000000+digitsVal _:Nat):Int)=((digitsVal (a.take (f+18*j)):Nat):Int)*1000000000000000000+((digitsVal ((a.drop (f+18*j)).take 18):Nat):Int) by lia]) _ ⟨none,rfl⟩
 obtain⟨z,rfl⟩:=hd;have hk:(jb9 (f:Nat) 18 k).length=k:=by simp[jb9]
 have all:a.take (f+18*(jb9 (f:Nat) 18 k).length)=a:=by rw[hk,cz,List.take_length]
 rw[all] at e3;have e4:gFor (jby jd2 (jaa (vR 1) (jaa (fL kLen (jaa (vR 0) fNil)) (jaa (cI 18) fNil)))) (DL.gName 3) jcf (Y0 (digitsVal (a.take f)) none)=nX (Y0 (digitsVal a) z):=by
  show gFor _ _ _ [some (sT a),oI _,oI _,none]=_;simp only[stpA,ay,rg];exact e3
 show (jbn [some (sT a),none,none,none]).b outD=_;unfold jbn;rw[jc3 e1,jc3 e2,jc3 e4];rfl
def jAr(h:c≠45):Txt.startswith (St (c::a)) (Str.ofString "-")=false:=by
 rw[jlq];unfold Txt.startswith Builtin.Str.subAt St;simp;intro _;show ¬ List.take 1 _=[45];simp;exact h
def jp0(h:AllDigits a)(h1:a≠[])(hl:a.length<=40):jbp [sT a]=oK (.int (digitsVal a:Nat)):=by
 obtain⟨c,a',rfl⟩:∃ c a',a=c::a':=by cases a<;>grind
 have hc:=h.head;have t:tTru (fSm gStarts (vR 0) (cS "-")) [some (sT (c::a'))]=oK false:=by
  have:fSm gStarts (vR 0) (cS "-") [some (sT (c::a'))]=M.p _:=rfl;rw[jxf,this,(jAr (by lia))];rfl
 show (jdb [some _]).b _=_;unfold jdb;rw[jc3 (by rw[jmk t,if_neg nofun];rfl)];simp only[stpA,jmu h h1 hl];rfl
def nmD(aa:LL):List D:=aa.map fun a=>sT a
abbrev oN(l:LL):Option D:=oL (nmD l)
def jpy(a b:LL):nmD a++nmD b=nmD (a++b):=by unfold nmD;grind
def frmW(aa:LL)(a:List Nat):Fm:=match a with
 | []=>([],0)
 | c::r=>if isL c=true then (aa.map fun b=>if b=c::r then 1 else 0,0) else (List.replicate aa.length 0,(digitsVal (c::r):Nat))
def ix0(h:a.length<=40000):gIx (sT (c::a)) (.int 0)=oS (S1 c):=by
 show (if (St _).length<=sizeLine then (atI _ 0).map _ else none)=_;rw[if_pos (by rw[sizeLine_eq,jbi,List.length_cons];lia)];unfold St;simp;rfl
def jIh(hn:aa.length<=1000)(h:Word a)(hl:a.length<=40):jdk [.lst (nmD aa),sT a]=oK (fm (frmW aa a)):=by
 obtain⟨_,_,_,c,a',rfl,_,hc⟩:=jd3 h;have t:tTru (fCall ja6 (jaa (f2 gIx (vR 1) (cI 0)) fNil)) [oN aa,some (sT (c::a'))]=oK (isL c):=by
  simp only[stpA,ix0 (a:=a') (by grind),jeg];rfl
 show (jdh [oN _,some _]).b _=_;unfold jdh frmW
 by_cases q:isL c=true
 .rw[q] at t;rw[jxd,jmk t,if_pos rfl];have e:=jba (c:=[some (sT _)]) (fe:=jd4) (K:=fun b=>D.str (St b)) (F:=fun b=>.int (if b=c::a' then 1 else 0)) aa none (fun b hb=>by
   unfold jd4;simp only[stpA,jey,jg5]
   by_cases z:b=c::a'
   .rw[beq_iff_eq.mpr z,if_pos z];rfl
   .rw[beq_eq_false_iff_ne.mpr z,if_neg z];rfl)
  have e':jcn _ _ _ (nmD _) _=some _:=e;simp only[stpA,e',jbk (ds:=aa.map fun b=>D.int _) (by grind),if_pos q];unfold fm;rw[List.map_map];rfl
 .have q':=by simpa using q
  rw[q'] at t;have hg:AllDigits (c::a')/\(c::a')≠[]:=by
   cases h with
   | zero=>exact⟨fun d hd=>by grind,by simp⟩
   | name _ h2 _=>grind
   | num _ h2 _=>grind [jLo]
  rw[jc3 (by rw[jmk t,if_neg nofun];rfl)];have ln:(nmD aa).length=aa.length:=by simp[nmD]
  simp only[stpA,(jMz (Y:=[oN aa,some _]) (fl:=jaa (cI 0) fNil) (fb:=fL kLen (jaa (vR 0) fNil)) _ _ rfl (by simp only[stpA,ln]) hn),jp0 hg.1 hg.2 hl,if_neg q];unfold fm;rw[List.map_replicate];rfl
def occS(s sub:Str)(hi ac:Nat)(r:Array Nat×Nat)(i:Nat):Array Nat×Nat :=
 if ((r.1.size<ac/\r.2<=i)/\i+sub.length<=hi)/\Builtin.Str.subAt s sub i=true then (r.1.push i,i+sub.length) else r
def jt9(s sub:Str)(lo hi ac:Nat):Builtin.Str.occurrences s sub lo hi ac=((List.range' lo (hi+1-lo)).foldl (occS s sub hi ac) (#[],lo)).1.toList:=by
 unfold Builtin.Str.occurrences;simp[Id.run];have go:∀ (l:List Nat) (a:Array Nat×Nat),(forIn (m:=Id) l a fun i r =>
    if ((r.fst.size<ac/\r.snd<=i)/\i+sub.length<=hi)/\Builtin.Str.subAt s sub i=true then
     pure (ForInStep.yield (r.fst.push i,i+sub.length))
    else pure (ForInStep.yield (r.fst,r.snd)))=l.foldl (occS s sub hi ac) a:=by
  intro l
  induction l with
  | nil=>exact fun _=>rfl
  | cons i l ih =>
   grind [List.forIn_cons,List.foldl_cons,occS]
 rw[go];rfl
theorem jgo:∀ (l:List Nat),(∀ i∈l,ac<=r.1.size\/i<r.2\/hi<i+sub.length\/Builtin.Str.subAt s sub i=false)->l.foldl (occS s sub hi ac) r=r
 | [],_=>rfl
 | i::l,h=>by
  rw[List.foldl_cons];have:occS s sub hi ac r i=r:=by
   unfold occS;rw[if_neg];rintro⟨⟨⟨h1,h2⟩,h3⟩,h4⟩;rcases h i (zaa ..) with z|z|z|z
   .lia
   .lia
   .lia
   .grind
  rw[this];exact jgo l fun j hj=>h j (zaw _ hj)
theorem jGo(t u:List Nat)(i:Nat):Builtin.Str.subAt (St t) (St u) i=decide ((t.drop i).take u.length=u):=by
 unfold Builtin.Str.subAt;rw[jbi];have:(St t).cps.extract i (i+u.length)=((t.drop i).take u.length).toArray:=by
  unfold St;rw[List.extract_toArray,List.extract_eq_take_drop,Nat.add_sub_cancel_left]
 rw[this];unfold St
 grind
def jN8(h:t[i]?≠some c):Builtin.Str.subAt (St t) (St (c::u)) i=false:=by
 rw[jGo];refine decide_eq_false fun z=>h ?_
 cases e:t.drop i with
 | nil=>grind
 | cons d r =>
  rw[e] at z;simp at z;have:=congrArg (fun l=>l[0]?) e
  grind
def jLk:Builtin.Str.subAt (St (a++(u++r))) (St u) a.length=true:=by
 grind [jGo,decide_eq_true,List.drop_left,List.take_left]
def jom(t:List Nat)(i j:Nat):Builtin.Str.strSub (St t) i j=St ((t.drop i).take (j-i)):=by
 unfold Builtin.Str.strSub St
 grind
def jk9(h:c∉p):(List.range' b.length p.length).foldl (occS (St (b++(p++r))) (St (c::u)) hi ac) st=st:=by
 refine jgo _ fun i hi=>.inr (.inr (.inr (jN8 fun z=>h ?_)))
 grind
def jg1(a m k:Nat):List.range' a (m+k)=List.range' a m++List.range' (a+m) k:=by
 grind
def jtj(h1:st.1.size<ac)(h2:st.2<=b.length)(ht:t=b++((c::u)++r)) :
  (List.range' b.length (u.length+1)).foldl (occS (St t) (St (c::u)) t.length ac) st=(st.1.push b.length,b.length+(u.length+1)):=by
 subst ht;rw[List.range'_succ,List.foldl_cons];have e:occS (St (b++((c::u)++r))) (St (c::u)) (b++((c::u)++r)).length ac st b.length=(st.1.push b.length,b.length+(u.length+1)):=by
  unfold occS;rw[if_pos ⟨⟨⟨h1,h2⟩,by rw[jbi];simp⟩,jLk⟩,jbi,List.length_cons]
 rw[e];refine jgo _ fun i hi=>.inr (.inl ?_)
 rw[List.mem_range'_1] at hi
 lia
def jlz(h:c∉p)(hl:(p++((c::u)++r)).length<=50000):gPart (St (p++((c::u)++r))) (sT (c::u))=some (.tup [sT p,sT (c::u),sT r]):=by
 have ax:Builtin.Str.occurrences (St (p++((c::u)++r))) (St (c::u)) 0 (St (p++((c::u)++r))).length 1=[p.length]:=by
  rw[jt9,jbi,Nat.sub_zero];have e:(p++((c::u)++r)).length+1=p.length+((u.length+1)+(r.length+1)):=by simp;lia
  rw[e,jg1,jg1,List.foldl_append,List.foldl_append,Nat.zero_add];have f1:=jk9 (b:=[]) (r:=(c::u)++r) (u:=u) (hi:=p.length+(u.length+1+(r.length+1))-1) (ac:=1) (st:=(#[],0)) h;have e2:(p++((c::u)++r)).length=p.length+(u.length+1+(r.length+1))-1:=by lia
  rw[List.nil_append,List.length_nil] at f1;rw[e2,f1];have f2:=jtj (b:=p) (u:=u) (r:=r) (c:=c) (ac:=1) (st:=(#[],0)) (by decide) (Nat.zero_le _) rfl;rw[e2] at f2;rw[f2,jgo _ fun i hi=>.inl (by simp)];simp
 unfold gPart;dsimp only;rw[if_pos ⟨by rfl,by rw[jbi,sizeLine_eq];lia⟩];unfold jDf;rw[ax];dsimp only;rw[jom,jom,jbi,jbi]
 grind
def jap(ag:List Nat):LL->List Nat
 | []=>[]
 | [p]=>p
 | p::q::ps=>p++(ag++jap ag (q::ps))
def jmh(k:Nat):Nat->LL->List Nat
 | _,[]=>[]
 | _,[_]=>[]
 | a,p::q::ps=>(a+p.length)::jmh k (a+p.length+k) (q::ps)
theorem jph:∀ (ps:LL) (b:List Nat) (st:Array Nat×Nat) (t:List Nat) (ac:Nat),(∀ p∈ps,c∉p)->t=b++jap (c::u) ps->st.2<=b.length->st.1.size<=b.length->ac=t.length+1->ps≠[] ->
  ((List.range' b.length (t.length+1-b.length)).foldl (occS (St t) (St (c::u)) t.length ac) st).1.toList=st.1.toList++jmh (u.length+1) b.length ps
 | [],_,_,_,_,_,_,_,_,_,h=>absurd rfl h
 | [p],b,st,t,ac,hp,ht,h1,h2,hl,_=>by
  have bh:t=b++(p++[]):=by rw[ht,List.append_nil];rfl
  have e:t.length+1-b.length=p.length+1:=by rw[bh];simp;lia
  rw[e,jg1,List.foldl_append];have f1:=jk9 (b:=b) (r:=[]) (u:=u) (hi:=t.length) (ac:=ac) (st:=st) (hp p (zaa ..));rw[<- bh] at f1;rw[f1,jgo]
  .unfold jmh;simp
  .intro i hi;rw[List.mem_range'_1] at hi;rw[jbi,List.length_cons]
   lia
 | p::q::ps,b,st,t,ac,hp,ht,h1,h2,hl,_=>by
  have bh:t=b++(p++((c::u)++jap _ _)):=ht;have bg:t=(b++p)++((c::u)++jap (c::u) (q::ps)):=by rw[bh,List.append_assoc]
  have bq:t=(b++p++(c::u))++jap (c::u) (q::ps):=by rw[bg,List.append_assoc (b++p)]
  have lt:t.length=b.length+p.length+(u.length+1)+(jap (c::u) (q::ps)).length:=by rw[bq];simp;lia
  have e:t.length+1-b.length=p.length+((u.length+1)+(t.length+1-(b++p++(c::u)).length)):=by
   rw[zcb,zcb,List.length_cons];lia
  rw[e,jg1,List.foldl_append];have f1:=jk9 (b:=b) (r:=(c::u)++jap (c::u) (q::ps)) (u:=u) (hi:=t.length) (ac:=ac) (st:=st) (hp p (zaa ..));rw[<- bh] at f1;rw[f1,jg1,List.foldl_append,<- zcb,jtj (by lia) (by grind) bg];have ih:=jph _ _ (st.1.push (b++p).length,(b++p).length+(u.length+1)) t _ (fun x hx=>hp x (zaw _ hx)) bq (by simp;lia)
   (by grind) hl (by simp)
  have e4:(b++p++(c::u)).length=(b++p).length+(u.length+1):=by rw[zcb,List.length_cons]
  rw[e4] at ih;rw[e4,ih,Array.toList_push,List.append_assoc,zcb];rfl
theorem jo9:∀ (ps:LL) (b t:List Nat),t=b++jap ag ps->ps≠[] ->
  ((b.length::(jmh ag.length b.length ps).map fun x=>x+ag.length).zip (jmh ag.length b.length ps++[t.length])).map (fun x=>Builtin.Str.strSub (St t) x.1 x.2)=ps.map St
 | [],_,_,_,h=>absurd rfl h
 | [p],b,t,ht,_=>by
  unfold jmh;simp only[List.nil_append,List.zip_cons_cons,List.map_cons];rw[jom,ht];show [St (((b++p).drop _).take ((b++p).length-b.length))]=[St p]
  grind
 | p::q::ps,b,t,ht,_=>by
  have bg:t=b++(p++(ag++jap ag _)):=ht;have bq:t=(b++p++ag)++jap ag (q::ps):=by rw[bg];simp
  have ih:=jo9 _ _ t bq (by simp);have e4:(b++p++ag).length=b.length+p.length+ag.length:=by simp;lia
  rw[e4] at ih;show ((b.length::((b.length+p.length)::jmh _ _ _).map _).zip (((b.length+p.length)::jmh _ _ _)++[t.length])).map _=_;rw[List.map_cons,List.cons_append,List.zip_cons_cons,List.map_cons,List.map_cons,ih,jom,bg,List.drop_left,Nat.add_sub_cancel_left,List.take_left]
def jCr(h:u.all (fun x=>decide (x<256))=true):Builtin.Str.strKind (St u)=1:=by
 simp_all [Builtin.Str.strKind,St,if_pos,Array.all_toList]
def jEi(hu:(c::u).all (fun x=>decide (x<256))=true)(hp:∀ p∈ps,c∉p)(h0:ps≠[]):Txt.split (St (jap (c::u) ps)) (St (c::u))=ps.map St:=by
 have ax:Builtin.Str.occurrences (St (jap (c::u) ps)) (St (c::u)) 0 (St (jap (c::u) ps)).length ((St (jap (c::u) ps)).length+1)=jmh (u.length+1) 0 ps:=by
  rw[jt9,jbi];have:=jph (u:=u) ps [] (#[],0) _ _ hp rfl (Nat.zero_le _) (Nat.zero_le _) rfl h0;simpa using this
 have one:∀ p,ps=[p]->Txt.split (St (jap (c::u) ps)) (St (c::u))=ps.map St:=fun p e=>by
  subst e;have e2:(Builtin.Str.occurrences (St (jap (c::u) [p])) (St (c::u)) 0 (St (jap (c::u) [p])).length ((St (jap (c::u) [p])).length+1)).isEmpty=true:=by rw[ax];rfl
  unfold Txt.split
  split<;>rfl
 cases ps with
 | nil=>grind
 | cons p ps =>
  cases ps with
  | nil=>grind
  | cons q ps =>
   unfold Txt.split;rw[if_neg,if_neg,ax]
   .unfold Builtin.Str.partsBetween;have:=jo9 (ag:=c::u) (p::q::ps) [] _ rfl (by simp);exact this
   .grind [jmh]
   .rw[jCr hu,Bool.or_eq_true,decide_eq_true_eq,decide_eq_true_eq,jbi,jbi];rintro (z|z)
    .have:(jap (c::u) (p::q::ps)).length=p.length+((c::u).length+(jap (c::u) (q::ps)).length):=by
      show (p++(c::u++jap _ _)).length=_;rw[zcb,zcb]
     lia
    .have:1<=Builtin.Str.strKind (St (jap (c::u) (p::q::ps))):=by
      unfold Builtin.Str.strKind
      split
      .lia
      .grind
     lia
def jkv(hu:(c::u).all (fun x=>decide (x<256))=true)(hp:∀ p∈ps,c∉p)(h0:ps≠[])(hl:(jap (c::u) ps).length<=50000)(hn:ps.length<=1000) :
  gSplit (St (jap (c::u) ps)) (sT (c::u))=oN ps:=by
 unfold gSplit;dsimp only;rw[jEi hu hp h0,if_pos ⟨by rfl,by rw[jbi,sizeLine_eq];lia,by rw[zav,sizeLine_eq];lia⟩,List.map_map];rfl
def frmS(aa:LL)(w:Str):Fm:=frmW aa w.cps.toList
def jIi(aa:LL)(a:List Nat):frmS aa (St a)=frmW aa a:=by unfold frmS St;simp
abbrev WdN(aa:LL):Str->Prop:=Wd (.lst (nmD aa)) (frmS aa)
def jSq(hn:aa.length<=1000)(h:Word a)(hl:a.length<=40):WdN aa (St a):=by
 obtain⟨f1,f2,f3,c,a',rfl,f4,f5⟩:=jd3 h;have ne:∀ k,isL k=false->isG k=false->c≠k:=fun k h1 h2 z=>by grind
 refine⟨?_,?_,?_,(jIh hn h hl)⟩
 .rw[jyh,jg5];exact beq_eq_false_iff_ne.mpr (by simp[(ne 40 rfl rfl)])
 .rw[jIz,jg5];exact beq_eq_false_iff_ne.mpr (by simp[(ne 41 rfl rfl)])
 .rw[jso];simp;exact⟨fun z=>absurd z.symm (ne 43 rfl rfl),fun z=>absurd z.symm f4,fun z=>absurd z.symm (ne 42 rfl rfl)⟩
theorem jxq(x:Str):∀ (aa:LL) (a:List Nat),x=St a->a∈aa->inD (.str x) (nmD aa)=true
 | [],_,_,h=>(nomatch h)
 | b::aa,a,e,h=>by
  have:inD (.str x) (nmD (b::aa))=((St b == x) || inD _ (nmD _)):=rfl;rw[this];rcases List.mem_cons.mp h with rfl|h
  .rw[e];simp
  .rw[jxq x _ a e h];simp
def ju2(aa:LL):(nmD aa).all flatD=true:=by
 unfold nmD;rw[List.all_map];exact List.all_eq_true.mpr fun _ _=>rfl
def jBp(hl:a.length<=40000)(h:isL c=true->(c::a)∈aa):jfg [oN aa,x,pc,some (sT (c::a)),p]=nX [oN aa,x,pc,some (sT (c::a)),p]:=by
 unfold jfg;have t:DL.tAnd (tTru (fCall ja6 (jaa (f2 gIx (vR 3) (cI 0)) fNil))) (DL.t2 gNotIn (vR 3) (vR 0)) [oN aa,x,pc,some (sT (c::a)),p]=oK false:=by
  cases q:isL c with
  | false=>simp only[stpA,ix0 hl,jeg,q];rfl
  | true =>
   have g:gNotIn (sT (c::a)) (.lst (nmD aa))=some (.bl false):=by
    show (if (true&&(nmD _).all _)=true then some _ else none)=_;rw[ju2,if_pos (by decide),jxq _ _ _ rfl (h q)];rfl
   simp only[stpA,ix0 hl,jeg,q,g];rfl
 rw[jmk t,if_neg nofun];rfl
def jKo(hn:aa.length<=1000)(hx:x.cps.toList=jav ab p)(hs:x.length<=50000)(A:Acc (ab.map (·.2)) "beginning" 0)(hz:ab.length<=100000)
  (hw:∀ q∈ab,∃ c a,q.2=c::a/\(isL c=true->(c::a)∈aa)/\a.length<=40000) (S:jk0 aa.length (frmS aa) (WdN aa) (ab.map fun q=>St q.2) f) (Ω:Sto) :
  ∃ Ω',jji [.lst (nmD aa),.str x] Ω=some (.ok (fm f),Ω')/\Kept Ω.length Ω Ω':=by
 have e1:=jzm hx hs A hz;have e2:=jzh ab 0;generalize pcs _ 0=ps at e1 e2;obtain⟨o',R,w,l1,l2⟩:=S ps e2 [];have ay:=by have:=congrArg List.length e2;simpa using this
 obtain⟨Ω',e3,kp⟩:=jsd hn (by simp[nmD]) R l1 (by lia) Ω;refine⟨Ω',?_,kp⟩;show ((jjd [oN _,oS x,none,none,none]).b _) Ω=_;unfold jjd;have t1:lF (gSet 2 (fCall jfq (jaa (vR 1) fNil))) [oN aa,oS x,none,none,none] Ω=some (.ok (.nx [oN aa,oS x,oL (ps.map pcD),none,none]),Ω):=by
  have:gSet 2 (fCall jfq (jaa (vR 1) fNil)) [oN aa,oS x,none,none,none]=nX [oN aa,oS x,oL (ps.map pcD),none,none]:=by
   simp only[stpA,e1];rfl
  rw[s_lF,this,jKu]
 obtain⟨Y',az,_,y,z,rfl⟩:=jno (tg:=jbe 3 4) (fun rem Y=>(∃ q,rem=q.map pcD/\∀ u∈q,u∈ps)/\∃ y z,Y=[oN aa,oS x,oL (ps.map pcD),y,z]) (fun d ds Y ⟨⟨q,hq,hm⟩,y,z,hδ⟩=>by
  subst hδ
  cases q with
  | nil=>cases hq
  | cons u q =>
   obtain⟨rfl,rfl⟩:=List.cons.inj hq;obtain⟨s,hs1,hs2⟩:=zcv.mp (by rw[<- e2];exact List.mem_map_of_mem (hm u zaa));obtain⟨c,a,h1,h2,h3⟩:=hw s hs1;refine⟨_,rfl,_,.inl ?_,⟨q,rfl,fun v hv=>hm v (zaw _ hv)⟩,oS u.1,oI u.2,rfl⟩;rw[<- hs2,h1];exact jBp h3 h2) _ _ ⟨⟨ps,rfl,fun _ h=>h⟩,_,_,rfl⟩
 have t3:lF (gFor (jbs (vR 2)) (jbe 3 4) jfg) [oN aa,oS x,oL (ps.map pcD),none,none] Ω=some (.ok (.nx [oN aa,oS x,oL (ps.map pcD),y,z]),Ω):=by
  have:gFor (jbs (vR 2)) _ _ [oN _,oS x,oL _,none,none]=nX _:=az;rw[s_lF,this,jKu]
 rw[s_b,jsk,s_b,t1,jah,jma,jsk,s_b,t3,jah,jma];have l:lF (jaa (vR 0) (jaa (vR 2) fNil)) [oN aa,oS x,oL (ps.map pcD),y,z] Ω=some _:=rfl;rw[jqf,s_b,jf1,s_b,l,jah,e3,jah,s_p,jah,joi,s_p,w]
def dg(m:Nat):List Nat:=(Nat.toDigits 10 m).map Char.toNat
def jw6(m:Nat):Str.ofString (toString ((m:Nat):Int))=St (dg m):=by
 have:=W.KIN.signs_num m;unfold St dg;rw[<- this]
def jgm(m:Nat):AllDigits (dg m):=by
 intro c hc;obtain⟨ch,hch,e⟩:=zcv.mp hc;rw[<- e];exact (PyProof.Rows.digit_range (Nat.isDigit_of_mem_toDigits (by decide) (by decide) hch))
def js8(m:Nat):digitsVal (dg m)=m:=W.KIN.val_back m
def jnj(m:Nat):dg m≠[]:=by
 intro e;have:=Nat.length_toDigits_pos (b:=10) (n:=m);rw[(List.map_eq_nil_iff.mp e)] at this;exact absurd this nofun
def je9(h:m<10 ^ 31):(dg m).length<=31:=by
 unfold dg;rw[zav];have e:=(Nat.length_repr_le_iff (by decide)).mpr h
 grind [String.length_toList,Nat.toList_repr]
def jmz(h:AllDigits a):∀ c∈a,isG c=true:=fun c hc=>by
 have:=h c hc
 grind [isG]
def jHy(m:Nat):Word (dg m):=by
 by_cases q:(dg m).head? = some 48
 .have:dg m=[48]:=by
   have e:=toDigits_all _ (jgm m);rw[js8] at e;have el:(Nat.toDigits 10 m).length=(dg m).length:=by unfold dg;rw[zav]
   cases hd:dg m with
   | nil=>grind
   | cons c r =>
    rw[hd] at q e el;simp at q;subst q;have e2:(48::r).dropWhile (· == 48)=r.dropWhile (· == 48):=by simp
    rw[e2] at e;have bj:(r.dropWhile (· == 48)).length<=r.length:=(List.dropWhile_sublist _).length_le
    cases hr:r.dropWhile _ with
    | nil =>
     rw[hr] at e;have:=congrArg List.length e;rw[el] at this;simp at this;rw[this]
    | cons c' r' =>
     rw[hr] at e bj;have:=congrArg List.length e;rw[el] at this;simp at this bj
     lia
  rw[this];exact .zero
 .exact .num (jnj m) (jmz (jgm m)) q
theorem ji2(a b:List Nat):St a++St b=St (a++b):=by
 show (⟨_⟩:Str)=_;unfold St;simp
def jex(h:a.length+b.length<=100000):gCat (sT a) (sT b)=some (sT (a++b)):=by
 rw[jHf (by grind [jbi,sizeLine_eq]),ji2]
structure Nm(a:List Nat):Prop where
 ne:a≠[]
 al:∀ c∈a,isL c=true
 le:a.length<=10
theorem jrm(a:List Nat):∀ aa:LL,inD (sT a) (nmD aa)=decide (a∈aa)
 | []=>by simp[nmD,inD]
 | b::aa=>by
  have:inD (sT a) (nmD (b::aa))=((St b == St a) || inD _ (nmD _)):=rfl;rw[this,jrm a _,jg5]
  by_cases q:b=a
  .subst q;simp
  .rw[beq_eq_false_iff_ne.mpr q];simp[show ¬ a=b from fun z=>q z.symm]
def juo(h:v<10 ^ 31):kStr [.int (v:Nat)]=some (sT (dg v)):=by
 have hl:((v):Int).natAbs.log2<1920:=by
  by_cases q:v=0
  .simp_all
  .exact Nat.lt_trans ((Nat.log2_lt q).mpr (Nat.lt_trans h (by decide:10 ^ 31<2 ^ 200))) (by decide)
 show (if ((v):Int).natAbs.log2<1920 then some _ else none)=_;rw[if_pos hl,jw6]
def jpu:Str.ofString ""=St []:=by decide +kernel
theorem jx1:∀ ps:LL,Str.join (St []) (ps.map St)=St ps.flatten
 | []=>rfl
 | [p]=>by rw[List.map_cons,List.map_nil,List.flatten_cons,List.flatten_nil,List.append_nil];rfl
 | p::q::r=>by
  have ih:=jx1 (q::r);rw[List.map_cons,List.flatten_cons,List.map_cons];rw[List.map_cons] at ih;show St p++St []++Str.join _ _=_
  grind [ji2,List.append_nil]
def jPz(ps:LL):Txt.join (St []) (ps.map St)=St ps.flatten:=by
 rw[<- jx1];exact StrLaws.glued_eq_join _ _
def jsr(ps:LL):strsD (nmD ps)=some (ps.map St):=by
 have:nmD ps=(ps.map St).map .str:=by rw[List.map_map];rfl
 rw[this,jAu]
def jtg{ps:LL}:((ps.map St).map (·.length)).sum=ps.flatten.length:=by
 rw[List.map_map,List.length_flatten];congr 1
def jIr(h:ps.flatten.length<=10000):jgp (St []) (.lst (nmD ps))=some (sT ps.flatten):=by
 show (match strsD _ with|some ys=>_|none=>none)=_;rw[jsr];dsimp only;rw[if_pos (by rw[jtg,jbi,List.length_nil,Nat.mul_zero];lia),jPz]
def jik(v:Nat)(a:List Nat):List Nat:=if v=1 then a else dg v++42::a
def addP(x:List Nat)(neg:Bool)(b:List Nat):List Nat:=if x=[] then (if neg=true then 45::b else b) else x++([32,if neg=true then 45 else 43,32]++b)
def jFq:Str.ofString " - "=St [32,45,32]:=by decide +kernel
def jFr:Str.ofString " + "=St [32,43,32]:=by decide +kernel
def jLn(ts:LL):Prop:=∀ (rest:LL) (d:Nat) (wt:Str),(wt == Str.ofString "behind")=false->Acc rest "behind" d->Acc (ts++rest) wt d
def SumA(ts:LL):Prop:=∀ (rest:LL) (d:Nat),Acc rest "behind" d->Acc (ts++rest) "beginning" d
def Toks(aa ts:LL):Prop:=∀ a∈ts,∃ c r,a=c::r/\(isL c=true->a∈aa)/\a.length<=40
def Toks.app(h:Toks aa ts)(k:Toks aa us):Toks aa (ts++us):=fun a ha=>by
 rcases zdy.mp ha with ha|ha
 .exact h a ha
 .exact k a ha
def Toks.sign(h:isL c=false):Toks aa [[c]]:=fun a ha=>by
 grind
structure Fc(aa:LL)(ts:LL)(f:Fm)(b:Nat):Prop where
 ok:jwb aa.length (frmS aa) (WdN aa) (ts.map St) f
 acc:jLn ts
 toks:Toks aa ts
 len:f.1.length=aa.length
 bf:BF b f
structure Tm(aa:LL)(ts:LL)(f:Fm)(b:Nat):Prop where
 ok:jii aa.length (frmS aa) (WdN aa) (ts.map St) f
 acc:jLn ts
 toks:Toks aa ts
 len:f.1.length=aa.length
 bf:BF b f
structure Sm(aa:LL)(ts:LL)(f:Fm)(b:Nat):Prop where
 ok:jk0 aa.length (frmS aa) (WdN aa) (ts.map St) f
 acc:SumA ts
 toks:Toks aa ts
 len:f.1.length=aa.length
 bf:BF b f
section
variable {aa ts us:LL}
def jLt:(Str.ofString "beginning" == Str.ofString "behind")=false:=by decide +kernel
def jtf:(Str.ofString "factor" == Str.ofString "behind")=false:=by decide +kernel
def Fc.fo(h:Fc aa ts f b)(hb:b<=KB):FO aa.length f:=⟨h.len,h.bf.mono hb⟩
def Tm.fo(h:Tm aa ts f b)(hb:b<=KB):FO aa.length f:=⟨h.len,h.bf.mono hb⟩
def Fc.word(hn:aa.length<=1000)(hw:Word a)(hl:a.length<=40)(hm:∀ x r,a=x::r->isL x=true->a∈aa)(e:frmW aa a=f)(len:f.1.length=aa.length)(bf:BF b f):Fc aa [a] f b:=by
 refine⟨?_,fun rest d wt h1 h2=>.word hw h1 h2,fun a' ha=>?_,len,bf⟩
 .have:=jCa (n:=aa.length) (ae:=frmS aa) (jSq hn hw hl);rw[jIi,e] at this;exact this
 .rw[zdx.mp ha];obtain⟨_,_,_,x,r,rfl,_,_⟩:=jd3 hw
  grind
def Fc.paren(h:Sm aa ts f b):Fc aa ([40]::ts++[[41]]) f b:=by
 refine⟨?_,fun rest d wt h1 h2=>?_,(((Toks.sign rfl).app h.toks).app (Toks.sign rfl)),h.len,h.bf⟩
 .have:=jxh h.ok;rw[List.map_append,List.map_cons];exact this
 .rw[List.append_assoc,List.cons_append];exact .opn h1 (h.acc _ _ (.cls h2))
def Fc.tm(h:Fc aa ts f b)(hb:b<=KB):Tm aa ts f b:=⟨jEs h.ok (h.fo hb),h.acc,h.toks,h.len,h.bf⟩
def jDr(hf:f.1.length=aa.length)(hg:g.1.length=aa.length):(jhk f g).1.length=aa.length:=by
 grind [jhk,jd0]
def jKg(hf:BF b f)(hg:BF c g):BF (b+c) (jhk f g):=by
 unfold jhk
 split
 .exact hf.mul hg.2
 .rw[Nat.add_comm];exact hg.mul hf.2
def Tm.mul(h:Tm aa ts f b)(k:Fc aa us g c)(hb:b<=KB)(hc:c<=KB)(hp:jb8 f=true\/jb8 g=true):Tm aa (ts++[42]::us) (jhk f g) (b+c):=by
 refine⟨?_,fun rest d wt h1 h2=>?_,h.toks.app ((Toks.sign rfl).app k.toks),jDr h.len k.len,jKg h.bf k.bf⟩
 .have:=jEt h.ok k.ok (h.fo hb) (k.fo hc) hp;rw[List.map_append,List.map_cons];exact this
 .rw[List.append_assoc,List.cons_append];exact h.acc _ _ _ h1 (.bin (jxw) (k.acc _ _ _ jtf h2))
def Tm.sm(h:Tm aa ts f b)(hb:b<=KB):Sm aa ts f b:=⟨jEq h.ok (h.fo hb),fun rest d h2=>h.acc _ _ _ jLt h2,h.toks,h.len,h.bf⟩
def Tm.neg(h:Tm aa ts f b)(hb:b<=KB):Sm aa ([45]::ts) (mulF f (-1)) b:=by
 refine⟨?_,fun rest d h2=>(.neg (h.acc _ _ _ jtf h2)),(Toks.sign rfl).app h.toks,by rw[jd0];exact h.len,h.bf.neg⟩
 .have:=jLa h.ok (h.fo hb);exact this
def Sm.add(h:Sm aa ts f b)(k:Tm aa us g b)(hb:b<=KB):Sm aa (ts++[43]::us) (addF f g) (b+1):=by
 refine⟨?_,fun rest d h2=>?_,h.toks.app ((Toks.sign rfl).app k.toks),by rw[jna (by rw[h.len,k.len])];exact h.len,h.bf.add k.bf⟩
 .have:=jK8 h.ok k.ok (k.fo hb);rw[List.map_append,List.map_cons];exact this
 .rw[List.append_assoc,List.cons_append];exact h.acc _ _ (.bin (jxv) (k.acc _ _ _ jtf h2))
def Sm.sub(h:Sm aa ts f b)(k:Tm aa us g b)(hb:b<=KB):Sm aa (ts++[45]::us) (addF f (mulF g (-1))) (b+1):=by
 refine⟨?_,fun rest d h2=>?_,h.toks.app ((Toks.sign rfl).app k.toks),by rw[jna (by rw[h.len,jd0,k.len])];exact h.len,h.bf.add k.bf.neg⟩
 .have:=jLb h.ok k.ok (k.fo hb);rw[List.map_append,List.map_cons];exact this
 .rw[List.append_assoc,List.cons_append];exact h.acc _ _ (.bin (jnu) (k.acc _ _ _ jtf h2))
def Tm.mono(h:Tm aa ts f b)(hc:b<=c):Tm aa ts f c:=⟨h.ok,h.acc,h.toks,h.len,h.bf.mono hc⟩
def Sm.mono(h:Sm aa ts f b)(hc:b<=c):Sm aa ts f c:=⟨h.ok,h.acc,h.toks,h.len,h.bf.mono hc⟩
end
def plF(n:Nat)(v:Nat):Fm:=(List.replicate n 0,(v:Int))
def jue(n v:Nat):jb8 (plF n v)=true:=by unfold jb8 plF;simp
def jyy(hn:aa.length<=1000)(hv:v<10 ^ 31):Fc aa [dg v] (plF aa.length v) 110:=by
 have hw:=jHy v;obtain⟨_,_,_,x,r,e,_,_⟩:=jd3 hw;have hx:=jtn (jmz (jgm v) x (by grind));have hl:=je9 hv;refine .word hn hw (by lia) (fun y s ey hy=>?_) ?_ (by simp[plF]) ⟨fun c hc=>?_,(Nat.lt_trans hv (by decide))⟩
 .grind
 .have:=js8 v;rw[e] at this |-
  unfold frmW plF;dsimp only;rw[hx,if_neg nofun,this]
 .have:=by
   have:=hc;exact (List.mem_replicate.mp this).2
  grind [Bt]
def hotF(n i:Nat):Fm:=((List.range n).map fun k=>if k=i then 1 else 0,0)
def jJk(hn:aa.length<=1000)(hN:∀ a∈aa,Nm a)(hd:aa.Nodup)(hi:i<aa.length):Fc aa [aa[i]] (hotF aa.length i) 110:=by
 have hm:=List.getElem_mem hi;have na:=hN _ hm;refine .word hn (.name na.ne na.al na.le) (by have:=na.le;lia) (fun _ _ _ _=>hm) ?_ (by simp[hotF]) ⟨fun c hc=>?_,by show Bt 110 0;grind [Bt]⟩
 .obtain⟨x,r,e⟩:∃ x r,aa[i]=x::r:=by
   cases h:aa[i] with
   | nil=>exact absurd h na.ne
   | cons x r=>grind
  have hx:=na.al x (by grind);have:frmW aa aa[i]=(aa.map fun b=>if b=aa[i] then 1 else 0,0):=by
   generalize hg:aa[i]=w at e |-
   subst e;unfold frmW;dsimp only;rw[if_pos hx]
  rw[this];congr 1;apply List.ext_getElem
  .simp
  .intro j h1 h2;simp only[List.getElem_map,List.getElem_range];have hj:=by simpa using h1
   by_cases q:j=i
   .subst q;simp
   .have pw:=List.pairwise_iff_getElem.mp hd
    grind
 .obtain⟨k,_,rfl⟩:=zcv.mp hc
  grind [Bt]
def jdf(x:List Nat)(p:List Nat×Int):List Nat:=if p.2=0 then x else addP x (decide (p.2<0)) (jik p.2.natAbs p.1)
def jbw(aa:LL)(f:Fm):List Nat :=
 let y:=if f.2=0 then (aa.zip f.1).foldl jdf [] else addP ((aa.zip f.1).foldl jdf []) (decide (f.2<0)) (dg f.2.natAbs)
 if y=[] then [48] else y
def jou(c:Int):kAbs [.int c]=oI (c.natAbs:Nat):=by
 show some _=_
 grind
def jkk(x:List Nat)(n:Bool)(b:List Nat):(addP x n b).length<=x.length+3+b.length:=by
 unfold addP
 split
 .split<;>simp<;>lia
 .simp;lia
theorem jkl(h:v<10 ^ 31)(ha:a.length<=40):(jik v a).length<=80:=by
 unfold jik;have:=je9 h
 grind
def jze(p:List Nat×Int):D:=.tup [sT p.1,.int p.2]
def jF0(aa:LL)(cs:List Int):zipD (nmD aa) (cs.map .int)=(aa.zip cs).map jze:=jmg _ _ _ cs
structure FOk(n:Nat)(f:Fm):Prop where
 len:f.1.length=n
 cs:∀ c∈f.1,c.natAbs<10 ^ 31
 r:f.2.natAbs<10 ^ 31
def fm0'(f:Fm):gIx (fm f) (.int 0)=some (.tup (f.1.map .int)):=by unfold fm;rw[ix_t,at0]
def fm1'(f:Fm):gIx (fm f) (.int 1)=oI f.2:=by unfold fm;rw[ix_t,at1]
section
variable {aa:LL}
theorem jko:∀ (ps:List (List Nat×Int)) (x:List Nat),(∀ p∈ps,p.1.length<=40/\p.2.natAbs<10 ^ 31)->(ps.foldl jdf x).length<=x.length+100*ps.length
 | [],x,_=>by simp
 | p::ps,x,hp=>by
  obtain⟨p1,p2⟩:=hp p zaa;have hl:(jdf x p).length<=x.length+100:=by
   unfold jdf
   split
   .lia
   .have:=jkk x (decide (p.2<0)) (jik p.2.natAbs p.1);have:=jkl p2 p1
    lia
  have:=jko ps (jdf x p) (fun q hq=>hp q (zaw _ hq))
  grind
theorem jq0(hN:∀ a∈aa,a.length<=40)(h:FOk aa.length f):∀ p∈aa.zip f.1,p.1.length<=40/\p.2.natAbs<10 ^ 31:=fun p hp=>⟨hN _ (zca hp).1,h.cs _ (zca hp).2⟩
theorem jjq:∀ (a b:List (Nat×List Nat)) (p:Nat),jav (a++b) p=jav a 0++jav b p
 | [],b,p=>rfl
 | (k,t)::a,b,p=>by
  show List.replicate k 32++(t++jav (a++b) p)=(List.replicate k 32++(t++jav a 0))++jav b p;rw[jjq a b p,List.append_assoc,List.append_assoc]
theorem jfw:∀ ts:LL,jav (ts.map fun t=>(0,t)) 0=ts.flatten
 | []=>rfl
 | t::ts=>by
  show List.replicate 0 32++(t++jav _ 0)=_;rw[jfw ts,List.flatten_cons];rfl
def jsp(ts:LL):(ts.map fun t=>((0,t):Nat×List Nat)).map (·.2)=ts:=by rw[List.map_map];exact List.map_id _
def jEz(n:Nat):Fm:=(List.replicate n 0,0)
def sgn(neg:Bool):Int:=if neg=true then -1 else 1
def PSh(aa:LL)(x:List Nat)(F:Fm)(b m:Nat):Prop :=
 (x=[]/\F=jEz aa.length)\/(x≠[]/\∃ ab:List (Nat×List Nat),x=jav ab 0/\ab.length<=m/\Sm aa (ab.map (·.2)) F b)
def PSh.add(h:PSh aa x F b m)(T:Tm aa (t0::tr) G b)(hb:b<=KB):PSh aa (addP x neg (t0::tr).flatten) (addF F (mulF G (sgn neg))) (b+1) (m+3+tr.length):=by
 have bd:(t0::tr).flatten≠[]:=by
  obtain⟨c,r,e,_⟩:=T.toks t0 zaa;rw[e];simp
 have z1:∀ H,H.1.length=aa.length->addF (jEz _) H=H:=fun H hl=>by
  have:=jij (f:=H);rw[hl] at this;exact this
 rcases h with ⟨rfl,rfl⟩|⟨hx,ab,e1,e2,S⟩
 .right
  cases neg with
  | true =>
   refine⟨by unfold addP;simp,(0,[45])::(t0::tr).map fun t=>(0,t),?_,?_,?_⟩
   .show _=List.replicate 0 32++([45]++jav _ 0);rw[jfw];rfl
   .simp;lia
   .rw[List.map_cons,jsp,z1 _ (by rw[jd0];exact T.len)];exact (T.neg hb).mono (Nat.le_add_right _ _)
  | false =>
   refine⟨bd,(t0::tr).map fun t=>(0,t),?_,?_,?_⟩
   .unfold addP;rw[if_pos rfl,if_neg nofun,jfw]
   .simp;lia
   .rw[jsp,z1 _ (by rw[jd0];exact T.len)];have:mulF G (sgn false)=G:=jhg G;rw[this];exact (T.sm hb).mono (Nat.le_add_right _ _)
 .right
  refine⟨by unfold addP;simp_all,ab++((1,[if neg=true then 45 else 43])::(1,t0)::tr.map fun t=>(0,t)),?_,?_,?_⟩
  .unfold addP;rw[if_neg hx,jjq,<- e1];congr 1;show _=List.replicate 1 32++([if neg=true then 45 else 43]++(List.replicate 1 32++(t0++jav _ 0)));rw[jfw,List.flatten_cons];rfl
  .simp;lia
  .rw[List.map_append,List.map_cons,List.map_cons,jsp]
   cases neg with
   | true=>exact S.sub T hb
   | false =>
    have:mulF G (sgn false)=G:=jhg G;rw[this];exact S.add T hb
def jC9(hn:aa.length<=1000)(hN:∀ a∈aa,Nm a)(hd:aa.Nodup)(hi:i<aa.length)(hv:v<10 ^ 31) :
  ∃ t0 tr,(t0::tr).flatten=jik v aa[i]/\tr.length<=2/\Tm aa (t0::tr) (mulF (hotF aa.length i) v) 220:=by
 have FH:=jJk hn hN hd hi;have k1:(110)<=KB:=by decide
 unfold jik
 by_cases q:v=1
 .subst q;refine⟨aa[i],[],by simp,by simp,?_⟩;have:mulF _ ((1:Nat))=hotF aa.length i:=jhg _;rw[this];exact (FH.tm k1).mono (by decide)
 .have FP:=jyy hn hv;refine⟨dg v,[[42],aa[i]],by grind,by simp,?_⟩;have T:=(FP.tm k1).mul FH k1 k1 (.inl (jue _ v));have e:jhk (plF aa.length v) (hotF aa.length i)=mulF (hotF aa.length i) v:=by
   rw[jzr (jue _ v) (by rw[FP.len,FH.len])];rfl
  grind
def upTo(cs:List Int)(k:Nat):Fm:=((List.range cs.length).map fun j=>if j<k then cs.getD j 0 else 0,0)
def jAi(c:Int):((c.natAbs:Nat):Int)*sgn (decide (c<0))=c:=by
 unfold sgn
 by_cases h:c<0
 .rw[decide_eq_true h,if_pos rfl];lia
 .rw[decide_eq_false h,if_neg nofun];lia
def jz1(n:Nat)(g h:Nat->Int):(((List.range n).map g).zip ((List.range n).map h)).map (fun p:Int×Int=>p.1+p.2)=(List.range n).map fun j=>g j+h j:=by
 rw[List.zip_map',List.map_map];rfl
def jA6(hk:k<cs.length):addF (upTo cs k) (mulF (mulF (hotF cs.length k) (cs.getD k 0).natAbs) (sgn (decide (cs.getD k 0<0))))=upTo cs (k+1):=by
 unfold addF upTo mulF hotF;refine Prod.ext ?_ (by simp);rw[List.map_map,List.map_map,jz1];apply List.map_congr_left;intro j _;have hs:=jAi (cs.getD k 0);show (if j<k then cs.getD j 0 else 0)+(if j=k then 1 else 0)*_*_=_
 by_cases q:j=k
 .subst q;rw[if_neg (by lia),if_pos rfl,if_pos (by exact zac _),Int.one_mul,hs,Int.zero_add]
 .rw[if_neg q,Int.zero_mul,Int.zero_mul,Int.add_zero]
  by_cases r:j<k
  .rw[if_pos r,if_pos (Nat.lt_succ_of_lt (by assumption))]
  .rw[if_neg r,if_neg (by lia)]
def jA5(h0:cs.getD k 0=0):upTo cs (k+1)=upTo cs k:=by
 unfold upTo;refine Prod.ext ?_ rfl;apply List.map_congr_left;intro j _
 by_cases q:j=k
 .subst q;rw[if_pos (by exact zac _),if_neg (by lia),h0]
 .by_cases r:j<k
  .rw[if_pos r,if_pos (Nat.lt_succ_of_lt (by assumption))]
  .rw[if_neg r,if_neg (by lia)]
def jA7(cs:List Int):upTo cs 0=jEz cs.length:=by
 unfold upTo jEz;refine Prod.ext ?_ rfl;apply List.ext_getElem
 .simp
 .simp
def jEw(cs:List Int):upTo cs cs.length=(cs,0):=by
 unfold upTo;refine Prod.ext ?_ rfl;apply List.ext_getElem
 .simp
 .intro j h1 h2;have:=by simpa using h1
  simp[this]
theorem jti(hn:aa.length<=1000)(hN:∀ a∈aa,Nm a)(hd:aa.Nodup)(hl:cs.length=aa.length)(hc:∀ c∈cs,c.natAbs<10 ^ 31):∀ k:Nat,k<=aa.length->PSh aa (((aa.zip cs).take k).foldl jdf []) (upTo cs k) (220+k) (5*k)
 | 0,_=>.inl ⟨rfl,by rw[jA7,hl]⟩
 | k+1,hk=>by
  have ih:=jti hn hN hd hl hc k (Nat.le_of_lt (by assumption));have ca:k<cs.length:=by lia
  have e:(aa.zip cs).take (k+1)=(aa.zip cs).take k++[(aa[k],cs[k])]:=by
   rw[List.take_succ_eq_append_getElem (by rw[List.length_zip];lia)];simp
  rw[e,List.foldl_append,List.foldl_cons,List.foldl_nil];generalize ((aa.zip cs).take k).foldl _ []=x at ih;have eg:cs.getD k 0=cs[k]:=by simp[ca]
  by_cases q:cs[k]=0
  .have:jdf x (aa[k],cs[k])=x:=if_pos q;rw[this,jA5 (by lia)];rcases ih with h|⟨h1,ab,h2,h3,h4⟩
   .exact .inl h
   .exact .inr ⟨h1,_,h2,by lia,h4.mono (by lia)⟩
  .have:jdf x (aa[k],cs[k])=addP x _ _:=if_neg q;rw[this];obtain⟨t0,tr,e1,e2,T⟩:=jC9 hn hN hd _ (hc _ (List.getElem_mem ca));have u:=jA6 ca;rw[eg,hl] at u;have P:=PSh.add (neg:=decide (cs[k]<0)) ih (T.mono (Nat.le_add_right _ _)) (by show 220+k<=90000;lia);rw[e1,u] at P;rcases P with h|⟨h1,ab,h2,h3,h4⟩
   .exact .inl h
   .exact .inr ⟨h1,_,h2,by lia,h4⟩
def jzu(hn:aa.length<=1000)(P:PSh aa y F b m)(hm:m<=1000)(hb:b<=2000):∃ ab,(if y=[] then [48] else y)=jav ab 0/\ab.length<=1000/\Sm aa (ab.map (·.2)) F 2000:=by
 rcases P with ⟨h1,h2⟩|⟨h1,ab,h2,h3,h4⟩
 .rw[if_pos h1,h2];exact⟨[(0,[48])],rfl,by simp,((((jyy hn (v:=0) (by decide)).tm (by decide)).sm (by decide)).mono (by decide))⟩
 .rw[if_neg h1];exact⟨_,h2,zdz (by assumption) (by assumption),h4.mono (by assumption)⟩
def jEc(hn:aa.length<=10)(hN:∀ a∈aa,Nm a)(hd:aa.Nodup)(h:FOk aa.length f):∃ ab,jbw aa f=jav ab 0/\ab.length<=1000/\Sm aa (ab.map (·.2)) f 2000:=by
 have bu:aa.length<=1000:=zdz (by assumption) (by decide);have P:=jti bu hN hd h.len h.cs _ (zac _);rw[List.take_of_length_le (by grind)] at P;have ua:=jEw f.1;rw[h.len] at ua;rw[ua] at P;unfold jbw
 by_cases q:f.2=0
 .rw[if_pos q];have e:(f.1,(0))=f:=by rw[<- q]
  rw[e] at P;exact jzu bu P (by lia) (by lia)
 .rw[if_neg q];have P2:=PSh.add (neg:=decide (f.2<0)) P (((jyy bu h.r).tm (by decide)).mono (by lia)) (by show 220+aa.length<=90000;lia);have e1:[dg f.2.natAbs].flatten=dg f.2.natAbs:=by simp
  have e2:addF (f.1,0) (mulF (plF aa.length f.2.natAbs) (sgn (decide (f.2<0))))=f:=by
   unfold addF mulF plF;refine Prod.ext ?_ ?_
   .rw[List.map_replicate,Int.zero_mul,<- h.len];apply List.ext_getElem
    .simp
    .simp
   .rw[jAi,Int.zero_add]
  rw[e1,e2] at P2;exact jzu bu P2 (by simp;lia) (by lia)
def jg4(hn:aa.length<=10)(hN:∀ a∈aa,a.length<=40)(h:FOk aa.length f):(jbw aa f).length<=5000:=by
 have fl:=jko _ [] (jq0 hN h);have hz:(aa.zip f.1).length<=10:=by rw[List.length_zip];lia
 have dl:=je9 h.r;have e0:([]:List Nat).length=0:=rfl;have b8:∀ y,y.length<=5000->(if y=[] then [48] else y).length<=5000:=fun y hy=>by
  grind
 refine b8 _ ?_
 by_cases q:f.2=0
 .grind
 .rw[if_neg q];have:=jkk ((aa.zip f.1).foldl jdf []) (decide (f.2<0)) (dg f.2.natAbs);lia
end
def jAz{ta tb:DSt->M Bool}{Y:DSt}{a b:Bool}(h1:ta Y=some (.ok a))(h2:tb Y=some (.ok b)):DL.tAnd ta tb Y=oK (a&&b):=by
 rw[jxe,h1,M.b_ok,h2];cases a<;>rfl
def jRs(x:List Nat):gNe (sT x) (sT [])=some (.bl !(decide (x=[]))):=by
 show some (D.bl !(St x == St []))=_;congr 3
 by_cases h:x=[]
 .subst h;simp
 .rw[decide_eq_false h];exact beq_eq_false_iff_ne.mpr fun z=>h (jm8 z)
def jN9(ps:LL):okD (.lst (nmD ps))=true:=jks fun x _=>by rfl
def jMe(ps:LL):depD (.lst (nmD ps))<=20:=by
 unfold depD nmD;have:=jip (f:=fun a=>sT a) (k:=0) (xs:=ps) fun x _=>by unfold depD;lia
 lia
def jtd(ps:LL):gEq (.lst (nmD ps)) (.lst [])=some (.bl (decide (ps=[]))):=by
 unfold gEq;rw[if_pos (by rw[jN9,decide_eq_true (jMe ps)];rfl)]
 cases ps with
 | nil=>rfl
 | cons p ps=>rfl
def jFw(b:Bool):gMulT (sT [45]) (.int (if b then 1 else 0))=some (sT (if b=true then [45] else [])):=by
 cases b<;>rfl
def jge(q:List Nat×Int):List Nat:=if q.1=[] then dg q.2.natAbs else jik q.2.natAbs q.1
def jv3(x:List Nat)(q:List Nat×Int):List Nat:=if q.2=0 then x else addP x (decide (q.2<0)) (jge q)
def jBf:jge q≠[]:=by
 unfold jge
 split
 .exact jnj _
 .unfold jik
  split<;>simp_all
def jwi(h1:q.1.length<=40)(h2:q.2.natAbs<10 ^ 31):(jge q).length<=80:=by
 unfold jge;have:=je9 h2
 grind [jkl]
theorem jpi:∀ (ps:List (List Nat×Int)) (x:List Nat),(∀ p∈ps,p.1≠[])->ps.foldl jv3 x=ps.foldl jdf x
 | [],_,_=>rfl
 | p::ps,x,h=>by
  have e:jv3 x p=jdf x p:=by unfold jv3 jdf jge;rw[if_neg (h p zaa)]
  rw[List.foldl_cons,List.foldl_cons,e,jpi ps _ fun q hq=>h q (zaw _ hq)]
def jJ6(g:Option D)(h1:q.1.length<=40)(h2:q.2.natAbs<10 ^ 31) :
  gSeq (gSet 5 (fL kStr (jaa (fL kAbs (jaa (vR 4) fNil)) fNil)))
   (gSeq (gIf (DL.tAnd (DL.t2 gNe (vR 3) (cS (Str.ofString ""))) (DL.t2 gEq (fL kAbs (jaa (vR 4) fNil)) (cI 1))) (gSet 5 (vR 3)) (gIf (DL.t2 gNe (vR 3) (cS (Str.ofString ""))) (gSet 5 (f2 gCat (f2 gCat (vR 5) (cS (Str.ofString "*"))) (vR 3))) gNx)) G) [A,B,oN ps,some (sT q.1),oI q.2,g]=G [A,B,oN ps,some (sT q.1),oI q.2,some (sT (jge q))]:=by
 have dl:=je9 h2;rw[jao (by simp only[stpA,jou,juo h2];rfl)];have tn:∀ z,DL.t2 gNe (vR 3) (cS (Str.ofString "")) [A,B,oN ps,some (sT q.1),oI q.2,z]=oK _:=fun z=>by
  simp only[stpA,jpu,jRs];rfl
 have t1:DL.t2 gEq (fL kAbs (jaa (vR 4) fNil)) (cI 1) [A,B,oN ps,some (sT q.1),oI q.2,some (sT (dg q.2.natAbs))]=oK (((q.2.natAbs):Int) == 1):=by
  simp only[stpA,jou];rfl
 unfold jge jik
 by_cases e0:q.1=[]
 .rw[if_pos e0];exact jao (by
   rw[w_if (by rw[jxe,tn,decide_eq_true e0];rfl),if_neg nofun,jg6 (by rw[tn,decide_eq_true e0];rfl)])
 .rw[if_neg e0]
  by_cases e1:q.2.natAbs=1
  .simp_all
  .rw[if_neg e1];exact jao (by
    rw[w_if (by rw[jAz (tn _) t1,beq_eq_false_iff_ne.mpr (by lia),Bool.and_false]),if_neg nofun,w_if (b:=true) (by grind),if_pos rfl];simp only[stpA,jNs,(jex (a:=dg q.2.natAbs) (b:=[42]) (by simp;lia)),(jex (a:=dg q.2.natAbs++[42]) (b:=q.1) (by simp;lia))];rw[List.append_assoc];rfl)
def jAs(g:Option D)(h1:q.1.length<=40)(h2:q.2.natAbs<10 ^ 31)(hl:ps.length<=1000)(hp:∀ p∈ps,p≠[]) :
  ∃ ps' g',ps'.flatten=jv3 ps.flatten q/\(∀ p∈ps',p≠[])/\ps'.length<=ps.length+1 /\
   jg8 [A,B,oN ps,some (sT q.1),oI q.2,g]=nX [A,B,oN ps',some (sT q.1),oI q.2,g']:=by
 have bl:=jwi h1 h2;have tz:∀ z,DL.t2 gNe (vR 4) (cI 0) [A,B,oN ps,some (sT q.1),oI q.2,z]=oK (!(q.2 == 0)):=fun z=>by
  rfl
 have te:∀ z,DL.t2 gEq (vR 2) (fL jar fNil) [A,B,oN ps,some (sT q.1),oI q.2,z]=oK _:=fun z=>by
  simp only[stpA,jtd];rfl
 unfold jg8;rw[jJ6 g h1 h2,w_if (jAz (tz _) (te _))]
 by_cases h3:q.2=0
 .refine⟨ps,some (sT (jge q)),(if_pos h3).symm,hp,Nat.le_succ _,?_⟩;rw[show (!(q.2 == 0)&&decide _)=false from by rw[h3];rfl,if_neg nofun,w_if (tz _),show (!(q.2 == 0))=false from by rw[h3];rfl,if_neg nofun];rfl
 .have nz:(!(q.2 == 0))=true:=by rw[beq_eq_false_iff_ne.mpr h3];rfl
  have sl:jv3 _ q=addP ps.flatten _ _:=if_neg h3;rw[nz,Bool.true_and,sl];have be:∀ p,p≠[]->∀ x∈ps++[p],x≠[]:=fun p hpp x hx=>by
   grind
  by_cases e0:ps=[]
  .subst e0;refine⟨[addP [] (decide (q.2<0)) (jge q)],some (sT (jge q)),by simp,be _ ?_,zac _,?_⟩
   .unfold addP;rw[if_pos rfl];split
    .simp
    .exact (jBf)
   .have ea:addP [] (decide (q.2<0)) (jge q)=(if decide (q.2<0)=true then [45] else [])++jge q:=by
     unfold addP;rw[if_pos rfl];split<;>rfl
    rw[joq (d:=sT (addP [] _ _)) 2 (by
     rw[ea];simp only[stpA,jlq,jFw,(jex (a:=if decide (q.2<0)=true then [45] else []) (b:=jge q) (by grind))];rfl) rfl (by decide)]
    rfl
  .refine⟨ps++[[32,if decide (q.2<0)=true then 45 else 43,32]++jge q],some (sT (jge q)),?_,be _ (by simp),by simp,?_⟩
   .have fn:ps.flatten≠[]:=by
     cases ps with
     | nil=>grind
     | cons p ps' =>
      have:=hp p zaa;intro z;exact this (List.append_eq_nil_iff.mp z).1
    unfold addP
    grind
   .rw[decide_eq_false e0,if_neg nofun,w_if (by rw[tz,nz]),if_pos rfl];have ix:gIx (.lst [sT [32,43,32],sT [32,45,32]]) (.int (if decide (q.2<0) then 1 else 0))=some (sT [32,if decide (q.2<0)=true then 45 else 43,32]):=by
     cases decide (q.2<0)<;>rfl
    rw[joq 2 (by
     simp only[stpA,jFr,jFq,ix,(jex (a:=[32,if decide (q.2<0)=true then 45 else 43,32]) (b:=jge q) (by simp;lia))];rfl) rfl (by rw[show (nmD ps).length=ps.length by simp[nmD]];lia)]
    unfold oN nmD
    grind
theorem jps(A B:Option D):∀ (qs:List (List Nat×Int)) (ps:LL) (e f g:Option D),(∀ q∈qs,q.1.length<=40/\q.2.natAbs<10 ^ 31)->(∀ p∈ps,p≠[])->ps.length+qs.length<=100 ->
  ∃ ps' e' f' g',ps'.flatten=qs.foldl jv3 ps.flatten/\(∀ p∈ps',p≠[])/\ps'.length<=100/\forD jg8 (jbe 3 4) (qs.map jze) [A,B,oN ps,e,f,g]=nX [A,B,oN ps',e',f',g']
 | [],ps,e,f,g,_,hp,hl=>⟨ps,e,f,g,rfl,hp,by lia,rfl⟩
 | q::qs,ps,e,f,g,hq,hp,hl=>by
  obtain⟨q1,q2⟩:=hq q zaa;rw[List.length_cons] at hl;obtain⟨p,g1,p2,p1,p3,st⟩:=jAs g q1 q2 (by lia) hp;obtain⟨ps',e',f',g',r1,r2,r3,r4⟩:=jps A B qs p _ _ g1 (fun x hx=>hq x (zaw _ hx)) p1 (by lia);refine⟨ps',e',f',g',?_,r2,r3,?_⟩
  .rw[r1,List.foldl_cons,p2]
  .rw[List.map_cons,jir rfl st];exact r4
def jhm{g:Str->D->Option D}{fo fe:DSt->M D}{Y:DSt}{z:Str}{y d:D}(h1:fo Y=some (.ok (.str z)))(h2:fe Y=some (.ok y))(h3:g z y=some d):fSm g fo fe Y=oK d:=by
 unfold fSm;rw[h1,M.b_ok];dsimp only;rw[h2,M.b_ok,h3];rfl
def jRo(b:Bool):gMulT (sT [48]) (.int (if b then 1 else 0))=some (sT (if b=true then [48] else [])):=by
 cases b<;>rfl
def jRm:Str.ofString "0"=St [48]:=by decide +kernel
def jur(h1:1<=aa.length)(hn:aa.length<=10)(hN:∀ a∈aa,a.length<=40)(hN2:∀ a∈aa,a≠[])(h:FOk aa.length f):jc1 [.lst (nmD aa),fm f]=oK (sT (jbw aa f)):=by
 have zz:(aa++[[]]).zip (f.1++[f.2])=aa.zip f.1++[([],f.2)]:=by rw[List.zip_append h.len.symm];rfl
 obtain⟨ps,e',f',g',r1,r2,r3,r4⟩:=jps _ _ (aa.zip f.1++[([],f.2)]) [] _ _ _ (fun q hq=>by
  rcases zdy.mp hq with hq|hq
  .grind [jq0]
  .rw[zdx.mp hq];exact⟨by simp,h.r⟩) (fun p hp=>nomatch hp) (by simp;lia)
 let y:=if f.2=0 then (aa.zip f.1).foldl jdf [] else addP ((aa.zip f.1).foldl jdf []) (decide (f.2<0)) (dg f.2.natAbs)
 have hy:ps.flatten=y:=by
  rw[r1,List.foldl_append,List.foldl_cons,List.foldl_nil,List.flatten_nil,jpi _ _ fun p hp=>hN2 _ (zca hp).1];rfl
 have hs:jbw _ f=if y=[] then [48] else y:=rfl
 have sl:=jg4 hn hN h;have yl:y.length<=5000:=by
  rw[hs] at sl
  by_cases q:y=[]
  .rw[q];simp
  .grind
 have pe:(ps=[])↔(y=[]):=by
  rw[<- hy];constructor
  .grind
  .intro z
   cases ps with
   | nil=>rfl
   | cons p ps =>
    exact absurd (List.append_eq_nil_iff.mp z).1 (r2 p zaa)
 have c1:gCat (.lst (nmD aa)) (.lst [sT []])=oN (aa++[[]]):=by
  rw[jwu (by rw[show (nmD _).length=aa.length by simp[nmD],sizeLine_eq];simp;lia)];unfold oN nmD;rw[List.map_append];rfl
 have c2:gCatE (.tup (f.1.map .int)) (.tup [.int f.2])=some (.tup ((f.1++[f.2]).map .int)):=by
  rw[List.map_append];exact if_pos (by rw[zav,sizeLine_eq,h.len];simp;lia)
 have t1:ja1 [.int f.2]=some _:=rfl;have nz:zipD (nmD (aa++[[]])) ((f.1++[f.2]).map .int)=(aa.zip f.1++[([],f.2)]).map jze:=by rw[jF0,zz]
 unfold jc1;rw[jd5];unfold jle;rw[jao (by simp only[stpA];rfl),jao (by
  rw[jor (by
   simp only[jrf,jce,jxc,e_L,jrg,e_2,e_C,M.o_some,M.b_p,List.getElem?_cons_zero,List.getElem?_cons_succ,Option.join_some,(fm0' f),(fm1' f),lstD1,jpu,c1,t1,c2,jBd,nz];rfl)]
  exact r4)]
 have ct:=jex (a:=ps.flatten) (b:=if decide (ps=[])=true then [48] else []) (by grind);have fin:ps.flatten++(if decide (ps=[])=true then [48] else [])=jbw aa f:=by
  rw[hs,hy]
  by_cases q:y=[]
  .grind
  .rw[if_neg q,decide_eq_false (fun z=>q (pe.mp z)),if_neg nofun,List.append_nil]
 rw[fin] at ct;rw[ju0,e_2,(jhm (by rfl) rfl (jIr (by grind)))];simp only[stpA,jtd,jRm,jRo,ct];rfl
section
variable {fa fb:DSt->M D}
def jdl{g:D->D->Option D}(h1:fa Y=oK x)(h2:fb Y=oK y)(h3:g x y=some d):f2 g fa fb Y=oK d:=by
 unfold f2;rw[h1,M.b_ok,h2,M.b_ok,h3];rfl
def jho{k:List D->Option D}(h1:fa Y=oK x)(h2:k [x]=some d):fL k (jaa fa fNil) Y=oK d:=by
 rw[e_L,jce,h1,M.b_ok];show M.o _=_;rw[h2];rfl
def jpe{m:List D->M D}(h1:fa Y=oK x)(h2:m [x]=oK d):fCall m (jaa fa fNil) Y=oK d:=by
 simp_all
def jpf{m:List D->M D}(h1:fa Y=oK x)(h2:fb Y=oK y)(h3:m [x,y]=oK d):fCall m (jaa fa (jaa fb fNil)) Y=oK d:=by
 simp_all
def jFi(h1:fa Y=oK x)(h2:fb Y=oK y):fL ja1 (jaa fa (jaa fb fNil)) Y=oK (.tup [x,y]):=by
 rw[e_L,jce,h1,M.b_ok,jce,h2,M.b_ok];rfl
def jBa(h:(Y[i]?).join=some d):vR i Y=oK d:=by unfold vR;rw[h];rfl
def kC(h:s=St a):cS s Y=oK (sT a):=by rw[h];rfl
def jE5(h1:fa Y=oK (sT a))(h2:fb Y=oK (sT c))(h:a.length+c.length<=100000):f2 gCat fa fb Y=oK (sT (a++c)):=jdl h1 h2 (jex h)
def jz5(h:fa Y=oK d):(gRet fa Y).b outD=oK d:=by rw[jb1 h];rfl
def jka(xs:LL):(nmD xs).length=xs.length:=zav ..
def jmr{i:Nat}{ps:LL}(h:fa Y=oK (sT a))(hd:Y[i]? = some (oN ps))(hl:ps.length<=1000):gApp i fa Y=nX (Y.set i (oN (ps++[a]))):=by
 have:=joq i h hd (by rw[jka];lia);rw[this,show nmD ps++[sT a]=nmD _ from jpy ps [a]]
def Cs(Y:DSt):List ((DSt->M D)×List Nat)->Prop
 | []=>True
 | (f,y)::ps=>f Y=oK (sT y)/\Cs Y ps
def flt:List ((DSt->M D)×List Nat)->List Nat
 | []=>[]
 | [(_,y)]=>y
 | (_,y)::p::ps=>y++flt (p::ps)
def jQ6(f:DSt->M D)(y:List Nat)(ps:List ((DSt->M D)×List Nat)):flt ((f,y)::ps)=y++flt ps:=by
 cases ps with
 | nil=>exact (List.append_nil y).symm
 | cons p ps=>rfl
theorem cats:∀ (ps:List ((DSt->M D)×List Nat)) {fa:DSt->M D} {a:List Nat},fa Y=oK (sT a)->Cs Y ps->(a++flt ps).length<=100000->ps.foldl (fun f p=>f2 gCat f p.1) fa Y=oK (sT (a++flt ps))
 | [],_,a,h,_,_=>by simp_all [flt,List.append_nil]
 | (f,y)::ps,_,a,h,c,l=>by
  rw[jQ6,<- List.append_assoc] at l |-
  exact cats ps (jE5 h c.1 (by grind)) c.2 l
end
def gI(m:M D):Int:=match m with
 | some (.ok (.int i))=>i
 | _=>0
def jIj{m:M D}(h:m=oK (.int i)):m=oK (.int (gI m)):=by rw[h];rfl
abbrev scr(ns:List Int):D:=.lst (ns.map .int)
def v_at(ns:List Int)(k:Int)(h0:0<=k)(hk:k<=1000):∃ i,je3 [scr ns,.int k]=oK (.int i):=by
 unfold je3;rw[jd5];unfold jnq;obtain⟨k,rfl⟩:=Int.eq_ofNat_of_zero_le h0
 by_cases h:k<ns.length
 .simp[(by omega),DL.atI_get _,M.p]
 .have h2:=by omega
  have e:gMulT _ _=oI (19*(k)):=mT (a:=10) (b:=10) (by grind [Bt]) (by unfold Bt;lia);simp[h2,e,M.p]
def atF(ns:List Int)(k:Int):Int:=gI (je3 [scr ns,.int k])
def w_at(h0:0<=k)(hk:k<=1000):je3 [scr ns,.int k]=oK (.int (atF ns k)):=let ⟨_,h⟩:=v_at ns k h0 hk;jIj h
def jOj:gPow (.int 10) (.int 12)=oI 1000000000000:=by rfl
def p1023:gPow (.int 10) (.int 23)=oI 100000000000000000000000:=by rfl
def juw{k m:Nat}(h0:0<=n)(h1:n<(m:Int))(h2:m<=2 ^ k):Bt k n:=by
 obtain⟨j,rfl⟩:=Int.eq_ofNat_of_zero_le h0;exact zcx (Int.ofNat_lt.mp h1) h2
def jSo(n p:Int)(h0:0<=p)(hp:p<=1000):∃ r,jej [.int n,.int p]=oK (.int r)/\0<=r/\r<2147483648:=by
 unfold jej;rw[jd5];unfold jld
 by_cases h:1000000000000<=n
 .obtain⟨Y',e,i⟩:=jno (g:=ji5) (tg:=DL.gName 2) (fun _ Y=>∃ a b,Y=[oI a,oI p,b,none])
   (fun d ds Y ⟨a,b,hd⟩=>by
    subst hd;simp[ji5,jbg _ _,M.p])
   (jbu 0 (p % 61).toNat) [oI (n / 1000000000000-1),oI p,none,none] ⟨_,_,rfl⟩
  obtain⟨a,b,rfl⟩:=i;refine⟨a % 2147483648,?_,Int.emod_nonneg _ nofun,Int.emod_lt_of_pos _ (by decide)⟩;simp[jOj,h,jbg _ _,jbz _,e];rfl
 .have bp:Bt 10 p:=juw h0 (Int.lt_add_one_of_le hp) (by decide);have a1:gMulT _ _=oI (8*p):=mT (a:=4) (by unfold Bt;decide) bp;have b2:Bt 14 (8*p):=Bt.mul (by unfold Bt;decide) bp;have b3:Bt 33 _:=((Bt.add (juw (Int.emod_nonneg n (show (2147483629)≠0 by decide)) (Int.emod_lt_of_pos n (show (0)<2147483629 by decide)) (by decide)) (bp.mono (by decide))).add (show Bt 32 1 by unfold Bt;decide)).mono (by decide);have b4:Bt 31 _:=(((b2.mul bp).mono (by decide)).add (show Bt 30 48271 by unfold Bt;decide)).mono (by decide);generalize hx:(n % 2147483629+p+1)*(8*p*p+48271) % 2147483647=x;have bx:Bt 32 x:=juw (by rw[<- hx];exact Int.emod_nonneg _ nofun) (by rw[<- hx];exact Int.emod_lt_of_pos _ (by decide)) (by decide);generalize hy:x*x % 2147483587=y;have df:Bt 32 y:=juw (by rw[<- hy];exact Int.emod_nonneg _ nofun) (by rw[<- hy];exact Int.emod_lt_of_pos _ (by decide)) (by decide);refine⟨_,?_,Int.emod_nonneg _ (by decide),Int.lt_trans (Int.emod_lt_of_pos (y*(y+2)) (show (0)<2147483579 by decide)) (by decide)⟩;simp[jOj,h,a1,(mT b2 bp),(mT b3 b4),jbz _,hx,(mT bx bx),hy,(mT df (df.add (show Bt 32 2 by unfold Bt;decide)))];rfl
def mixF(n p:Int):Int:=gI (jej [.int n,.int p])
def jLj(h0:0<=p)(hp:p<=1000):jej [.int n,.int p]=oK (.int (mixF n p)):=let ⟨_,h,_⟩:=jSo n p h0 hp;jIj h
def drF(ns:List Int)(k:Int):Int:=mixF (atF ns (1+k % 62)) (100+k)
def jhw(h0:0<=k)(h1:k<=800):jbf [scr ns,.int k]=oK (.int (drF ns k)):=by
 unfold jbf;rw[jd5];unfold jja;rw[jb1 (by simp only[stp,(jbz (j:=62) (by decide)),(w_at (k:=1+k % 62) (by lia) (by lia)),(jLj (p:=100+k) (by lia) (by lia))];rfl)];rfl
def jA8(ns:List Int){most:Nat}(h0:0<=k)(h1:k<=800)(hm:7<=most)(hb:most<2 ^ 100):∃ v:Int,jbx [scr ns,.int k,.int (most:Int)]=oK (.int v)/\v.natAbs<most:=by
 have ed:=jhw (ns:=ns) h0 h1;generalize drF ns k=m at ed;have e2:=w_at (ns:=ns) (k:=1+k % 62) (by lia) (by lia);generalize atF ns _=c at e2;have e8:=jbz (i:=m) (j:=8) (by decide);have a2:gMulT _ _=oI (2*(most)):=mT (a:=2) (by grind [Bt]) (hb);have c1:=Int.emod_nonneg c (show (2*(most:Int)-1)≠0 by lia);have c2:=Int.emod_lt_of_pos c (show (0)<2*(most:Int)-1 by lia);unfold jbx;rw[jhn];unfold jjc;rw[jao (by simp only[stp,ed];rfl)];have t0:t2 gEq (f2 gMod (vR 3) (cI 8)) (cI 0) [some (scr ns),oI k,oI (most),oI m]=oK (m % 8 == 0):=by
  rfl
 cases hc:(m % 8 == 0) with
 | true =>
  refine⟨c % (2*(most)-1)-most+1,?_,by lia⟩;rw[hc] at t0;rw[w_rt (by
   rw[w_if t0,if_pos rfl];exact jb1 (by simp only[stp,(jbz (j:=62) (by decide)),e2,a2,(jbz (j:=2*(most)-1) (by lia))];rfl))]
  rfl
 | false =>
  refine⟨m / 8 % 13-6,?_,by lia⟩;rw[hc] at t0;rw[jmf t0,jb1 (by simp only[stp,(jbg (j:=8) (by decide) (by decide))];rfl)];rfl
def wdF(ns:List Int)(k:Int)(most:Nat):Int:=gI (jbx [scr ns,.int k,.int (most:Int)])
def jGr{most:Nat}(h0:0<=k)(h1:k<=800)(hm:7<=most)(hb:most<2 ^ 100):jbx [scr ns,.int k,.int (most:Int)]=oK (.int (wdF ns k most)):=let ⟨_,h,_⟩:=jA8 ns h0 h1 hm hb;jIj h
def jul(h0:0<=k)(h1:k<=800)(hm:7<=most)(hb:most<2 ^ 100):(wdF ns k most).natAbs<most:=by
 obtain⟨v,h,q⟩:=jA8 ns h0 h1 hm hb;unfold wdF;rw[h];exact q
noncomputable def wrds:LL:=[[100,111],[103,105,118,101],[104,111,117,115,101],[111,102],[98,97,115,101],[115,116,97,116,101],[115,104,97,114,101,115],[107,110,111,119,115],[105,116,101,109],[114,117,108,101],[100,101,101,100]]
def nmE(k a b:Nat):List Nat:=List.replicate (1+a) (97+k)++[120+b]
def nmO(k p:Nat):List Nat:=List.replicate p 109++[97+k]++List.replicate (9-p) 109
noncomputable def nmS(k:Nat)(m:Int):List Nat:=if m / 512 % 8=5 then wrds.getD ((m / 4096+(k:Int)) % 11).toNat [] else if m % 2=0 then nmE k (m / 2 % 9).toNat (m / 18 % 3).toNat else nmO k (m / 2 % 10).toNat
def okE(k a b:Nat):Option D:=(gIx (.str "abcdefg") (.int k)).bind fun c=>(gMulT c (.int (1+(a:Int)))).bind fun x=>(gIx (.str "xyz") (.int b)).bind fun y=>gCat x y
def okO(k p:Nat):Option D:=(gMulT (.str "m") (.int p)).bind fun x=>(gIx (.str "abcdefg") (.int k)).bind fun c=>(gCat x c).bind fun y=>(gMulT (.str "m") (.int (9-(p:Int)))).bind fun z=>gCat y z
def isS(d:Option D)(a:List Nat):Bool:=match d with
 | some (.str s)=>s == St a
 | _=>false
def jm0(h:isS d a=true):d=some (sT a):=by
 unfold isS at h
 grind
def nmB(a:List Nat):Bool:=!a.isEmpty&&decide (a.length<=10)&&a.all isL
def jm4(h:nmB a=true):Nm a:=by
 unfold nmB at h;simp only[Bool.and_eq_true,decide_eq_true_eq,List.all_eq_true,Bool.not_eq_true',List.isEmpty_eq_false_iff] at h;exact⟨h.1.1,h.2,h.1.2⟩
def jy1:∀ a∈List.range 9,∀ b∈List.range 3,(∀ k∈List.range 7,isS (okE k a b) (nmE k a b)=true/\nmB (nmE k a b)=true)/\((List.range 7).map fun k=>nmE k a b).Nodup:=by decide +kernel
def jy2:∀ p∈List.range 10,(∀ k∈List.range 7,isS (okO k p) (nmO k p)=true/\nmB (nmO k p)=true)/\((List.range 7).map fun k=>nmO k p).Nodup:=by decide +kernel
def jP9:∀ s∈List.range 11,(∀ k∈List.range 7,nmB (wrds.getD ((s+k) % 11) [])=true)/\((List.range 7).map fun k=>wrds.getD ((s+k) % 11) []).Nodup:=by decide +kernel
def jdi{i:Int}{n:Nat}(h0:0<=i)(h1:i<n):i.toNat∈List.range n:=zcc.mpr (by lia)
def md{j:Nat}(h:0<j):0<=i % (j:Int)/\i % (j:Int)<j:=⟨Int.emod_nonneg _ (by lia),Int.emod_lt_of_pos _ (by lia)⟩
def jQa(i:Int)(k:Nat):((i+(k:Int)) % 11).toNat=((i % 11).toNat+k) % 11:=by lia
def jyw(m:Int):(∀ k,k<7->Nm (nmS k m))/\((List.range 7).map fun k=>nmS k m).Nodup:=by
 by_cases h5:m / 512 % 8=5
 .have a:=md (i:=m / 4096) (j:=11) (by decide);obtain⟨h1,h2⟩:=jP9 _ (jdi a.1 a.2);have e:∀ k,nmS k m=wrds.getD _ []:=fun k=>(if_pos h5).trans (by rw[jQa])
  exact⟨fun k hk=>by rw[e];exact jm4 (h1 k (zcc.mpr hk)),by simp only[e];exact h2⟩
 .by_cases h:m % 2=0
  .have a:=md (i:=m / 2) (j:=9) (by decide);have b:=md (i:=m / 18) (j:=3) (by decide);obtain⟨h1,h2⟩:=jy1 _ (jdi a.1 a.2) _ (jdi b.1 b.2);have e:∀ k,nmS k m=nmE k _ _:=fun k=>(if_neg h5).trans (if_pos h)
   exact⟨fun k hk=>by rw[e];exact jm4 (h1 k (zcc.mpr hk)).2,by simp only[e];exact h2⟩
  .have a:=md (i:=m / 2) (j:=10) (by decide);obtain⟨h1,h2⟩:=jy2 _ (jdi a.1 a.2);have e:∀ k,nmS k m=nmO k _:=fun k=>(if_neg h5).trans (if_neg h)
   exact⟨fun k hk=>by rw[e];exact jm4 (h1 k (zcc.mpr hk)).2,by simp only[e];exact h2⟩
def jt5(hn:n<=7)(m:Int):((List.range n).map fun k=>nmS k m).Nodup:=by
 have h:=(jyw m).2;obtain⟨d,hd⟩:=Nat.exists_eq_add_of_le hn;rw[hd,List.range_add,List.map_append] at h
 grind
noncomputable def wrdD:D:=.lst [.str "do",.str "give",.str "house",.str "of",.str "base",.str "state",.str "shares",.str "knows",.str "item",.str "rule",.str "deed"]
def jQb:∀ s∈List.range 11,isS (gIx wrdD (.int (s:Nat))) (wrds.getD s [])=true:=by decide +kernel
def jn4(hk:k<7)(m:Int):jek [.int (k:Nat),.int m]=oK (sT (nmS k m)):=by
 have e2:=jbz (i:=m) (j:=2) (by decide);have d2:=jbg (i:=m) (j:=2) (by decide) (by decide);unfold jek;rw[jd5];unfold jh4;rw[jao (Y':=[oI _,oI m,some wrdD,none]) rfl];have t5:t2 gEq (f2 gMod (f2 gFdiv (vR 1) (cI 512)) (cI 8)) (cI 5) [oI (k),oI m,some wrdD,none]=oK (decide (m / 512 % 8=5)):=by
  simp only[stp,(jbg (j:=512) (by decide) (by decide))];rfl
 by_cases h5:m / 512 % 8=5
 .have a:=md (i:=m / 4096+(k)) (j:=11) (by decide);have ea:(((m / 4096+(k)) % 11).toNat)=(m / 4096+(k)) % 11:=Int.toNat_of_nonneg a.1;have ix:gIx _ _=some (sT (wrds.getD ((m / 4096+(k)) % 11).toNat [])):=jm0 (jQb _ (jdi a.1 a.2));rw[ea] at ix;rw[decide_eq_true h5] at t5;rw[w_rt (d:=sT (nmS k m)) (by
   rw[w_if t5,if_pos rfl];simp only[stp,(jbg (j:=4096) (by decide) (by decide)),(jbz (j:=11) (by decide)),ix];unfold nmS;rw[if_pos h5];rfl)]
  rfl
 rw[decide_eq_false h5] at t5;have t0:t2 gEq (f2 gMod (vR 1) (cI 2)) (cI 0) [oI (k),oI m,some wrdD,none]=oK (decide (m % 2=0)):=by
  rfl
 rw[jmf t5]
 by_cases h:m % 2=0
 .have a:=md (i:=m / 2) (j:=9) (by decide);have b:=md (i:=m / 18) (j:=3) (by decide);have ea:(((m / 2 % 9).toNat))=m / 2 % 9:=Int.toNat_of_nonneg a.1;have eb:(((m / 18 % 3).toNat))=m / 18 % 3:=Int.toNat_of_nonneg b.1;have en:nmS k m=nmE k _ _:=(if_neg h5).trans (if_pos h);have hs:okE k (m / 2 % 9).toNat (m / 18 % 3).toNat=some (sT (nmE k (m / 2 % 9).toNat (m / 18 % 3).toNat)):=jm0 ((jy1 _ (jdi a.1 a.2) _ (jdi b.1 b.2)).1 k (zcc.mpr hk)).1;rw[<- en] at hs;unfold okE at hs;rw[ea,eb] at hs;obtain⟨x1,f1,hs⟩:=Option.bind_eq_some_iff.mp hs;obtain⟨x2,f2',hs⟩:=Option.bind_eq_some_iff.mp hs;obtain⟨x3,f3,hs⟩:=Option.bind_eq_some_iff.mp hs;rw[decide_eq_true h] at t0;rw[w_rt (by
   rw[w_if t0,if_pos rfl];exact jb1 (by simp only[stp,d2,(jbg (j:=18) (by decide) (by decide)),(jbz (j:=9) (by decide)),(jbz (j:=3) (by decide)),f1,f2',f3,hs];rfl))]
  rfl
 .have a:=md (i:=m / 2) (j:=10) (by decide);have ea:(((m / 2 % 10).toNat))=m / 2 % 10:=Int.toNat_of_nonneg a.1;have en:nmS k m=nmO k _:=(if_neg h5).trans (if_neg h);have hs:okO k (m / 2 % 10).toNat=some (sT (nmO k (m / 2 % 10).toNat)):=jm0 ((jy2 _ (jdi a.1 a.2)).1 k (zcc.mpr hk)).1;rw[<- en] at hs;unfold okO at hs;rw[ea] at hs;obtain⟨x1,f1,hs⟩:=Option.bind_eq_some_iff.mp hs;obtain⟨x2,f2',hs⟩:=Option.bind_eq_some_iff.mp hs;obtain⟨x3,f3,hs⟩:=Option.bind_eq_some_iff.mp hs;obtain⟨x4,f4,hs⟩:=Option.bind_eq_some_iff.mp hs;rw[decide_eq_false h] at t0;rw[jmf t0,jao (by simp only[stp,d2];rfl),jb1 (by simp only[stp,f1,f2',f3,f4,hs];rfl)];rfl
structure Rul where
 nm:List Nat
 cs:List Int
 rest:Int
structure Ded where
 nm:List Nat
 lo:Int
 hi:Int
 chs:List (Int×Int)
structure Bk where
 its:List (List Nat×Int)
 rls:List Rul
 dds:List Ded
def itD(p:List Nat×Int):D:=.tup [sT p.1,.int p.2]
def rulD(r:Rul):D:=.tup [sT r.nm,.tup (r.cs.map .int),.int r.rest]
def chD(c:Int×Int):D:=.tup [.int c.1,.int c.2]
def dedD(d:Ded):D:=.tup [sT d.nm,.int d.lo,.int d.hi,.tup (d.chs.map chD)]
abbrev itsD(b:Bk):D:=.lst (b.its.map itD)
abbrev rlsD(b:Bk):D:=.lst (b.rls.map rulD)
abbrev ddsD(b:Bk):D:=.lst (b.dds.map dedD)
abbrev bkD(b:Bk):D:=.tup [itsD b,rlsD b,ddsD b]
def jz0(n:Nat):jbu 0 n=(List.range n).map fun o:Nat=>D.int (o:Int):=by
 have:=jvo n (fun d=>d)
 simp_all
def itsF(ns:List Int)(n most:Nat):List (List Nat×Int):=(List.range n).map fun k=>(nmS k (drF ns 1),wdF ns (10+(k:Int)) most)
def jCp(ns:List Int)(hn:n<=4)(hm:7<=most)(hb:most<2 ^ 100):jie [scr ns,.int (n:Nat),.int (most:Nat)]=oK (.lst ((itsF ns n most).map itD)):=by
 have cf:=jba (c:=[some (scr ns),oI (most),oI (drF ns 1)]) (fe:=jgh) (K:=fun o:Nat=>D.int (o)) (F:=fun k=>itD (nmS k _,wdF ns _ _)) (List.range n) none (fun k hk=>by
  have hk:=zcc.mp hk;unfold jgh;simp only[stp,(jn4 (k:=k) (by lia) _),(jGr (k:=10+(k)) (by lia) (by lia) hm hb)];rfl)
 rw[<- jz0] at cf;unfold jie;rw[jhn];unfold jh3;have ln:((List.range n).map fun k=>itD (nmS k (drF ns 1),wdF ns (10+(k)) most)).length<=1000:=by rw[zav,List.length_range];lia
 rw[jao (by simp only[stp,(jhw (k:=1) (by decide) (by decide))];rfl)];have em:(itsF ns n most).map itD=(List.range n).map fun k=>itD (nmS k (drF ns 1),wdF ns (10+(k)) most):=by unfold itsF;rw[List.map_map];rfl
 rw[em,jb1 (by simp only[stp,cf,jbk ln];rfl)];rfl
def dtF(cs st:List Int):Int:=((cs.zip st).map fun p=>p.1*p.2).sum
def spF(r:Rul)(st:List Int):Int:=dtF r.cs st+r.rest
theorem jGp{α:Type}{f:α->Int}:∀ (zs:List α),(∀ z∈zs,(f z).natAbs<=B)->(zs.map f).sum.natAbs<=zs.length*B
 | [],_=>Nat.zero_le _
 | z::zs,h=>by
  have a:=h z zaa;have i:=jGp zs fun y hy=>h y (zaw _ hy)
  rw[List.map_cons,List.sum_cons,List.length_cons,Nat.succ_mul]
  lia
def jPm{α:Type}{f:α->Int}:∀ (zs:List α),(∀ z∈zs,Bt k (f z))->zs.length<=8->Bt (k+4) (zs.map f).sum:=by
 have g:∀ (zs:List α),(∀ z∈zs,Bt k (f z))->(zs.map f).sum.natAbs<=zs.length*2 ^ k:=by
  intro zs
  induction zs with
  | nil=>grind
  | cons z zs ih =>
   intro h;have a:(f z).natAbs<2 ^ k:=h z zaa;have i:=ih fun y hy=>h y (zaw _ hy)
   rw[List.map_cons,List.sum_cons,List.length_cons,Nat.succ_mul]
   lia
 intro zs h hl;have a:=g zs h;have b:=Nat.mul_le_mul_right (2 ^ k) hl;have c:2 ^ (k+4)=16*2 ^ k:=by rw[Nat.pow_add,Nat.mul_comm]
 have d:=Nat.two_pow_pos k;unfold Bt
 lia
def rl0(r:Rul):gIx (rulD r) (.int 0)=some (sT r.nm):=by unfold rulD;rw[ix_t,at0]
def rl1(r:Rul):gIx (rulD r) (.int 1)=some (.tup (r.cs.map .int)):=by unfold rulD;rw[ix_t,at1]
def rl2(r:Rul):gIx (rulD r) (.int 2)=oI r.rest:=by unfold rulD;rw[ix_t,at2]
section
variable {r:Rul}
def jQ5{fe:DSt->M D}(hf:∀ a b,fe [some a,some b]=M.o (gMulT a b))(hc:∀ c∈r.cs,Bt 100 c)(hs:∀ s∈st,Bt 100 s):jcn (jbe 0 1) tYes fe ((r.cs.zip st).map fun p=>.tup [.int p.1,.int p.2]) [none,none]=some ((r.cs.zip st).map fun p=>.int (p.1*p.2)) :=
 je8 (K:=fun p=>(D.int p.1,D.int p.2)) (r.cs.zip st) _ _ fun p hp=>by
  have:=mT (hc _ (zca hp).1) (hs _ (zca hp).2);rw[hf,this];rfl
def jEx(hc:∀ c∈r.cs,Bt 100 c)(hs:∀ s∈st,Bt 100 s)(hl:r.cs.length<=4):jjl [.tup [.tup (r.cs.map .int),.int r.rest],.tup (st.map .int)]=oK (.int (spF r st)):=by
 have ln:((r.cs.zip st).map fun p=>D.int (p.1*p.2)).length<=1000:=by rw[zav,List.length_zip];lia
 unfold jjl;rw[jd5];unfold jjf;rw[jb1 (by simp only[stp,(jQ5 (fe:=jk4) (fun a b=>rfl) hc hs),jbk ln,jK9];rfl)];rfl
def jEh(hk:b.rls[k]? = some r)(hc:∀ c∈r.cs,Bt 100 c)(hs:∀ s∈st,Bt 100 s)(hl:r.cs.length<=4):jn0 [bkD b,.int (k:Nat),.tup (st.map .int)]=oK (.int (spF r st)):=by
 have ea:atI _ _=some (rulD r):=atI_get (by rw[zba,hk];rfl);unfold jn0;rw[jhn];unfold jrk;rw[jb1 (d:=.int (spF r st)) (by simp only[stp,ea,rl1,rl2,(jEx hc hs hl)])];rfl
end
structure RulOk(its:List (List Nat×Int))(m:Int)(k i:Nat)(r:Rul):Prop where
 nm:r.nm=nmS i m
 len:r.cs.length=its.length
 bt:∀ c∈r.cs,Bt 100 c
 rb:Bt k r.rest
 kp:0<=spF r (its.map (·.2))
 cn:∀ c∈r.cs,c.natAbs<10 ^ 23
 rn:r.rest.natAbs<10 ^ 25
def jMs(cs:List Int)(its:List (List Nat×Int)):dtF cs (its.map (·.2))=((cs.zip its).map fun z=>z.1*z.2.2).sum:=by
 unfold dtF;rw[List.zip_map_right,List.map_map];rfl
theorem jpr(s0 s1 s2 s3 s4 s5 s6:Option D):∀ (zs:List (Int×List Nat×Int)) (r:Int) (x y:Option D),(∀ z∈zs,Bt 100 z.1/\Bt 100 z.2.2) ->
  ∃ x' y',forD jf9 (jbe 8 9) (zs.map fun z=>.tup [.int z.1,itD z.2]) [s0,s1,s2,s3,s4,s5,s6,oI r,x,y]=nX [s0,s1,s2,s3,s4,s5,s6,oI (r-(zs.map fun z=>z.1*z.2.2).sum),x',y']
 | [],r,x,y,_=>⟨x,y,by rw[List.map_nil,List.map_nil,List.sum_nil,Int.sub_zero];rfl⟩
 | z::zs,r,x,y,h=>by
  obtain⟨h1,h2⟩:=h z zaa;obtain⟨x',y',ih⟩:=jpr s0 s1 s2 s3 s4 s5 s6 zs _ _ _ fun q hq=>h q (zaw _ hq)
  refine⟨x',y',?_⟩;rw[List.map_cons,jir rfl (by
   unfold jf9 itD;simp only[stp,(mT h1 h2)];rfl),ih,List.map_cons,List.sum_cons,show r-z.1*z.2.2-(zs.map _).sum=r-(z.1*z.2.2+(zs.map fun z=>z.1*z.2.2).sum) by lia]
noncomputable abbrev r10(ns:List Int)(its:List (List Nat×Int))(n most:Nat)(rls:List Rul)(k a b c d:Option D):DSt:=[some (scr ns),oL (its.map itD),oI (n:Nat),oI (most:Nat),oL (rls.map rulD),k,a,b,c,d]
theorem range_len(n:Nat):(jbu 0 n).length=n:=by simp_all
def jl3(h:j<(jbu 0 n).length):(jbu 0 n)[j]=.int (j:Nat):=by
 simp[jbu]
def jD3(ns:List Int)(hi:its.length<=4)(hb:∀ p∈its,Bt 100 p.2)(hbn:∀ p∈its,p.2.natAbs<mi)(b9:mi*most<=7*10 ^ 23)(hmo:most<=10 ^ 23)(hn:n<=5)(hm:7<=most)(hx:most<2 ^ 100):∃ rls:List Rul,jif [scr ns,.lst (its.map itD),.int (n:Nat),.int (most:Nat)]=oK (.lst (rls.map rulD))/\rls.length=n/\∀ i r,rls[i]? = some r->RulOk its (drF ns 2) 206 i r:=by
 obtain⟨Y',e,rls,k',a,b,c,d,rfl,hl,hr⟩:=jnp (g:=jga) (tg:=DL.gName 5) (jbu 0 n) (fun j Y=>∃ (rls:List Rul) (k a b c d:Option D),Y=r10 ns its n most rls k a b c d/\rls.length=j/\∀ i r,rls[i]? = some r->RulOk its (drF ns 2) 206 i r)
  (fun j hj Y ⟨rls,k,a,b,c,d,hδ,hl,hr⟩=>by
   subst hδ;rw[range_len] at hj;refine⟨_,by rw[jl3];rfl,?_⟩
   let cs:=(List.range its.length).map fun i:Nat=>wdF ns (20+5*(j:Int)+(i:Int)) most
   have c9:∀ x∈cs,Bt 100 x:=fun x hx'=>by
    obtain⟨i,hi',rfl⟩:=zcv.mp hx';have:=zcc.mp hi';exact Nat.lt_trans (jul (by lia) (by lia) hm hx) hx
   have da:∀ x∈cs,x.natAbs<most:=fun x hx'=>by
    obtain⟨i,hi',rfl⟩:=zcv.mp hx';have:=zcc.mp hi';exact jul (by lia) (by lia) hm hx
   have a5:gMulT (.int 5) _=oI (5*(j:Nat)):=mT (a:=10) (b:=10) (by unfold Bt;decide) (by unfold Bt;lia);have cf:=jba (c:=[some (scr ns),oI (most:Nat),oI (j:Nat)]) (fe:=jgi) (K:=fun o:Nat=>D.int (o:Int)) (F:=fun i=>.int (wdF ns (20+5*(j:Int)+(i:Int)) most)) (List.range its.length) none (fun i hi'=>by
    have:=zcc.mp hi';unfold jgi;simp only[stp,a5,(jGr (ns:=ns) (k:=20+5*(j:Int)+(i:Int)) (by lia) (by lia) hm hx)])
   rw[<- jz0,show ((List.range its.length).map fun i:Nat=>D.int _)=cs.map .int from (List.map_map ..).symm] at cf;have lc:cs.length=its.length:=by rw[zav,List.length_range]
   have ln:(cs.map D.int).length<=1000:=by rw[zav];lia
   have x1:=md (i:=drF ns (50+(j:Int))) (j:=30) (by decide);have x2:=md (i:=drF ns (60+(j:Int))) (j:=3) (by decide);have b1:Bt 5 (drF ns _ % 30):=juw (m:=30) x1.1 x1.2 (by decide);have b2:Bt 2 (drF ns _ % 3):=juw (m:=3) x2.1 x2.2 (by decide);have mm:=mT b1 b2;have b3:=b1.mul b2;have q0:=Int.mul_nonneg x1.1 x2.1;have q1:(drF ns _ % (30:Nat)*(drF ns _ % (3:Nat))).natAbs<2 ^ 7:=b3;generalize drF ns _ % 30*(drF ns _ % 3)=q at mm b3 q0 q1;have hz:∀ z∈cs.zip its,Bt 100 z.1/\Bt 100 z.2.2:=fun z hz=>⟨c9 _ (zca hz).1,hb _ (zca hz).2⟩
   obtain⟨x',y',lp⟩:=jpr _ _ _ _ _ _ _ _ q c d hz;have br:Bt 206 (q-((cs.zip its).map fun z=>z.1*z.2.2).sum):=by
    have:=Bt.add (b3.mono (by decide)) (jPm (k:=200) _ (fun z h=>(hz z h).1.mul (hz z h).2) (by rw[List.length_zip];lia)).neg;exact this.mono (by decide)
   have sl:((cs.zip its).map fun z:Int×List Nat×Int=>z.1*z.2.2).sum.natAbs<=(cs.zip its).length*(7*10 ^ 23):=jGp _ fun z hz'=>by
    rw[Int.natAbs_mul,Nat.mul_comm];exact zdz (Nat.mul_le_mul (Nat.le_of_lt (hbn _ (zca hz').2)) (Nat.le_of_lt (da _ (zca hz').1))) b9
   have sl':(cs.zip its).length*(7*10 ^ 23)<=4*(7*10 ^ 23):=Nat.mul_le_mul_right _ (by rw[List.length_zip];lia);have rn:(q-((cs.zip its).map fun z=>z.1*z.2.2).sum).natAbs<10 ^ 25:=by lia
   have kp:0<=dtF cs (its.map (·.2))+(q-((cs.zip its).map fun z=>z.1*z.2.2).sum):=by rw[jMs];lia
   let r:Rul:=⟨nmS j (drF ns 2),cs,q-((cs.zip its).map fun z=>z.1*z.2.2).sum⟩
   refine⟨r10 ns its n most _ (oI (j:Nat)) (some (.tup (cs.map .int))) (oI (q-((cs.zip its).map fun z=>z.1*z.2.2).sum)) x' y',.inl ?_,rls++[r],_,_,_,_,_,rfl,by rw[zcb,hl];rfl,fun i r' hr'=>?_⟩
   .unfold jga;rw[jao (by simp only[stp,zav,cf,jbk ln];rfl),
     jao (by simp only[stp,(jhw (k:=50+(j:Int)) (by lia) (by lia)),(jhw (ns:=ns) (k:=60+(j:Int)) (by lia) (by lia)),(jbz (j:=30) (by decide)),(jbz (j:=3) (by decide)),mm];rfl),
     jao (by rw[jor (by simp only[stp,jmg];rfl)];exact lp),
     joq 4 (by simp only[stp,(jhw (k:=2) (by decide) (by decide)),(jn4 (k:=j) (by lia) (drF ns 2))];rfl) rfl (by rw[zav];lia)]
    unfold r10;rw[List.map_append];rfl
   .by_cases hlt:i<rls.length
    .rw[List.getElem?_append_left hlt] at hr';exact hr i r' hr'
    .rw[List.getElem?_append_right (Nat.le_of_not_lt hlt)] at hr';obtain⟨h0,e0⟩:=zbb.mp hr';have:i-rls.length=0:=by have:i-rls.length<1:=h0;lia
     have cb:i=j:=by lia
     subst cb;simp only[this] at e0;subst e0;exact⟨rfl,lc,c9,br,kp,fun c hc=>zcx (da c hc) hmo,rn⟩) _ ⟨[],none,none,none,none,none,rfl,rfl,fun i r h=>by cases h⟩
 rw[range_len] at hl;refine⟨rls,?_,hl,hr⟩;unfold jif;rw[jMy];unfold jh5;rw[jao (jbm 4 rfl),
  jao (by exact e),jb1 rfl]
 rfl
structure DedOk(its:List (List Nat×Int))(m:Int)(i:Nat)(d:Ded):Prop where
 nm:d.nm=nmS i m
 len:d.chs.length=its.length
 lh:d.lo<=d.hi
 ln:d.lo.natAbs<10 ^ 23
 hn:d.hi.natAbs<10 ^ 24
 cn:∀ c∈d.chs,c.1.natAbs<10 ^ 23/\c.2.natAbs<10 ^ 23
def w23(h0:0<=k)(h1:k<=800):∃ v:Int,jbx [scr ns,.int k,.int 100000000000000000000000]=oK (.int v)/\Bt 100 v/\v.natAbs<10 ^ 23:=by
 obtain⟨v,e,h⟩:=jA8 ns (most:=100000000000000000000000) h0 h1 (by decide) (by decide);exact⟨v,e,Nat.lt_trans h (by decide),h⟩
def jLz{v:Int}(h:v.natAbs<10 ^ 23):(v*(if b=true then 1 else 0)).natAbs<10 ^ 23:=by
 cases b
 .rw[if_neg nofun,Int.mul_zero];decide
 .rw[if_pos rfl,Int.mul_one];exact h
def bt_b(b:Bool):Bt 1 (if b=true then 1 else 0:Int):=by grind [Bt]
noncomputable abbrev d11(ns:List Int)(its:List (List Nat×Int))(n:Nat)(dds:List Ded)(k a b c d e f:Option D)(g:Option D):DSt:=[some (scr ns),oL (its.map itD),oI (n:Nat),oL (dds.map dedD),k,a,b,c,d,e,f]
def jBq(ns:List Int)(hi:its.length<=4)(dds:List Ded)(hk:k<=6)(a c d e f g:Option D):∃ (chs:List (Int×Int)) (c' d' e':Option D),forD jev (DL.gName 7) (jbu 0 its.length) (d11 ns its n dds (oI (k:Nat)) a (oL []) c d e f g)=nX (d11 ns its n dds (oI (k:Nat)) a (oL (chs.map chD)) c' d' e' f g)/\chs.length=its.length/\∀ c∈chs,c.1.natAbs<10 ^ 23/\c.2.natAbs<10 ^ 23:=by
 have a5:gMulT _ _=oI (5*(k)):=mT (a:=10) (b:=10) (by unfold Bt;decide) (by unfold Bt;lia);obtain⟨Y',e0,chs,c',d',e',rfl,hl,hcn⟩:=jnp (g:=jev) (tg:=DL.gName 7) (jbu 0 its.length) (fun j Y=>∃ (chs:List _) (c' d' e':Option D),Y=d11 ns its n dds (oI (k)) a (oL (chs.map chD)) c' d' e' f g/\chs.length=j/\∀ c∈chs,c.1.natAbs<10 ^ 23/\c.2.natAbs<10 ^ 23)
  (fun j hj Y ⟨chs,c,d,e,hδ,hl,hcn⟩=>by
   subst hδ;rw[range_len] at hj;have dr:=jhw (ns:=ns) (k:=80+5*(k)+(j)) (by lia) (by lia);generalize drF ns _=m at dr;have m3:=jbz (i:=m) (j:=3) (by decide);generalize m % 3=s at m3;obtain⟨v1,w1,b1,n1⟩:=w23 (ns:=ns) (k:=120+5*(k)+(j)) (by lia) (by lia);obtain⟨v2,w2,b2,n2⟩:=w23 (ns:=ns) (k:=160+5*(k)+(j)) (by lia) (by lia);refine⟨_,by rw[jl3];rfl,d11 ns its n dds _ a (oL ((chs++[(v1*(if (!(s == 1))=true then 1 else 0),v2*(if (s == 2)=true then 1 else 0))]).map chD)) (oI (j)) (oI s) (oI (v1*(if (!(s == 1))=true then 1 else 0))) f g,.inl ?_,_,_,_,_,rfl,by rw[zcb,hl];rfl,fun c hc=>by
    rcases zdy.mp hc with hc|hc
    .exact hcn c hc
    .cases zdx.mp hc;exact⟨jLz n1,jLz n2⟩⟩
   unfold jev;rw[jao (by simp only[stp,a5,dr,m3];rfl),
    jao (by simp only[stp,a5,p1023,w1,(mT b1 (bt_b _))];rfl),
    joq 6 (by simp only[stp,a5,p1023,w2,(mT b2 (bt_b _))];rfl) rfl (by rw[zav];lia),List.map_append]
   rfl) _ ⟨[],c,d,e,rfl,rfl,fun _ h=>nomatch h⟩
 rw[range_len] at hl;exact⟨chs,c',d',e',e0,hl,hcn⟩
def jBy(ns:List Int)(hi:its.length<=4)(hn:n<=6):∃ dds:List Ded,jid [scr ns,.lst (its.map itD),.int (n:Nat)]=oK (.lst (dds.map dedD))/\dds.length=n/\∀ i d,dds[i]? = some d->DedOk its (drF ns 3) i d:=by
 obtain⟨Y',e0,dds,k',a,b,c,d,e,f,rfl,hl,hd⟩:=jnp (g:=jf8) (tg:=DL.gName 4) (jbu 0 n) (fun j Y=>∃ (dds:List Ded) (k a b c d e f:Option D),Y=d11 ns its n dds k a b c d e f none/\dds.length=j/\∀ i d,dds[i]? = some d->DedOk its (drF ns 3) i d)
  (fun j hj Y ⟨dds,k,a,b,c,d,e,f,hδ,hl,hd⟩=>by
   subst hδ;rw[range_len] at hj;refine⟨_,by rw[jl3];rfl,?_⟩;obtain⟨lo,w1,b1,n1⟩:=w23 (ns:=ns) (k:=70+(j)) (by lia) (by lia);obtain⟨chs,c',d',e',lp,lc,lcn⟩:=jBq ns hi dds (k:=j) (by lia) _ c d e f none;have dr:=jhw (ns:=ns) (k:=200+(j)) (by lia) (by lia);generalize drF ns _=m at dr
   let dd:Ded:=⟨nmS j (drF ns 3),lo,lo+m % 9,chs⟩
   refine⟨d11 ns its n _ (oI (j)) (oI lo) (oL (chs.map chD)) c' d' e' (oI (lo+m % 9)) _,.inl ?_,dds++[dd],_,_,_,_,_,_,_,rfl,by rw[zcb,hl];rfl,fun i r' hr'=>?_⟩
   .unfold jf8;rw[jao (by simp only[stp,p1023,w1];rfl),
     jao (jbm 6 rfl),
     jao (by rw[jor (by simp only[stp,zav];rfl)];exact lp),
     jao (by simp only[stp,dr];rfl),
     joq 3 (by simp only[stp,(jhw (k:=3) (by decide) (by decide)),(jn4 (k:=j) (by lia) _)];rfl) rfl (by rw[zav];lia)]
    unfold d11;rw[List.map_append];rfl
   .by_cases hlt:i<dds.length
    .rw[List.getElem?_append_left hlt] at hr';exact hd i r' hr'
    .rw[List.getElem?_append_right (Nat.le_of_not_lt hlt)] at hr';obtain⟨h0,e0⟩:=zbb.mp hr';have:i-dds.length=0:=by have:i-dds.length<1:=h0;lia
     have cb:i=j:=by lia
     subst cb;simp only[this] at e0;subst e0;exact⟨rfl,lc,Int.le_add_of_nonneg_right (md (by decide)).1,n1,(by show (lo+m % 9).natAbs<10 ^ 24;lia),lcn⟩) _ ⟨[],_,_,_,_,_,_,_,rfl,rfl,fun i r h=>by cases h⟩
 rw[range_len] at hl;refine⟨dds,?_,hl,hd⟩;unfold jid;rw[jhn];unfold jh2;rw[jao (jbm 3 rfl),
  jao (by exact e0),jb1 rfl]
 rfl
structure BkOk(k:Nat)(b:Bk):Prop where
 i1:1<=b.its.length
 i4:b.its.length<=4
 r1:1<=b.rls.length
 r5:b.rls.length<=5
 d1:1<=b.dds.length
 d6:b.dds.length<=6
 st:∀ p∈b.its,Bt 100 p.2
 sn:∀ p∈b.its,p.2.natAbs<10 ^ 23
 im:∃ m,∀ i p,b.its[i]? = some p->p.1=nmS i m
 rl:∃ m,∀ i r,b.rls[i]? = some r->RulOk b.its m k i r
 dd:∃ m,∀ i d,b.dds[i]? = some d->DedOk b.its m i d
def jw1(ns:List Int):∃ a b c:Nat,jgv [scr ns]=oK (.lst [.int (a:Nat),.int (b:Nat),.int (c:Nat)])/\(1<=a/\a<=4)/\(1<=b/\b<=5)/\(1<=c/\c<=6):=by
 have mx:=jLj (n:=atF ns 0) (p:=1) (by decide) (by decide);generalize mixF _ 1=m at mx;obtain⟨a,ha⟩:=Int.eq_ofNat_of_zero_le (md (j:=4) (by decide)).1;obtain⟨b,hb⟩:=Int.eq_ofNat_of_zero_le (md (j:=5) (by decide)).1;obtain⟨c,hc⟩:=Int.eq_ofNat_of_zero_le (md (j:=6) (by decide)).1;have ha':m % 4=(a):=ha;have hb':m / 4 % 5=(b):=hb;have hc':m / 20 % 6=(c):=hc;refine⟨1+a,1+b,1+c,?_,by lia,by lia,by lia⟩;unfold jgv;rw[jdw];unfold jgr;rw[jao (by simp only[stp,(w_at (k:=0) (by decide) (by decide)),mx];rfl),jb1 (by simp only[stp,(jbg (j:=4) (by decide) (by decide)),(jbg (j:=20) (by decide) (by decide))];rfl),ha',hb',hc',Int.natCast_add,Int.natCast_add,Int.natCast_add];rfl
def jNa(h:(itsF ns n most)[i]? = some p):p.1=nmS i (drF ns 1):=by
 unfold itsF at h
 grind
def jG5(ns:List Int)(ha:1<=a/\a<=4)(hb:1<=b/\b<=5)(hc:1<=c/\c<=6):∃ bk:Bk,jhd [scr ns,.lst [.int (a:Nat),.int (b:Nat),.int (c:Nat)]]=oK (bkD bk)/\BkOk 206 bk:=by
 have mx:=jLj (n:=atF ns 0) (p:=2) (by decide) (by decide);generalize mixF _ 2=m at mx;have go:∀ (q:Nat) (mi mr:Nat),m % 2=(q)->atI [D.int 7,D.int 100000000000000000000000] (q)=oI (mi)->atI [D.int 100000000000000000000000,D.int 7] (q)=oI (mr)->7<=mi->mi<2 ^ 100->7<=mr->mr<2 ^ 100->mi*mr<=7*10 ^ 23->mr<=10 ^ 23->mi<=10 ^ 23 ->
   ∃ bk:Bk,jhd [scr ns,.lst [.int (a),.int (b),.int (c)]]=oK (bkD bk)/\BkOk 206 bk:=by
  intro q mi mr hq h1 h2 m1 m2 m3 m4 m5 m6 m7;have li:(itsF ns a mi).length=a:=by unfold itsF;rw[zav,List.length_range]
  have bi:∀ p∈itsF ns a mi,Bt 100 p.2:=fun p hp=>by
   obtain⟨i,hi,rfl⟩:=zcv.mp hp;have:=zcc.mp hi;exact Nat.lt_trans (jul (by lia) (by lia) m1 m2) m2
  have bn:∀ p∈itsF ns a mi,p.2.natAbs<mi:=fun p hp=>by
   obtain⟨i,hi,rfl⟩:=zcv.mp hp;have:=zcc.mp hi;exact jul (by lia) (by lia) m1 m2
  obtain⟨rls,er,lr,hr⟩:=jD3 ns (by rw[li];exact ha.2) bi bn m5 m6 hb.2 m3 m4;obtain⟨dds,ed,ld,hd⟩:=jBy ns (by rw[li];exact ha.2) hc.2;have l2:jar [.int 100000000000000000000000,.int 7]=oL _:=rfl;refine⟨⟨itsF ns a mi,rls,dds⟩,?_,⟨by rw[li];exact ha.1,by rw[li];exact ha.2,by rw[lr];exact hb.1,by rw[lr];exact hb.2,by rw[ld];exact hc.1,by rw[ld];exact hc.2,bi,fun p hp=>zcx (bn p hp) m7,⟨_,fun i p h=>jNa h⟩,⟨_,hr⟩,⟨_,hd⟩⟩⟩;unfold jhd;rw[jd5];unfold ji9;rw[jao (by simp only[stp,(w_at (k:=0) (by decide) (by decide)),mx,(jbz (j:=2) (by decide)),hq];rfl),jao (by simp only[stp,p1023,h1,(jCp ns ha.2 m1 m2)];rfl),jb1 (by simp only[stp,p1023,h2,er,ed];rfl)];rfl
 have hq:m % 2=0\/m % 2=1:=by lia
 rcases hq with hq|hq
 .exact go 0 7 _ hq rfl rfl (by decide) (by decide) (by decide) (by decide) (by decide) (by decide) (by decide)
 .exact go 1 _ 7 hq rfl rfl (by decide) (by decide) (by decide) (by decide) (by decide) (by decide) (by decide)
theorem jE6(h:d<10):(Nat.digitChar d).toNat=48+d:=(by decide:∀ d,d<10->(Nat.digitChar d).toNat=48+d) d h
theorem jnk(h:n<10):dg n=[48+n]:=by
 grind [dg,Nat.toDigits_of_lt_base,List.map_cons,List.map_nil,jE6]
def jrd(h:10<=n):dg n=dg (n / 10)++[48+n % 10]:=by
 unfold dg;rw[Nat.toDigits_of_base_le (by decide) h,List.map_append,List.map_cons,List.map_nil,jE6 (Nat.mod_lt _ (by decide))]
def pad:Nat->Nat->List Nat
 | 0,_=>[]
 | k+1,r=>pad k (r / 10)++[48+r % 10]
theorem jzc:∀ k r,(pad k r).length=k
 | 0,_=>rfl
 | k+1,r=>by unfold pad;rw[zcb,jzc k];rfl
theorem jFc:∀ (k q r:Nat),0<q->r<10 ^ k->dg (q*10 ^ k+r)=dg q++pad k r
 | 0,q,r,_,hr=>by
  have:=by simpa using hr
  grind [pad]
 | k+1,q,r,hq,hr=>by
  have e:q*10 ^ (k+1)+r=10*(q*10 ^ k)+r:=by rw[Nat.pow_succ,<- Nat.mul_assoc,Nat.mul_comm _ 10]
  have p2:1<=q*10 ^ k:=Nat.mul_pos hq (Nat.pow_pos (by decide));rw[jrd (by lia)];have e1:(q*10 ^ (k+1)+r) / 10=q*10 ^ k+r / 10:=by lia
  have e2:(q*10 ^ (k+1)+r) % 10=r % 10:=by lia
  rw[e1,e2,jFc k q _ hq (by lia)]
  grind [pad,List.append_assoc]
theorem jub:∀ k,pad k 0=List.replicate k 48
 | 0=>rfl
 | k+1=>by unfold pad;rw[Nat.zero_div,jub k,List.replicate_succ']
theorem jzb:∀ (k r:Nat),r<10 ^ (k+1)->pad (k+1) r=List.replicate (k+1-(dg r).length) 48++dg r
 | 0,r,h=>by
  have h':=by simpa using h
  rw[jnk h'];unfold pad pad;rw[Nat.mod_eq_of_lt h'];rfl
 | k+1,r,h=>by
  by_cases h':r<10
  .grind [jnk,pad,Nat.div_eq_of_lt,jub,Nat.mod_eq_of_lt]
  .rw[jrd (by lia)]
   conv=>lhs;unfold pad
   rw[jzb k _ (by lia),zcb,List.length_singleton,List.append_assoc];congr 2
   lia
def jQu(h:r<10 ^ (k+1)):(dg r).length<=k+1:=by
 have e:=congrArg List.length (jzb k r h)
 grind [jzc,List.length_append]
def jSt(h:r<10 ^ 18):gZfill (St (dg r)) (.int 18)=some (sT (pad 18 r)):=by
 have e:=jzb 17 r h;have l:=jQu (k:=17) h;show (if PadOk 18=true then some (D.str (Txt.zfill (St (dg r)) 18)) else none)=_;rw[if_pos (by decide)];congr 2;unfold Txt.zfill;rw[jbi]
 by_cases q:(18:Int)<=((dg r).length:Nat)
 .rw[if_pos q,e];have:17+1-(dg r).length=0:=by lia
  grind
 .rw[if_neg q];have hd:=jgm r;have bd:=jnj r;have et:((18:Int).toNat-(dg r).length)=17+1-(dg r).length:=rfl;rw[et,e];generalize 17+1-(dg r).length=m
  cases hc:dg r with
  | nil=>grind
  | cons c cs =>
   have db:=hd c (by grind);unfold zfilled St;have h0:(⟨(c::cs).toArray⟩:Str).cps[0]? = some c:=by simp
   rw[h0];have c1:c≠43:=by rintro rfl;revert db;decide
   have c2:c≠45:=by rintro rfl;revert db;decide
   split
   .grind
   .grind
   .unfold Builtin.Str.padded;simp
def jtp(h:ps.flatten.length<=10000)(h2:ps.length<=10000):jpj (St []) (.lst (nmD ps))=some (sT ps.reverse.flatten):=by
 show (match strsD (nmD ps) with|some ys=>_|none=>none)=_;rw[jsr];dsimp only;rw[if_pos ⟨by rw[jtg,jbi,List.length_nil,Nat.mul_zero];exact zdz (by assumption) (by decide),by rw[zav,sizeLine_eq];exact zdz (by assumption) (by decide)⟩,<- List.map_reverse,jPz]
def jvu(h:gSeq a b Y=nX Y'):gSeq a (gSeq b c) Y=c Y':=by
 unfold gSeq at h |-
 rcases M.b_inv h with ⟨x,e1,h⟩|⟨x,e1,h⟩
 .rw[e1,M.b_ok]
  cases x with
  | rt d=>cases h
  | nx Y1 =>
   simp_all
  | _=>cases h
 .cases h
def numT(v:Int):List Nat:=if v<0 then 45::dg v.natAbs else dg v.natAbs
def jJs(a b:String):Str.ofString (a++b)=St ((Str.ofString a).cps.toList++(Str.ofString b).cps.toList):=by
 rw[Str.ofString_eq_toList,Str.ofString_eq_toList,Str.ofString_eq_toList,String.toList_append,List.map_append];rfl
def int_str(v:Int):Str.ofString (toString v)=St (numT v):=by
 unfold numT
 cases v with
 | ofNat n=>rw[if_neg (show ¬ Int.ofNat n<0 from Int.not_lt.mpr (Int.natCast_nonneg n))];exact jw6 n
 | negSucc n =>
  rw[if_pos (Int.negSucc_lt_zero n)];have e:toString (Int.negSucc n)="-"++toString ((n+1:Nat):Int):=rfl;rw[e,jJs,jw6,jlq];rfl
def jjt(h:v.natAbs<10 ^ 31):kStr [.int v]=some (sT (numT v)):=by
 have hl:v.natAbs.log2<1920:=by
  by_cases q:v.natAbs=0
  .rw[q];decide
  .exact Nat.lt_trans ((Nat.log2_lt q).mpr (Nat.lt_trans h (by decide:10 ^ 31<2 ^ 200))) (by decide)
 show (if v.natAbs.log2<1920 then some (D.str (Str.ofString (toString v))) else none)=_;rw[if_pos hl,int_str]
def jDg(hn:v.natAbs=n)(h:n<10 ^ 31):∃ (ps:LL) (x:Option D),gSeq (ja7 jcc jb2 FUEL) (gApp 1 (fL kStr (jaa (vR 2) fNil))) [oI v,oL [],oI (n:Nat)]=nX [oI v,oN ps,x]/\ps.reverse.flatten=dg n/\ps.length<=2:=by
 have tw:∀ (p:Option D) (m:Nat),jcc [oI v,p,oI (m:Nat)]=oK (decide (1000000000000000000<=m)):=fun p m=>by
  unfold jcc;simp only[stpA,Nat.reduceSub,ge_int]
  by_cases q:1000000000000000000<=m
  .rw[decide_eq_true q,decide_eq_true (by lia)];rfl
  .rw[decide_eq_false q,decide_eq_false (by lia)];rfl
 have hf:∃ k,FUEL=k+2:=⟨FUEL-2,by rw[jq1]⟩
 obtain⟨k,hf⟩:=hf
 by_cases q:1000000000000000000<=n
 .have hm:n % 1000000000000000000<10 ^ 18:=Nat.mod_lt _ (by decide);have e1:gMod (.int (n:Nat)) (.int 1000000000000000000)=oI ((n % 1000000000000000000:Nat):Int):=by rw[jbz (by decide)];rfl
  have e2:gFdiv (.int (n:Nat)) (.int 1000000000000000000)=oI ((n / 1000000000000000000:Nat):Int):=by rw[jbg (by decide) (by decide)];rfl
  have hq:n / 1000000000000000000<1000000000000000000:=by lia
  have b0:jb2 [oI v,oL [],oI (n:Nat)]=nX [oI v,oN [pad 18 (n % 1000000000000000000)],oI ((n / 1000000000000000000:Nat):Int)]:=by
   unfold jb2;rw[jao (joq (ds:=[]) (d:=sT (pad 18 (n % 1000000000000000000))) 1 (by
    unfold fSm;simp only[stpA,Nat.reduceSub,e1,juo (show n % 1000000000000000000<10 ^ 31 by exact zdz (by assumption) (by decide))];rw[jSt hm];rfl) rfl (by decide))]
   refine jbm 2 ?_;simp only[stpA,Nat.reduceSub,List.set_cons_zero,List.set_cons_succ,e2];rfl
  have ww:ja7 jcc jb2 FUEL [oI v,oL [],oI (n:Nat)]=nX [oI v,oN [pad 18 (n % 1000000000000000000)],oI ((n / 1000000000000000000:Nat):Int)]:=by
   rw[hf,w_go (by grind) b0];exact jP7 (by rw[tw,decide_eq_false (by lia)])
  have sq:=juo (show n / 1000000000000000000<10 ^ 31 by exact zdz (by assumption) (by decide));refine⟨[pad 18 (n % 1000000000000000000),dg (n / 1000000000000000000)],oI ((n / 1000000000000000000:Nat):Int),?_,?_,by simp⟩
  .rw[jao ww,joq (ds:=nmD [pad 18 (n % 1000000000000000000)]) (d:=sT (dg (n / 1000000000000000000))) 1 (by simp only[stpA,Nat.reduceSub,sq];rfl) rfl (by simp[nmD])];rfl
  .have:dg n=dg (n / 1000000000000000000)++pad 18 (n % 1000000000000000000):=by
    rw[<- jFc 18 (n / 1000000000000000000) (n % 1000000000000000000) (by lia) hm];congr 1
    lia
   rw[this];simp
 .refine⟨[dg n],oI (n:Nat),?_,by simp,by simp⟩;rw[jao (show ja7 _ _ FUEL _=_ from by rw[hf];exact jP7 (by grind))];rw[joq (ds:=[]) (d:=sT (dg n)) 1 (by simp only[stpA,Nat.reduceSub,juo h];rfl) rfl (by decide)];rfl
def jt8(h:v.natAbs<10 ^ 31):jaz [.int v]=oK (sT (numT v)):=by
 obtain⟨ps,x,e,hp,hl⟩:=jDg (v:=v) rfl h;have ka:=jou v;have t0:∀ p q:Option D,DL.t2 gLt (vR 0) (cI 0) [oI v,p,q]=oK (decide (v<0)):=fun p q=>by
  simp only[stpA,Nat.reduceSub,lt_int];rfl
 have dl:=je9 h;unfold jaz;rw[jdw]
 suffices hh:jci [oI v,none,none]=oK (.rt (sT (numT v))) by
  show (jci [oI v,none,none]).b outD=_;rw[hh,M.b_ok];rfl
 unfold jci;rw[jao (Y':=[oI v,oL [],none]) (by simp only[stpA,Nat.reduceSub];rfl)];rw[jao (Y':=[oI v,oL [],oI (v.natAbs:Nat)]) (by simp only[stpA,Nat.reduceSub,ka];rfl)];rw[jvu e];unfold numT
 by_cases hv:v<0
 .rw[if_pos hv];have hj:=jtp (ps:=ps++[[45]]) (by
   rw[List.flatten_append,zcb];have:ps.flatten.length=ps.reverse.flatten.length:=by rw[List.length_flatten,List.length_flatten,List.map_reverse,List.sum_reverse]
   grind) (by simp;lia)
  rw[jao (Y':=[oI v,oN (ps++[[45]]),x]) (by
   rw[w_if (t0 _ _),if_pos (decide_eq_true hv),jmr (i:=1) (kC jlq) rfl (by lia)];rfl)]
  refine jb1 ?_;unfold fSm;simp only[e_C,M.b_p,jrg,List.getElem?_cons_zero,List.getElem?_cons_succ,Option.join_some,M.o_some,jpu,hj];rw[List.reverse_append,List.flatten_append,hp];rfl
 .rw[if_neg hv];have hj:=jtp (ps:=ps) (by
   have:ps.flatten.length=ps.reverse.flatten.length:=by rw[List.length_flatten,List.length_flatten,List.map_reverse,List.sum_reverse]
   grind) (by lia)
  rw[jmf (by grind)];refine jb1 ?_;unfold fSm;simp only[e_C,M.b_p,jrg,List.getElem?_cons_zero,List.getElem?_cons_succ,Option.join_some,M.o_some,jpu,hj];rw[hp];rfl
def jq2{fa fb:DSt->M D}{Y:DSt}{x y:Bool}(h:fa Y=some (.ok (.bl x)))(g:fb Y=some (.ok (.bl y))):fAnd fa fb Y=oK (.bl (x&&y)):=by
 unfold fAnd;rw[h,M.b_ok];cases x
 .rfl
 .exact g
def or_b{fa fb:DSt->M D}{Y:DSt}{x y:Bool}(h:fa Y=some (.ok (.bl x)))(g:fb Y=some (.ok (.bl y))):fOr fa fb Y=oK (.bl (x || y)):=by
 unfold fOr;rw[h,M.b_ok];cases x
 .exact g
 .rfl
def le_b(x y:Int):gLe (.int x) (.int y)=some (.bl (decide (x<=y))):=rfl
def jHi{fa fb fc:DSt->M D}{Y:DSt}{a b c:Int}(h1:fa Y=some (.ok (.int a)))(h2:fb Y=some (.ok (.int b)))(h3:fc Y=some (.ok (.int c))):jfa gLe gLe fa fb fc Y=oK (.bl (decide (a<=b)&&decide (b<=c))):=by
 unfold jfa;rw[h1,M.b_ok,h2,M.b_ok,le_b];cases decide (a<=b)
 .rfl
 .rw[h3,M.b_ok,le_b];rfl
def jP3(a:List Nat):txtD (sT a)=some (a.map fun c=>.str (S1 c)):=by
 show some _=_;congr 1;have hs:(St a).cps.size=a.length:=by simp[St]
 rw[hs];refine List.ext_getElem (by simp) fun i h1 h2=>?_
 simp only[zav,List.length_range] at h1;simp[St,S1,h1]
def jov{fe:DSt->M D}{a:List Nat}{f:Nat->Bool}(hl:a.length<=100)(h:∀ c,fe [oS (S1 c)]=oK (.bl (f c))) :
  fL kAll (jaa (ja8 1 [] (jnr (vR 0)) (DL.gName 0) tYes fe) fNil) [some (sT a)]=oK (.bl (a.all f)):=by
 have ei:jnr (vR 0) [some (sT a)]=oK (a.map fun c=>.str (S1 c)):=by
  unfold jnr;simp only[stp,jP3];rfl
 simp only[stp,ei,(jba a _ fun c _=>h c),jbk (show (a.map fun c=>D.bl _).length<=1000 by grind),(jE0 a f)];rfl
def jNm(h:a.length<=50000):kLen [sT a]=oI (a.length:Nat):=by
 show (if (St a).length<=sizeLine then some _ else none)=_;rw[jbi,if_pos (by rw[sizeLine_eq];lia)]
def jlx(h:Nm a):jc0 [sT a]=oK (.bl true):=by
 have hl:=h.le;have h1:=List.length_pos_iff.mpr h.ne;have e1:jfa gLe gLe (cI 1) (fL kLen (jaa (vR 0) fNil)) (cI 10) [some (sT a)]=oK (.bl true):=by
  rw[jHi rfl (by simp only[stp,jNm (show a.length<=50000 by lia)];rfl) rfl,decide_eq_true (by lia),decide_eq_true (by lia)];rfl
 have e2:=jov (fe:=ji6) (a:=a) (f:=isL) (by lia) fun c=>by
  simp_all [ji6,stp,jeg]
 rw[List.all_eq_true.mpr h.al] at e2;show (jis [some _]).b _=_;unfold jis;rw[jb1 (jq2 e1 e2)];rfl
def lt_0:Str.ofString "0"=St [48]:=by decide +kernel
def jRl:Str.ofString "-0"=St [45,48]:=by decide +kernel
def jB9(x y:List Nat):gEq (sT x) (sT y)=some (.bl (decide (x=y))):=by
 show some (D.bl (St x == St y))=_;congr 2
 by_cases h:x=y
 .subst h;simp
 .rw[decide_eq_false h];exact beq_eq_false_iff_ne.mpr fun z=>h (jm8 z)
def jme(c d:Nat)(a:List Nat):Txt.startswith (St (c::a)) (St [d])=decide (c=d):=by
 unfold Txt.startswith Builtin.Str.subAt St
 by_cases h:c=d
 .grind [Str.length]
 .rw[decide_eq_false h];simp;intro _;show ¬ List.take 1 _=[d];simp;exact h
def jw7(h:0<n):∀ r,dg n≠48::r:=by
 induction n using Nat.strongRecOn with
 | ind n ih =>
  intro r e
  by_cases hn:n<10
  .rw[jnk hn] at e
   grind
  .rw[jrd (by lia)] at e
   cases hd:dg _ with
   | nil=>exact jnj _ hd
   | cons c s =>
    rw[hd] at e;have:=(List.cons.inj e).1;subst this;exact ih _ (by lia) (by lia) s hd
def jIf(h:n<10 ^ 31):je2 [sT (dg n)]=oK (.bl true):=by
 have hl:=je9 h;obtain⟨c,s,hc⟩:∃ c s,dg n=c::s:=by cases hd:dg n with|nil=>exact absurd hd (jnj n)|cons c s=>grind
 have e2:=jov (fe:=jcv) (a:=dg n) (f:=isG) (by lia) fun c=>by
  simp_all [jcv,stp,jiq]
 rw[List.all_eq_true.mpr (jmz (jgm n))] at e2;have t1:DL.tOr (t2 gEq (vR 0) (cS "")) (DL.tNot (tTru (fL kAll (jaa (ja8 1 [] (jnr (vR 0)) (DL.gName 0) tYes jcv) fNil)))) [some (sT (dg n))]=oK false:=by
  have h1:t2 gEq (vR 0) (cS "") [some (sT (dg n))]=oK false:=by
   simp only[stp,jpu,jB9,decide_eq_false (jnj n)];rfl
  have h2:tTru (fL kAll (jaa (ja8 1 [] (jnr (vR 0)) (DL.gName 0) tYes jcv) fNil)) [some (sT (dg n))]=oK true:=by
   rw[jxf,e2];rfl
  unfold DL.tOr DL.tNot;rw[h1,M.b_ok,h2];rfl
 show (je0 [some _]).b _=_;unfold je0;rw[jmf t1];have e3:f2 gEq (vR 0) (cS "0") [some (sT (dg n))]=oK (.bl (decide (dg n=[48]))):=by
  simp only[stp,lt_0,jB9];rfl
 have e4:f1 gNot (fSm gStarts (vR 0) (cS "0")) [some (sT (dg n))]=oK (.bl (!decide (c=48))):=by
  have:fSm gStarts (vR 0) (cS "0") [some (sT (dg n))]=M.p _:=rfl;unfold f1;rw[this,lt_0,hc,jme];rfl
 rw[jb1 (or_b e3 e4)];have:(decide (dg n=[48]) || !decide (c=48))=true:=by
  by_cases hn:n=0
  .subst hn;rfl
  .rw[decide_eq_false (show ¬ c=48 from fun z=>jw7 (by lia) s (z ▸ hc)),Bool.not_false,Bool.or_true]
 rw[this];rfl
def jAj(x:Str)(l:Option Int):Txt.slice x l none=Txt.slice x l (some (x.length:Nat)):=by
 unfold Txt.slice;have:Builtin.Str.strSliceIndices l none 1 x.length=Builtin.Str.strSliceIndices l (some (x.length)) 1 x.length:=by
  unfold Builtin.Str.strSliceIndices sliceRange;have z:max 0 (min (x.length) (x.length))=x.length:=by lia
  have y:¬ ((x.length):Int)<0:=by lia
  cases l<;>simp[y]
 rw[this]
def cut1(c:Nat)(a:List Nat)(h:a.length<=40000):fSl (vR 0) (jdn (cI 1)) oNone [some (sT (c::a))]=oK (sT a):=by
 have A:=At.slice (jQk [c] (a++[]) (by simp;lia));refine jvy rfl rfl rfl ?_;show (if (St _).length<=sizeLine then some _ else none)=_;rw[if_pos (by rw[jbi,sizeLine_eq,List.length_cons];lia),jAj,jbi];rw[List.append_nil] at A;have e:((([c]).length+a.length))=((c::a).length):=by simp;lia
 rw[e] at A;exact congrArg (fun z=>some _) A
def jnv(h:v.natAbs<10 ^ 31):jdd [sT (numT v)]=oK (.bl true):=by
 have hl:=je9 h;have fo:=jIf h;show (jfj [some _]).b _=_;unfold jfj numT;have tS:∀ (c:Nat) (a:List Nat),tTru (fSm _ _ _) _=oK _:=fun c a=>by
  have:fSm gStarts (vR 0) (cS "-") [some (sT (c::a))]=M.p _:=rfl;rw[jxf,this,jlq,jme];rfl
 by_cases hv:v<0
 .rw[if_pos hv];have e1:f2 gNe (vR 0) (cS "-0") [some (sT (45::dg v.natAbs))]=oK (.bl true):=by
   have:gNe (sT (45::dg v.natAbs)) (sT [45,48])=some (.bl true):=by
    show some (D.bl (!(St _ == St _)))=_;rw[beq_eq_false_iff_ne.mpr fun z=>(fun z=>jw7 (by lia) [] (List.cons.inj z).2) (jm8 z)];rfl
   simp only[stp,jRl,this];rfl
  have e2:fCall je2 (jaa (fSl (vR 0) (jdn (cI 1)) oNone) fNil) [some (sT (45::dg v.natAbs))]=oK (.bl true):=by
   simp only[stp,(cut1 45 (dg v.natAbs) (by lia)),fo]
  rw[w_rt (by
   rw[w_if (tS _ _),if_pos (decide_eq_true rfl)];exact jb1 (jq2 e1 e2))]
  rfl
 .rw[if_neg hv];obtain⟨c,s,hc⟩:∃ c s,dg v.natAbs=c::s:=by cases hd:dg _ with|nil=>exact absurd hd (jnj _)|cons c s=>exact⟨c,s,rfl⟩
  have hg:=jgm _ c (by rw[hc];exact zaa);have t:=tS c s;rw[<- hc,decide_eq_false (by rintro rfl;revert hg;decide)] at t;rw[jmf t,jb1 (d:=.bl true) (by simp only[stp,fo])];rfl
def jr6(h:v.natAbs<10 ^ 31):jbp [sT (numT v)]=oK (.int v):=by
 have hl:=je9 h;unfold numT
 by_cases hv:v<0
 .rw[if_pos hv];have fo:=jmu (jgm v.natAbs) (jnj _) (by lia);rw[js8] at fo;have t:tTru (fSm gStarts (vR 0) (cS "-")) [some (sT (45::dg v.natAbs))]=oK true:=by
   have:fSm gStarts (vR 0) (cS "-") [some (sT (45::dg v.natAbs))]=M.p _:=rfl;rw[jxf,this,jlq,jme];rfl
  show (jdb [some _]).b _=_;unfold jdb;rw[w_rt (by
   rw[w_if t,if_pos rfl];simp only[stp,(cut1 45 (dg v.natAbs) (by lia)),fo];have:-((v.natAbs))=v:=by lia
   show some _=_;rw[this])]
  rfl
 .rw[if_neg hv,jp0 (jgm _) (jnj _) (by lia),js8];have:((v.natAbs))=v:=by lia
  rw[this]
def jvc:Str.ofString ": "=St [58,32]:=by decide +kernel
def eseq{g1 g2:DSt->MS Out}{Y Y':DSt}{Ω Ω':Sto}(h:g1 Y Ω=some (.ok (.nx Y'),Ω')):eSeq g1 g2 Y Ω=g2 Y' Ω':=by
 simp_all
def q_lf{α:Type}{g:DSt->M α}{Y:DSt}{o:α}{Ω:Sto}(h:g Y=some (.ok o)):lF g Y Ω=some (.ok o,Ω):=by simp_all
def jqz{f:DSt->M D}{Y:DSt}{d:D}(h:f Y=some (.ok d)):jmj f Y=nX Y:=by
 unfold jmj;rw[h];rfl
def jjo(h:Nm a)(hc:isL c=false):c∉a:=fun z=>by rw[h.al c z] at hc;cases hc
theorem jJp(h:c∈numT v):c=45\/isG c=true:=by
 unfold numT at h
 split at h
 .rcases List.mem_cons.mp h with h|h
  .exact .inl h
  .exact .inr (jmz (jgm _) c h)
 .exact .inr (jmz (jgm _) c h)
def jkc(h1:c≠45)(h2:isG c=false):c∉numT v:=fun z=>by
 grind [jJp]
def jb0(h:v.natAbs<10 ^ 31):(numT v).length<=32:=by
 have:=je9 h
 grind [numT,List.length_cons]
def jD1(ha:Nm a)(h:v.natAbs<10 ^ 31)(l:D):jeo [sT (a++(32::numT v)),l]=oK (itD (a,v)):=by
 have hl:=ha.le;have nl:=jb0 h;have sp:=jkv (c:=32) (u:=[]) (ps:=[a,numT v]) rfl (fun p hp=>by
  rcases List.mem_cons.mp hp with rfl|hp
  .exact jjo ha rfl
  .rw[zdx.mp hp];exact jkc nofun rfl) (by simp) (by simp[jap];lia) (by simp)
 unfold jeo;rw[jd5];unfold jh8;rw[jao (Y':=[some _,some l,oN _]) (jbm 2 (jhm rfl rfl (sp)))];have x0:f2 gIx (vR 2) (cI 0) [some (sT (a++(32::numT v))),some l,oN [a,numT v]]=oK _:=rfl;rw[jao (jqz (by rw[jj0,jce,(jq2 rfl (jq2 (jlx ha) (jnv h))),M.b_ok];rfl))];have c5:fCall jbp (jaa (f2 gIx (vR 2) (cI 1)) fNil) [some (sT (a++(32::numT v))),some l,oN [a,numT v]]=oK _:=jr6 h;rw[jb1 (by rw[e_L,jce,x0,M.b_ok,jce,c5,M.b_ok];rfl)];rfl
structure TxS(aa:LL)(x:List Nat)(f:Fm):Prop where
 ex:∃ ab p,x=jav ab p/\Sm aa (ab.map (·.2)) f 2000
theorem jAg:∀ (s:List (Nat×List Nat)) (p:Nat),(∀ q∈s,q.2≠[])->s.length<=(jav s p).length
 | [],p,_=>by simp
 | (k,a)::s,p,h=>by
  have:=jAg s p fun q hq=>h q (zaw _ hq)
  have:1<=a.length:=by cases a with|nil=>exact absurd rfl (h _ zaa)|cons _ _=>simp
  show s.length+1<=(List.replicate k 32++(a++jav s p)).length
  grind
def jof(hn:aa.length<=1000)(T:TxS aa x f)(hl:x.length<=40000)(l:D)(Ω:Sto):∃ Ω',jb6 [.lst (nmD aa),sT x,l] Ω=some (.ok (fm f),Ω')/\Kept Ω.length Ω Ω':=by
 obtain⟨ab,p,e1,S⟩:=T.ex;have tk:∀ q∈ab,∃ c r,q.2=c::r/\(isL c=true->q.2∈aa)/\q.2.length<=40:=fun q hq=>S.toks _ (List.mem_map_of_mem hq)
 have hsl:=jAg _ p (fun q hq=>by obtain⟨c,r,e,_⟩:=tk q hq;rw[e];simp);rw[<- e1] at hsl;obtain⟨Ω',e2,kp⟩:=jKo (ab:=ab) (p:=p) (x:=St x) hn (by rw[e1];simp[St]) (by rw[jbi];lia) (by
  have:=S.acc [] 0 .done;rw[List.append_nil] at this;exact this) (by lia) (fun q hq=>by
  obtain⟨c,r,e,m,l⟩:=tk q hq;rw[e] at m l;exact⟨c,r,e,m,by simp at l;lia⟩) (by
  have:=S.ok;rw[List.map_map] at this;exact this) Ω
 refine⟨Ω',?_,kp⟩;show ((jea [oN _,some _,some l]).b _) Ω=_;unfold jea;have l1:lF (jaa (vR 0) (jaa (vR 1) fNil)) [oN aa,some (sT x),some l] Ω=some _:=rfl;rw[s_b,jqf,s_b,jf1,s_b,l1,jah,e2,jah,s_p,jah,joi,s_p]
def TxS.shown(hn:aa.length<=10)(hN:∀ a∈aa,Nm a)(hd:aa.Nodup)(h:FOk aa.length f):TxS aa (jbw aa f) f:=by
 obtain⟨ab,e,_,S⟩:=jEc hn hN hd h;exact⟨_,0,e,S⟩
theorem jjr:∀ (s:List (Nat×List Nat)) (p n:Nat),jav s (p+n)=jav s p++List.replicate n 32
 | [],p,n=>by show List.replicate _ 32=_;rw[<- List.replicate_append_replicate];rfl
 | (k,a)::s,p,n=>by
  show List.replicate k 32++(a++jav s _)=_;rw[jjr s p n];show _=(List.replicate k 32++(a++jav s p))++_
  grind
theorem TxS.pad(h:TxS aa x f)(m n:Nat):TxS aa (List.replicate m 32++(x++List.replicate n 32)) f:=by
 obtain⟨ab,p,e,S⟩:=h.ex
 cases ab with
 | nil =>
  refine⟨[],m+(p+n),?_,S⟩;rw[e];show List.replicate m 32++(List.replicate p 32++List.replicate n 32)=List.replicate _ 32
  simp_all
 | cons q s =>
  obtain⟨k,a⟩:=q;refine⟨(m+k,a)::s,p+n,?_,S⟩;rw[e];show List.replicate m 32++((List.replicate k 32++(a++jav s p))++List.replicate n 32)=List.replicate _ 32++(a++jav s _);rw[jjr,<- List.replicate_append_replicate]
  grind
def TxS.paren(h:TxS aa x f):TxS aa (40::(x++[41])) f:=by
 obtain⟨ab,p,e,S⟩:=h.ex;refine⟨(0,[40])::(ab++[(p,[41])]),0,?_,?_⟩
 .show _=[40]++jav _ 0;rw[e,jjq];show 40::(jav _ p++[41])=40::(jav _ 0++(List.replicate p 32++([41]++[])))
  have:=jjr ab 0 p
  grind
 .have:=((Fc.paren S).tm (by decide)).sm (by decide)
  grind
def subL(xs ys:List Int):List Int:=(xs.zip ys).map fun p=>p.1-p.2
def jmn{g:DSt->MS Out}{Y:DSt}{Ω Ω':Sto}{d:D}(h:g Y Ω=some (.ok (.rt d),Ω')):((g Y).b outE) Ω=some (.ok d,Ω'):=by
 simp_all
def jku{i:Nat}{m:List D->MS D}{fl:DSt->M (List D)}{Y:DSt}{ds:List D}{d:D}{Ω Ω':Sto}(h1:fl Y=some (.ok ds))(h2:m ds Ω=some (.ok d,Ω')):eSet i (jcz m (lF fl)) Y Ω=some (.ok (.nx (Y.set i (some d))),Ω'):=by
 simp_all
def jD2(hn:aa.length<=1000)(ha:Nm a)(hL:TxS aa L f)(hR:TxS aa R g)(hg:62∉L)(l1:L.length<=20000)(l2:R.length<=20000)(hf:f.1.length<=1000)(l:D)(Ω:Sto) :
  ∃ Ω',jep [.lst (nmD aa),sT (a++([58,32]++(L++([62,61]++R)))),l] Ω=some (.ok (rulD ⟨a,subL f.1 g.1,f.2-g.2⟩),Ω')/\Kept Ω.length Ω Ω':=by
 have al:=ha.le;have p1:=jlz (c:=58) (u:=[32]) (r:=L++([62,61]++R)) (jjo ha rfl) (by simp;lia);obtain⟨Ω1,r1,k1⟩:=jof hn hL (by lia) l Ω;obtain⟨Ω2,r2,k2⟩:=jof hn hR (by lia) l Ω1;refine⟨Ω2,?_,k1.trans (k2.mono k1.le)⟩;refine jmn ?_;show jh9 [oN _,oS _,some l,none,none,none,none,none] Ω=_;generalize St _=tx at p1;unfold jh9;rw[eseq (q_lf (jbm 3 (jhm rfl rfl (p1))))];have c2:fCall jc0 (jaa (f2 gIx (vR 3) (cI 0)) fNil) [oN aa,oS tx,some l,some (.tup [sT a,sT [58,32],sT (L++([62,61]++R))]),none,none,none,none]=oK _:=jlx ha;rw[eseq (q_lf (jqz (by
  show fCall _ _ [oN _,oS tx,some l,some (.tup [sT a,sT [58,32],sT (L++([62,61]++R))]),none,none,none,none]=_;rw[jj0,jce,c2,M.b_ok];rfl))),eseq (q_lf (jbm 4 (jhm rfl rfl ((jlz hg (by simp;lia)))))),eseq (jku rfl r1),eseq (jku rfl r2)]
 have cc:=je8 (c:=[]) (fe:=jgj) (K:=fun p=>(D.int p.1,D.int p.2)) (f.1.zip g.1) none none fun p _=>rfl
 have ln:((f.1.zip g.1).map fun p=>D.int (p.1-p.2)).length<=1000:=by rw[zav,List.length_zip];lia
 have em:((f.1.zip g.1).map fun p=>D.int (p.1-p.2))=(subL f.1 g.1).map .int:=by unfold subL;rw[List.map_map];rfl
 rw[em] at cc ln;have e7:fL kTuple (jaa (ja8 2 [] (jby jbl (jaa (f2 gIx (vR 5) (cI 0)) (jaa (f2 gIx (vR 6) (cI 0)) fNil))) (jbe 0 1) tYes jgj) fNil) [oN aa,oS tx,some l,some (.tup [sT a,sT [58,32],sT (L++([62,61]++R))]),some (.tup [sT L,sT [62,61],sT R]),of f,of g,none]=oK (.tup ((subL f.1 g.1).map .int)):=by
  simp only[stp,fm0',cc,jbk ln];rfl
 exact (eseq (q_lf (jbm 7 e7))).trans (q_lf (jb1 rfl))
def jRa(a:List Nat)(aa:LL):gIn (sT a) (.lst (nmD aa))=some (.bl (decide (a∈aa))):=by
 show (if (true&&(nmD _).all _)=true then some _ else none)=_;rw[if_pos (by rw[Bool.true_and,List.all_eq_true];intro x hx;obtain⟨y,_,rfl⟩:=zcv.mp hx;rfl),jrm]
structure Pt where
 a:List Nat
 x:List Nat
 c:Int×Int
def ptL(p:Pt):List Nat:=p.a++([32]++p.x)
structure PtOk(aa:LL)(u:List Nat)(p:Pt):Prop where
 nm:Nm p.a
 mem:p.a∈aa
 tx:TxS [u] p.x ([p.c.1],p.c.2)
 no:44∉p.x
 len:p.x.length<=6000
def chT(ps:List Pt):List Nat:=if ps=[] then [45] else jap [44,32] (ps.map ptL)
def kvP(ps:List Pt):List (Str×D):=ps.map fun p=>(St p.a,chD p.c)
def jlo(ps:List Pt)(a:List Nat):Int×Int:=((ps.find? fun p=>decide (p.a=a)).map (·.c)).getD (0,0)
theorem jrt(a:List Nat):∀ ps:List Pt,jln (kvP ps) (St a)=(ps.find? fun p=>decide (p.a=a)).map fun p=>chD p.c
 | []=>rfl
 | p::ps=>by
  unfold jln kvP;rw[List.map_cons,List.find?_cons,List.find?_cons]
  by_cases h:p.a=a
  .grind
  .rw[decide_eq_false h,decide_eq_false (fun z=>h (jm8 z))];exact (jrt a ps)
noncomputable abbrev cd(aa:LL)(u:List Nat)(t:Str)(l:D)(n:Nat)(ds:List D)(x y z:Option D):DSt:=[oN aa,some (sT u),oS t,some l,some (.obj n),oL ds,x,y,z]
def jHh(hn:aa.length<=1000)(h:PtOk aa u p)(hq:∀ q∈qs,q.a≠p.a)(hl:qs.length<=1000)(hΩ:Ω[n]? = some (.dck (kvP qs))) :
  ∃ y' z' Ω',jcs (cd aa u t l n ds (some (sT (ptL p))) y z) Ω=some (.ok (.nx (cd aa u t l n ds (some (sT (ptL p))) y' z')),Ω')/\Ω'[n]? = some (.dck (kvP (qs++[p])))/\Kept n Ω Ω':=by
 have al:=h.nm.le;have xl:=h.len;obtain⟨Ω1,r1,k1⟩:=jof (by simp) h.tx (by lia) l Ω;have cw:=(zbb.mp hΩ).1;have cu:Ω1[n]? = some (.dck (kvP qs)):=by rw[k1.at' n cw];exact hΩ
 have lk:jln (kvP qs) (St p.a)=none:=by
  rw[jrt,List.find?_eq_none.mpr fun q hq'=>by simpa using hq q hq'];rfl
 refine⟨some (.tup [sT p.a,sT [32],sT p.x]),of ([p.c.1],p.c.2),_,?_,by rw[zcz ((zbb.mp cu).1)],(k1.mono (Nat.le_of_lt cw)).trans (Kept.set (zac _))⟩;unfold jcs;rw[eseq (q_lf (jbm 7 (jhm rfl rfl ((jlz (jjo h.nm rfl) (by simp;lia))))))];have i1:f2 gIn (f2 gIx (vR 7) (cI 0)) (vR 0) (cd aa u t l n ds (some (sT (ptL p))) (some (.tup [sT p.a,sT [32],sT p.x])) z)=oK (.bl true):=by
  show M.o _=_;rw[jRa,decide_eq_true h.mem];rfl
 have i2:jjh (f2 gIx (vR 7) (cI 0)) (vR 4) (cd aa u t l n ds (some (sT (ptL p))) (some (.tup [sT p.a,sT [32],sT p.x])) z) Ω=some (.ok (.bl true),Ω):=by
  show (dckK _ _ _ Ω).map _=_;have:dckK (vR 4) (f2 gIx (vR 7) (cI 0)) (cd aa u t l n ds (some (sT (ptL p))) (some (.tup [sT p.a,sT [32],sT p.x])) z) Ω=some (n,kvP qs,St p.a):=by
   show (match Ω[n]? with|some (.dck kvs)=>some _|_=>none)=_;rw[hΩ]
  rw[this];show some (Except.ok _,Ω)=_;rw[lk];rfl
 have i3:jf6 (jgu jag (jbh (jvd (lF (f2 gIn (f2 gIx (vR 7) (cI 0)) (vR 0))) (jjh (f2 gIx (vR 7) (cI 0)) (vR 4))) (lF (jaa (vR 3) fNil)))) (cd aa u t l n ds (some (sT (ptL p))) (some (.tup [sT p.a,sT [32],sT p.x])) z) Ω=some (.ok (.nx (cd aa u t l n ds (some (sT (ptL p))) (some (.tup [sT p.a,sT [32],sT p.x])) z)),Ω):=by
  rw[jhu,s_b,joh,s_b,jfe,s_b];unfold jvd;rw[s_b,q_lf i1,jah];show jgd (jgd (jgd (jjh _ _ _ Ω) _) _) _=_;rw[i2];rfl
 rw[show List.set _ 7 _=cd _ u t l n ds _ _ z from rfl,eseq i3,eseq (jku rfl r1)];have i4:dckK (vR 4) (f2 gIx (vR 7) (cI 0)) (cd aa u t l n ds (some (sT (ptL p))) (some (.tup [sT p.a,sT [32],sT p.x])) (of ([p.c.1],p.c.2))) Ω1=some (n,kvP qs,St p.a):=by
  show (match Ω1[n]? with|some (.dck kvs)=>some _|_=>none)=_;rw[cu]
 show (dckK _ _ (cd _ u t l n ds _ _ _) Ω1).bind _=_;rw[i4];show (if (jln _ _).isSome=false/\(kvP qs).length<sizeLine then some _ else none)=_;rw[if_pos ⟨by rw[lk];rfl,by unfold kvP;rw[zav,sizeLine_eq];lia⟩];unfold kvP;rw[List.map_append];rfl
theorem jww(hn:aa.length<=1000):∀ (ps qs:List Pt) (x y z:Option D) (Ω:Sto),(∀ p∈ps,PtOk aa u p)->((qs++ps).map (·.a)).Nodup->qs.length+ps.length<=1000->Ω[n]? = some (.dck (kvP qs)) ->
  ∃ x' y' z' Ω',forE jcs (DL.gName 6) (nmD (ps.map ptL)) (cd aa u t l n ds x y z) Ω=some (.ok (.nx (cd aa u t l n ds x' y' z')),Ω')/\Ω'[n]? = some (.dck (kvP (qs++ps)))/\Kept n Ω Ω'
 | [],qs,x,y,z,Ω,_,_,_,hΩ=>⟨x,y,z,Ω,rfl,by grind,Kept.refl _ _⟩
 | p::ps,qs,x,y,z,Ω,h,hd,hl,hΩ=>by
  rw[List.length_cons] at hl;have hq:∀ q∈qs,q.a≠p.a:=fun q hq e=>by
   grind
  obtain⟨y1,z1,Ω1,e1,h1,k1⟩:=jHh hn (h p zaa) hq (by lia) hΩ;obtain⟨x2,y2,z2,Ω2,e2,h2,k2⟩:=jww hn ps _ _ y1 z1 Ω1 (fun q hq=>h q (zaw _ hq)) (by grind) (by simp;lia) h1;refine⟨x2,y2,z2,Ω2,?_,by grind,k1.trans k2⟩;show forE _ _ (sT _::nmD _) _ Ω=_;rw[jcx rfl e1];exact e2
theorem jNq:Str.ofString ", "=St [44,32]:=by decide +kernel
theorem js4{aa:LL}{ps:List Pt}{n:Nat}{Ω:Sto}(hΩ:Ω[n]? = some (.dck (kvP ps))):∀ (as:LL) (x:Option D),jnh (DL.gName 0) jb3 (nmD as) [x,some (.obj n)] Ω=some (.ok (as.map fun a=>chD (jlo ps a)),Ω)
 | [],_=>rfl
 | a::as,x=>by
  have e:jb3 [some (sT a),some (.obj n)] Ω=some (.ok (chD (jlo ps a)),Ω):=by
   unfold jb3 jI3;have:dckK (vR 1) (vR 0) [some (sT a),some (.obj n)] Ω=some (n,kvP ps,St a):=by
    show (match Ω[n]? with|some (.dck kvs)=>some _|_=>none)=_;rw[hΩ]
   rw[this];show some (Except.ok _,Ω)=_;rw[jrt];unfold jlo
   cases ps.find? _ with
   | none=>rfl
   | some p=>rfl
  show ((jb3 [some _,some _]).b fun y=>(jnh _ _ (nmD as) [some _,some _]).b _) Ω=_;rw[s_b,e,jah,s_b,js4 (aa:=aa) hΩ as _,jah,s_p];rfl
def jR0(h:PtOk aa u p):44∉ptL p:=fun z=>by
 rcases zdy.mp z with z|z
 .exact jjo h.nm rfl z
 .rcases zdy.mp z with z|z
  .grind
  .exact h.no z
def jDu(h:PtOk aa u p):jap [44,32] ((p::ps).map ptL)≠[45]:=by
 obtain⟨c,a,e⟩:∃ c a,p.a=c::a:=by cases hp:p.a with|nil=>exact absurd hp h.nm.ne|cons c a=>grind
 have hc:=h.nm.al c (by grind);intro z;have:∃ r,jap [44,32] ((p::ps).map ptL)=c::r:=by
  cases ps with
  | nil=>exact⟨_,by show ptL p=_;unfold ptL;rw[e];rfl⟩
  | cons q ps=>exact⟨_,by show ptL p++_=_;unfold ptL;rw[e];rfl⟩
 obtain⟨r,hr⟩:=this;rw[hr] at z;cases (List.cons.inj z).1;cases hc
theorem jfo:∀ {ps:LL},(∀ p∈ps,p.length<=k)->(jap [44,32] ps).length<=ps.length*(k+2)
 | [],_=>Nat.zero_le _
 | [p],h=>by have:=h p zaa;show p.length<=1*(k+2);lia
 | p::q::ps,h=>by
  have h1:=h p zaa;have h2:=jfo fun r hr=>h r (zaw _ hr)
  show (p++([44,32]++jap _ _)).length<=((q::ps).length+1)*(k+2);rw[zcb,zcb,Nat.succ_mul,show ([44,32]).length=2 from rfl]
  lia
def jPc(hn:aa.length<=1000)(h:∀ p∈ps,PtOk aa u p)(hd:(ps.map (·.a)).Nodup)(hl:ps.length<=6)(l:D)(Ω:Sto) :
  ∃ Ω',je7 [.lst (nmD aa),sT u,sT (chT ps),l] Ω=some (.ok (.tup (aa.map fun a=>chD (jlo ps a))),Ω')/\Kept Ω.length Ω Ω':=by
 have e5:fIf (t2 gEq (vR 2) (cS "-")) (fL jar fNil) (fSm gSplit (vR 2) (fC (.str ", "))) [oN aa,some (sT u),some (sT (chT ps)),some l,some (.obj Ω.length),none,none,none,none]=oK (.lst (nmD (ps.map ptL))):=by
  have t1:t2 gEq (vR 2) (cS "-") [oN aa,some (sT u),some (sT (chT ps)),some l,some (.obj Ω.length),none,none,none,none]=oK (decide (chT ps=[45])):=by
   simp only[stp,jlq,jB9];rfl
  unfold fIf;rw[t1,M.b_ok]
  cases ps with
  | nil=>rfl
  | cons p ps =>
   have h0:chT (p::ps)=jap _ _:=if_neg (by simp);rw[h0,decide_eq_false (jDu (h p zaa)),if_neg nofun];have sp:=jkv (c:=44) (u:=[32]) (ps:=(p::ps).map ptL) rfl (fun q hq=>by
    obtain⟨r,hr,rfl⟩:=zcv.mp hq;exact jR0 (h r hr)) (by simp) (by
    have:=jfo (ps:=(p::ps).map ptL) (k:=6100) fun q hq=>by
     obtain⟨r,hr,rfl⟩:=zcv.mp hq;have a1:=(h r hr).nm.le;have a2:=(h r hr).len
     grind [ptL]
    rw[zav] at this
    lia) (by grind)
   exact jhm rfl rfl (sp)
 obtain⟨x',y',z',Ω1,e6,h6,k6⟩:=jww (n:=Ω.length) hn ps [] _ _ _ (Ω++[.dck []]) h (by grind) (by simp;lia) (by simp[kvP]);refine⟨Ω1,?_,(Kept.app (zac _)).trans k6⟩;refine jmn ?_;show je6 [oN _,some (sT u),some _,some l,none,none,none,none,none] Ω=_;unfold je6;have e4:eSet 4 jI4 [oN aa,some _,some (sT (chT ps)),some l,none,none,none,none,none] Ω=some (.ok (.nx [oN _,some (sT u),some _,some l,some (.obj Ω.length),none,none,none,none]),Ω++[.dck []]):=rfl;rw[eseq e4,eseq (q_lf (jbm 5 e5))];refine (eseq e6).trans ?_;have cg:=js4 (aa:=aa) h6 aa none;rw[List.nil_append] at cg;rw[jqf,s_b,s_L,s_b,jfe,s_b];unfold jI2;rw[s_b,q_lf rfl,jah,s_b,if_pos (by grind [nmD,List.length_map,sizeLine_eq])];show jgd (jgd (jgd (jgd (jnh _ _ _ [none,some _] Ω1) _) _) _) _=_;rw[cg,jah,jbk (show (aa.map _).length<=1000 by grind),s_o];rfl
def ddT(a u:List Nat)(lo hi:Int):List Nat:=jap [32] [a,u,numT lo,numT hi]
theorem juz{lo hi:Int}:ddT a u lo hi=a++([32]++(u++([32]++(numT lo++([32]++numT hi))))):=rfl
def jDx{lo hi:Int}(hn:aa.length<=1000)(ha:Nm a)(hu:Nm u)(h1:lo.natAbs<10 ^ 31)(h2:hi.natAbs<10 ^ 31)(h:∀ p∈ps,PtOk aa u p)(hd:(ps.map (·.a)).Nodup)(hl:ps.length<=6)(l:D)(Ω:Sto) :
  ∃ Ω',jfr [.lst (nmD aa),sT (ddT a u lo hi++([58,32]++chT ps)),l] Ω=some (.ok (dedD ⟨a,lo,hi,aa.map (jlo ps)⟩),Ω')/\Kept Ω.length Ω Ω':=by
 have la:=ha.le;have lu:=hu.le;have n1:=jb0 h1;have n2:=jb0 h2;have hc:(chT ps).length<=40000:=by
  unfold chT
  split
  .decide
  .have:=jfo (ps:=ps.map ptL) (k:=6100) fun q hq=>by
    obtain⟨r,hr,rfl⟩:=zcv.mp hq;have a1:=(h r hr).nm.le;have a2:=(h r hr).len;unfold ptL;simp
    lia
   rw[zav] at this
   lia
 have dl:(ddT a u lo hi).length<=100:=by
  show (a++([32]++(u++([32]++(numT lo++([32]++numT hi)))))).length<=100;simp
  lia
 have b7:58∉ddT a u lo hi:=fun z=>by
  have z':58∈a++([32]++(u++([32]++(numT lo++([32]++numT hi))))):=z;simp only[zdy,zdx] at z';rcases z' with z|z|z|z|z|z|z
  .exact jjo ha rfl z
  .cases z
  .exact jjo hu rfl z
  .cases z
  .exact jkc (by decide) rfl z
  .cases z
  .exact jkc (by decide) rfl z
 have p1:=jlz (u:=[32]) (r:=chT ps) b7 (by simp;lia);have sp:=jkv rfl (fun p hp=>by
  simp only[List.mem_cons,List.not_mem_nil,or_false] at hp;rcases hp with rfl|rfl|rfl|rfl
  .exact jjo ha rfl
  .exact jjo hu rfl
  .exact jkc nofun rfl
  .exact jkc nofun rfl) (by simp) (zdz dl (by decide)) (by simp)
 obtain⟨Ω1,r1,k1⟩:=jPc hn h hd hl l Ω;refine⟨Ω1,?_,k1⟩;refine jmn ?_;show jh7 [oN _,oS _,some l,none,none,none] Ω=_;generalize St _=tx at p1;unfold jh7;rw[eseq (q_lf (jbm 3 (jhm rfl rfl (p1)))),eseq (q_lf (jbm 4 (jhm rfl rfl (sp))))];have c1:∀ Y,Y=[oN aa,oS tx,some l,some (.tup [sT (ddT a u lo hi),sT [58,32],sT (chT ps)]),oN [a,u,numT lo,numT hi],none] ->
   fCall jag (jaa (fAnd _ _) (jaa (vR 2) fNil)) Y=oK _:=fun Y hδ=>by
  subst hδ;have:=jq2 (fa:=f2 gEq (fL kLen (jaa (vR 4) fNil)) (cI 4)) (fb:=fAnd (fCall jc0 (jaa (f2 gIx (vR 4) (cI 0)) fNil)) (fCall jc0 (jaa (f2 gIx (vR 4) (cI 1)) fNil))) (Y:=[oN aa,oS tx,some l,some (.tup [sT (ddT a u lo hi),sT [58,32],sT (chT ps)]),oN [a,u,numT lo,numT hi],none]) rfl (jq2 (x:=true) (jlx ha) (jlx hu));rw[jj0,jce,this,M.b_ok];rfl
 refine (eseq (q_lf (jqz (c1 _ rfl)))).trans ?_;have c2:∀ Y,Y=[oN aa,oS tx,some l,some (.tup [sT (ddT a u lo hi),sT [58,32],sT (chT ps)]),oN [a,u,numT lo,numT hi],none] ->
   fCall jag (jaa (fAnd _ _) (jaa (vR 2) fNil)) Y=oK _:=fun Y hδ=>by
  subst hδ;have:=jq2 (fa:=fCall jdd (jaa (f2 gIx (vR 4) (cI 2)) fNil)) (fb:=fCall jdd (jaa (f2 gIx (vR 4) (cI 3)) fNil)) (Y:=[oN aa,oS tx,some l,some (.tup [sT (ddT a u lo hi),sT [58,32],sT (chT ps)]),oN [a,u,numT lo,numT hi],none]) (jnv h1) (jnv h2);rw[jj0,jce,this,M.b_ok];rfl
 refine (eseq (q_lf (jqz (c2 _ rfl)))).trans ?_;rw[eseq (jku rfl r1)];refine q_lf (jb1 ?_);have m1:∀ Y,Y[4]? = some (oN _)->fCall jbp (jaa (f2 gIx _ _) fNil) Y=oK _/\fCall jbp (jaa (f2 gIx _ _) fNil) Y=oK _/\f2 gIx _ _ Y=oK _:=fun Y hδ=>by
  have v:vR 4 Y=oK (.lst (nmD [a,u,numT lo,numT hi])):=by unfold vR;rw[hδ];rfl
  have w:∀ (i:Int) (z:D),gIx _ _=some z->f2 gIx (vR 4) (cI i) Y=oK z:=fun i z hz=>by
   unfold f2;rw[v,M.b_ok];show M.o _=_;rw[hz];rfl
  refine⟨?_,?_,w 0 _ rfl⟩
  .rw[jj0,jce,w 2 _ rfl,M.b_ok];exact jr6 h1
  .rw[jj0,jce,w 3 _ rfl,M.b_ok];exact jr6 h2
 obtain⟨m2,m3,m4⟩:=m1 _ (show (List.set [oN _,oS tx,some l,some _,oN _,none] 5 _)[4]? = _ from rfl);rw[e_L,jce,m4,M.b_ok,jce,m2,M.b_ok,jce,m3,M.b_ok];unfold dedD;rw[List.map_map];rfl
inductive NL:List D->LL->Prop
 | nil:NL [] []
 | cons {d:D} {a:List Nat} {ds:List D} {as:LL} (h:gIx d (.int 0)=some (sT a)) (t:NL ds as):NL (d::ds) (a::as)
theorem NL.len:∀ {ds:List D} {as:LL},NL ds as->ds.length=as.length
 | _,_,.nil=>rfl
 | _,_,.cons _ t=>congrArg _ t.len
theorem NL.app:∀ {ds:List D} {as:LL} {d:D} {a:List Nat},NL ds as->gIx d (.int 0)=some (sT a)->NL (ds++[d]) (as++[a])
 | _,_,_,_,.nil,h=>.cons h .nil
 | _,_,_,_,.cons h0 t,h=>.cons h0 (t.app h)
theorem jr5:∀ {ds:List D} {as:LL} (x:Option D),NL ds as->jcn (DL.gName 0) tYes jc8 ds [x]=some (nmD as)
 | _,_,_,.nil=>rfl
 | d::ds,a::as,x,.cons h t=>by
  have e:jc8 [some d]=oK (sT a):=by
   show M.o _=_;rw[h];rfl
  unfold jcn;rw[show DL.gName 0 d [x]=some [some d] from rfl];dsimp only [M.p];rw[e,(jr5 _ t)];rfl
def jt3(h:NL ds as)(hl:as.length<=1000):jcd [.lst ds]=oK (.lst (nmD as)):=by
 unfold jcd;rw[jdw];unfold jg9;rw[jb1 (by simp only[stp,(jr5 _ h),jbk (show (nmD as).length<=1000 by grind [nmD,List.length_map])];rfl)];rfl
def jyu(h:NL ds as)(hl:as.length<=1000)(hi:Ω[i]? = some (SO.lst ds)):jfp [.obj i] Ω=some (.ok (.lst (nmD as)),Ω):=by
 refine jmn ?_;have e:juy 1 [] (DL.gName 0) tYes jc8 [some (.obj i)] (.obj i) Ω=some (nmD as):=by
  unfold juy;dsimp only;rw[hi];show (jcn _ _ _ ds [none]).bind _=_;rw[(jr5 _ h)];show (if (nmD as).length<=sizeLine/\(nmD as).all _=true then some _ else none)=_;rw[if_pos ⟨by grind [nmD,List.length_map,sizeLine_eq],by rw[List.all_eq_true];intro x hx;obtain⟨y,_,rfl⟩:=zcv.mp hx;rfl⟩]
 show jgd ((juy 1 [] _ _ _ [some _] _ Ω).map _) _=_;rw[e];rfl
def jPf(h:jeo [.str t,l]=oK d):jb7 [.lst (nmD aa),.int 0,.str t,l] Ω=some (.ok d,Ω):=by
 refine jmn ?_;unfold jlh;have e:gIf (t2 gEq (vR 1) (cI 0)) (gRet (fCall jeo (jaa (vR 2) (jaa (vR 3) fNil)))) gNx [oN aa,oI 0,oS t,some l]=oK _:=jb1 h;show jgd (lF _ [oN _,oI 0,oS t,some l] Ω) _=_;rw[q_lf e,jah];rfl
def rpart1(h:jep [.lst (nmD aa),.str t,l] Ω=some (.ok d,Ω')):jb7 [.lst (nmD aa),.int 1,.str t,l] Ω=some (.ok d,Ω'):=by
 refine jmn ?_;refine (eseq (Y':=[oN _,oI 1,oS t,some l]) (q_lf rfl)).trans ?_;have e:eIf (lF (t2 gEq (vR 1) (cI 1))) (eRet (jcz jep (lF (jaa (vR 0) (jaa (vR 2) (jaa (vR 3) fNil)))))) eNx [oN aa,oI 1,oS t,some l] Ω=some (.ok (.rt d),Ω'):=by
  rw[s_if,s_b,q_lf (o:=true) rfl,jah,if_pos rfl,jqf,s_b,jf1,s_b,q_lf rfl,jah,h,jah,s_p]
 rw[jsk,s_b,e,jah];rfl
def rpart2(h:jfr [.lst (nmD aa),.str t,l] Ω=some (.ok d,Ω')):jb7 [.lst (nmD aa),.int 2,.str t,l] Ω=some (.ok d,Ω'):=by
 refine jmn ?_;refine (eseq (q_lf rfl)).trans ?_;refine (eseq (by rfl)).trans ?_;rw[jqf,s_b,jf1,s_b,q_lf rfl,jah,h,jah,s_p]
abbrev bT(n:Nat):D:=.tup [.obj n,.obj (n+1),.obj (n+2)]
structure BS(n:Nat)(Ω:Sto)(A B C:List D):Prop where
 a:Ω[n]? = some (SO.lst A)
 b:Ω[n+1]? = some (SO.lst B)
 c:Ω[n+2]? = some (SO.lst C)
def BS.res(h:BS n Ω A B C):rsT Ω (bT n)=some (.tup [.lst A,.lst B,.lst C]):=by
 have e1:rs1 Ω (.obj n)=oL A:=by unfold rs1;dsimp only;rw[h.a]
 have e2:rs1 Ω (.obj (n+1))=oL B:=by unfold rs1;dsimp only;rw[h.b]
 have e3:rs1 Ω (.obj (n+2))=oL C:=by unfold rs1;dsimp only;rw[h.c]
 show (((rs1 Ω _).bind fun x=>((rs1 Ω _).bind fun y=>((rs1 Ω _).bind _).map _).map _).map _)=_;rw[e1,e2,e3];rfl
def BS.kept(h:BS n Ω A B C)(k:Kept (n+3) Ω Ω'):BS n Ω' A B C:=⟨by rw[k.at' n (by lia)];exact h.a,by rw[k.at' _ (by lia)];exact h.b,by rw[k.at' _ (by lia)];exact h.c⟩
def jpq{n:Nat}{Ω:Sto}{bk x:D}{f:DSt->M D}{Y:DSt}(h0:rsT Ω (bT n)=some bk)(h:f (some bk::Y)=oK x)(hx:jM6 x=true):jfc 0 f (some (bT n)::Y) Ω=some (.ok x,Ω):=by
 show (match rsT Ω _ with|some d'=>MS.l ((f (some d'::Y)).b _) Ω|none=>none)=_;rw[h0];dsimp only;rw[h,M.b_ok,if_pos hx];rfl
def kwL:Nat->List Nat
 | 0=>[105,116,101,109]
 | 1=>[114,117,108,101]
 | _=>[100,101,101,100]
def jpt(p:Nat)(A B C:List D):List D:=match p with
 | 0=>A
 | 1=>B
 | _=>C
def jC6(a:List Nat)(aa:LL):gNotIn (sT a) (.lst (nmD aa))=some (.bl !(decide (a∈aa))):=by
 show (if (true&&(nmD _).all _)=true then some _ else none)=_;rw[if_pos (by rw[Bool.true_and,List.all_eq_true];intro x hx;obtain⟨y,_,rfl⟩:=zcv.mp hx;rfl),jrm]
def jCk(hp:p<=2):gIn (sT (kwL p)) (.tup [.str "item",.str "rule",.str "deed"])=some (.bl true):=by
 rcases p with _|_|_|p
 .rfl
 .rfl
 .rfl
 .lia
def jxp(hp:p<=2):idxS (St (kwL p)) ["item","rule","deed"] 0=some p:=by
 rcases p with _|_|_|p
 .decide +kernel
 .decide +kernel
 .decide +kernel
 .lia
def jRc(hp:p<=2)(A B C:List D):gIx (.tup [.lst A,.lst B,.lst C]) (.int (p:Nat))=oL (jpt p A B C):=by
 rcases p with _|_|_|p
 .rfl
 .rfl
 .rfl
 .lia
def jRb(hp:p<=2)(n:Nat):gIx (bT n) (.int (p:Nat))=some (.obj (n+p)):=by
 rcases p with _|_|_|p<;>simp_all
def BS.at'(hp:p<=2)(h:BS n Ω A B C):Ω[n+p]? = some (SO.lst (jpt p A B C)):=by
 rcases p with _|_|_|p
 .exact h.a
 .exact h.b
 .exact h.c
 .lia
def jKq(hp:p<=2)(h1:p<=1->C=[])(h0:p=0->B=[]):fL kAll (jaa (ja8 1 [] (jbs (fSl (vR 0) (jdn (f2 gCat (vR 4) (cI 1))) oNone)) (DL.gName 0) tYes jgk) fNil) [some (.tup [.lst A,.lst B,.lst C]),r,l,h,oI (p:Nat),none]=oK (.bl true):=by
 rcases p with _|_|_|p
 .rw[h1 (by lia),h0 rfl];rfl
 .rw[h1 (by lia)];rfl
 .rfl
 .lia
abbrev tl(n:Nat)(row:Str)(l:D)(x y z:Option D):DSt:=[some (bT n),oS row,some l,x,y,z]
def jLe(hp:p<=2)(hB:BS n Ω A B C)(h1:p<=1->C=[])(h0:p=0->B=[])(hn:n+3<=Ω.length)(hA:NL A na)(lA:na.length<=1000)(hS:NL (jpt p A B C) ns)(lS:ns.length<=1000)
  (ht:tx.length<=45000) (rp:jb7 [.lst (nmD na),.int (p:Nat),sT tx,l] Ω=some (.ok d,Ω1)) (k:Kept (n+3) Ω Ω1) (hd:gIx d (.int 0)=some (sT a)) (hm:a∉ns) :
  jes [bT n,sT (kwL p++([32]++tx)),l] Ω=some (.ok .non,Ω1.set (n+p) (.lst (jpt p A B C++[d]))):=by
 have hk:32∉kwL p/\(kwL p).length=4:=by
  rcases p with _|_|_|p
  .decide
  .decide
  .decide
  .lia
 have bm:=hB.kept k;show jes [bT n,D.str _,l] Ω=_;generalize hr:St _=row;have cp:gPart row (sT [32])=some (.tup [sT (kwL p),sT [32],sT tx]):=by rw[<- hr];exact (jlz hk.1 (by grind))
 generalize hH:(D.tup _)=Hv at cp;have H0:gIx Hv (.int 0)=some (sT (kwL p)):=by rw[<- hH];rfl
 have H2:gIx Hv (.int 2)=some (sT tx):=by rw[<- hH];rfl
 have fin:jfn (tl n row l none none none) Ω=some (.ok (.nx (tl n row l (some Hv) (oI (p)) (some d))),Ω1.set (n+p) (.lst (jpt p A B C++[d]))):=by
  unfold jfn;rw[eseq (q_lf (jbm 3 (jhm rfl rfl (cp))))];have c1:fCall jag (jaa (f2 gIn (f2 gIx (vR 3) (cI 0)) (fC (.tup [.str "item",.str "rule",.str "deed"]))) (jaa (vR 2) fNil)) (tl n row l (some Hv) none none)=oK .non:=by
   simp only[stp,H0,jCk hp];rfl
  refine (eseq (q_lf (jqz c1))).trans ?_;have c2:fIdx ["item","rule","deed"] (f2 gIx (vR 3) (cI 0)) (tl n row l (some Hv) none none)=oK (.int (p)):=by
   unfold fIdx;simp only[stp,H0,jxp hp];rfl
  refine (eseq (q_lf (jbm 4 c2))).trans ?_;have c3:jf6 (jgu jag (jbh (jfc 0 (fL kAll (jaa (ja8 1 [] (jbs (fSl (vR 0) (jdn (f2 gCat (vR 4) (cI 1))) oNone)) (DL.gName 0) tYes jgk) fNil))) (lF (jaa (vR 2) fNil)))) (tl n row l (some Hv) (oI (p)) none) Ω=some (.ok (.nx (tl n row l (some Hv) (oI (p)) none)),Ω):=by
   rw[jhu,s_b,joh,s_b,jfe,s_b,jpq hB.res (jKq hp h1 h0) rfl,jah];rfl
  refine (eseq c3).trans ?_;have c4:eSet 5 (jcz jb7 (jbh (jcz jfp (jbh (m2 gIx (lF (vR 0)) (lF (cI 0))) (lF fNil))) (lF (jaa (vR 4) (jaa (f2 gIx (vR 3) (cI 2)) (jaa (vR 2) fNil)))))) (tl n row l (some Hv) (oI (p)) none) Ω=some (.ok (.nx (tl n row l (some Hv) (oI (p)) (some d))),Ω1):=by
   have i1:jbh (m2 gIx (lF (vR 0)) (lF (cI 0))) (lF fNil) (tl n row l (some Hv) (oI (p)) none) Ω=some _:=rfl;have i2:jaa (vR 4) (jaa (f2 gIx (vR 3) (cI 2)) (jaa (vR 2) fNil)) (tl n row l (some Hv) (oI (p)) none)=oK [.int (p),sT tx,l]:=by
    simp only[stp,H2];rfl
   rw[jAd,s_b,jf1,s_b,jfe,s_b,jf1,s_b,i1,jah,jyu hA lA hB.a,jah,s_b,q_lf i2,jah,s_p,jah,rp,jah];rfl
  refine (eseq c4).trans ?_;have c5:f2 gNotIn (f2 gIx (vR 5) (cI 0)) (fCall jcd (jaa (f2 gIx (vR 0) (vR 4)) fNil)) [some (.tup [.lst A,.lst B,.lst C]),oS row,some l,some Hv,oI (p),some d]=oK (.bl true):=by
   simp only[stp,hd,jRc hp,jt3 hS lS,jC6,decide_eq_false hm];rfl
  have c6:jf6 (jgu jag (jbh (jfc 0 (f2 gNotIn (f2 gIx (vR 5) (cI 0)) (fCall jcd (jaa (f2 gIx (vR 0) (vR 4)) fNil)))) (lF (jaa (vR 2) fNil)))) (tl n row l (some Hv) (oI (p)) (some d)) Ω1=some (.ok (.nx (tl n row l (some Hv) (oI (p)) (some d))),Ω1):=by
   rw[jhu,s_b,joh,s_b,jfe,s_b,jpq bm.res c5 rfl,jah];rfl
  refine (eseq c6).trans ?_;have i3:m2 gIx (lF (vR 0)) (lF (vR 4)) (tl n row l (some Hv) (oI (p)) (some d)) Ω1=some (.ok (.obj (n+p)),Ω1):=by
   rw[s_2,s_b,q_lf rfl,jah,s_b,q_lf rfl,jah,jRb hp,s_o]
  have i4:chkL (.obj (n+p)) Ω1=some (.ok (.obj (n+p)),Ω1):=by unfold chkL;dsimp only;rw[bm.at' hp]
  have i5:putL (gApL d) (.obj (n+p)) Ω1=some (.ok .non,Ω1.set (n+p) (.lst (jpt p A B C++[d]))):=by
   unfold putL;dsimp only;rw[bm.at' hp];show ((if (jpt p A B C).length<sizeLine then some _ else none).map _)=_;rw[if_pos (by rw[hS.len,sizeLine_eq];lia)];rfl
  rw[jhu,s_b];unfold jyi;rw[s_b,i3,jah,s_b,i4,jah,s_b,q_lf rfl,jah,i5,jah];rfl
 show ((jfn (tl n row l _ _ _)).b _) Ω=_;rw[s_b,fin,jah];rfl
structure Ln where
 tx:List Nat
 d:D
 a:List Nat
structure LnOk(p:Nat)(aa:LL)(q:Ln):Prop where
 rd:∀ (na:LL) (l:D) (Ω:Sto),(p≠0->na=aa)->na.length<=1000->∃ Ω1,jb7 [.lst (nmD na),.int (p:Nat),sT q.tx,l] Ω=some (.ok q.d,Ω1)/\Kept Ω.length Ω Ω1
 nm:gIx q.d (.int 0)=some (sT q.a)
 len:q.tx.length<=45000
 no:10∉q.tx
def lnL(p:Nat)(q:Ln):List Nat:=kwL p++([32]++q.tx)
def BL(n:Nat)(Ω:Sto)(L:Nat->List D):Prop:=∀ q,q<=2->Ω[n+q]? = some (SO.lst (L q))
def upL(p:Nat)(L:Nat->List D)(ds:List D):Nat->List D:=fun q=>if q=p then L q++ds else L q
def jFp(hp:p<=2)(L:Nat->List D):jpt p (L 0) (L 1) (L 2)=L p:=by
 rcases p with _|_|_|p
 .rfl
 .rfl
 .rfl
 .lia
def BL.bs(h:BL n Ω L):BS n Ω (L 0) (L 1) (L 2):=⟨h 0 (by lia),h 1 (by lia),h 2 (by lia)⟩
def ens:Nat->LL->List D
 | _,[]=>[]
 | k,x::xs=>.tup [.int (k:Nat),sT x]::ens (k+1) xs
theorem jrh:∀ (xs ys:LL) (k:Nat),ens k (xs++ys)=ens k xs++ens (k+xs.length) ys
 | [],ys,k=>rfl
 | x::xs,ys,k=>by
  show _::ens _ (xs++ys)=_::(ens _ xs++ens (k+(xs.length+1)) ys)
  rw[jrh xs ys _,show k+1+xs.length=k+(xs.length+1) by lia]
abbrev rb(t:Str)(n:Nat)(x y:Option D):DSt:=[oS t,some (bT n),x,y]
theorem jum(hp:p<=2):∀ (ls:List Ln) (k:Nat) (L:Nat->List D) (na ns:LL) (x y:Option D) (Ω:Sto),(∀ q∈ls,LnOk p aa q)->BL n Ω L->n+3<=Ω.length->(p<=1->L 2=[])->(p=0->L 1=[])->NL (L 0) na->(p≠0->na=aa)->NL (L p) ns->(ns++ls.map (·.a)).Nodup->na.length+ls.length<=1000->ns.length+ls.length<=1000 ->
  ∃ x' y' Ω',(∀ es,forE jcr (jbe 2 3) (ens k (ls.map (lnL p))++es) (rb t n x y) Ω=forE jcr (jbe 2 3) es (rb t n x' y') Ω')/\BL n Ω' (upL p L (ls.map (·.d)))/\n+3<=Ω'.length/\NL (upL p L (ls.map (·.d)) p) (ns++ls.map (·.a))/\Kept n Ω Ω'
 | [],k,L,na,ns,x,y,Ω,_,hB,hn,_,_,_,_,hS,_,_,_=>⟨x,y,Ω,fun es=>rfl,fun q hq=>by
   unfold upL
   split
   .rw[List.map_nil,List.append_nil];exact hB q hq
   .exact hB q hq,hn,by unfold upL;rw[if_pos rfl,List.map_nil,List.append_nil,List.map_nil,List.append_nil];exact hS,Kept.refl _ _⟩
 | q::ls,k,L,na,ns,x,y,Ω,h,hB,hn,h1,h0,hA,hN,hS,hd,l1,l2=>by
  rw[List.length_cons] at l1 l2;have hq:=h q zaa;obtain⟨Ω1,rp,k1⟩:=hq.rd na (.int (k)) Ω hN (by lia);have tk:=jLe hp hB.bs h1 h0 hn hA (by lia) (by rw[jFp hp];exact hS) (by lia) hq.len rp (k1.mono hn) hq.nm (fun z=>(List.nodup_append.mp hd).2.2 q.a z q.a zaa rfl);rw[jFp hp] at tk;have bm:BL n (Ω1.set _ _) (upL p L [q.d]):=fun r hr=>by
   have le:=zdz hn k1.le;unfold upL
   by_cases e:r=p
   .subst e;rw[if_pos rfl,zcz (by lia)]
   .rw[if_neg e,zbw (by lia),k1.at' _ (by lia)];exact hB r hr
  have uu:upL p (upL p L [q.d]) (ls.map (·.d))=upL p L ((q::ls).map (·.d)):=by
   funext r
   unfold upL
   by_cases e:r=p
   .rw[if_pos e,if_pos e,if_pos e,List.append_assoc];rfl
   .rw[if_neg e,if_neg e,if_neg e]
  have hup:upL p L _ p=L p++[q.d]:=if_pos rfl;obtain⟨x',y',Ω2,e2,b2,n2,s2,k2⟩:=jum hp ls _ _ (if p=0 then na++[q.a] else na) _ _ _ _ (fun r hr=>h r (zaw _ hr)) bm (by rw[List.length_set];exact zdz hn k1.le)
   (fun z=>by unfold upL;rw[if_neg (by lia)];exact h1 z) (fun z=>by unfold upL;rw[if_neg (by lia)];exact h0 z)
   (by
    unfold upL
    by_cases e:p=0
    .subst e;exact hA.app hq.nm
    .rw[if_neg (fun z=>e z.symm),if_neg e];exact hA)
   (fun z=>by rw[if_neg z];exact hN z) (by rw[hup];exact hS.app hq.nm) (by rw[List.append_assoc];exact hd) (by
    by_cases e:p=0
    .rw[if_pos e,zcb];show na.length+1+_<=_;lia
    .rw[if_neg e];lia) (by simp;lia)
  refine⟨x',y',Ω2,fun es=>?_,by rw[<- uu];exact b2,n2,by rw[uu,List.append_assoc] at s2;exact s2,(((k1.mono (by lia)).trans (Kept.set (by lia))).trans k2)⟩
  .rw[<- e2 es];refine jcx (Y1:=rb t n _ _) rfl ?_;unfold jcr;have i1:jbh (lF (vR 1)) (lF (jaa (vR 3) (jaa (vR 2) fNil))) (rb t n (oI (k)) (some (sT (lnL p q)))) Ω=some _:=rfl;rw[jhu,s_b,jf1,s_b,i1,jah];have tk':jes [bT n,sT (lnL p q),.int _] Ω=_:=tk;rw[tk',jah];rfl
theorem jta:∀ (xs:LL) (k:Nat),jgn (k:Int) (nmD xs)=ens k xs
 | [],_=>rfl
 | x::xs,k=>by
  show D.tup _::jgn _ (nmD xs)=_;have:=jta xs (k+1);rw[Int.natCast_add] at this;rw[show ((k)+1)=(k)+((1:Nat):Int) from rfl,this];rfl
def jI0:Str.ofString "\n"=St [10]:=by decide +kernel
def jIv(hp:p<=2)(h:LnOk p aa q):10∉lnL p q:=fun z=>by
 rcases zdy.mp z with z|z
 .rcases p with _|_|_|p
  .revert z;decide
  .revert z;decide
  .revert z;decide
  .lia
 .rcases zdy.mp z with z|z
  .grind
  .exact h.no z
def jdx(li lr ld:List Ln):LL:=li.map (lnL 0)++(lr.map (lnL 1)++ld.map (lnL 2))
structure LsOk(li lr ld:List Ln):Prop where
 i:∀ q∈li,LnOk 0 (li.map (·.a)) q
 r:∀ q∈lr,LnOk 1 (li.map (·.a)) q
 d:∀ q∈ld,LnOk 2 (li.map (·.a)) q
 ni:(li.map (·.a)).Nodup
 nr:(lr.map (·.a)).Nodup
 nd:(ld.map (·.a)).Nodup
 zi:li.length<=100
 zr:lr.length<=100
 zd:ld.length<=100
 i1:1<=li.length
def jyf(h:LsOk li lr ld)(Ω:Sto):∃ x y Ω',forE jcr (jbe 2 3) (ens 0 (jdx li lr ld)) (rb t Ω.length none none) (Ω++[.lst [],.lst [],.lst []])=some (.ok (.nx (rb t Ω.length x y)),Ω')/\BS Ω.length Ω' (li.map (·.d)) (lr.map (·.d)) (ld.map (·.d))/\Kept Ω.length Ω Ω':=by
 have g1:=h.zi;have g2:=h.zr;have g3:=h.zd;obtain⟨x1,y1,Ω1,e1,b1,n1,s1,k1⟩:=jum (n:=Ω.length) (by lia) li 0 (fun _=>[]) [] [] _ _ (Ω++[.lst [],.lst [],.lst []]) h.i (fun q hq=>by
   grind) (by grind) (fun _=>rfl) (fun _=>rfl) .nil (fun z=>absurd rfl z) .nil h.ni (by simp;lia) (by simp;lia)
 obtain⟨x2,y2,Ω2,e2,b2,n2,s2,k2⟩:=jum (by lia) lr _ (upL 0 (fun _=>[]) (li.map (·.d))) _ [] x1 y1 Ω1 h.r b1 n1 (fun _=>rfl) (fun z=>by lia) s1 (fun _=>rfl) .nil h.nr (by rw[zav];lia) (by simp;lia);have bz:NL _ (li.map _):=s1;obtain⟨x3,y3,Ω3,e3,b3,n3,s3,k3⟩:=jum (by lia) ld _ _ _ [] x2 y2 Ω2 h.d b2 n2 (fun z=>by lia) (fun z=>by lia) bz (fun _=>rfl) .nil h.nd (by rw[zav];lia) (by simp;lia);refine⟨x3,y3,Ω3,?_,⟨b3 0 (by lia),b3 1 (by lia),b3 2 (by lia)⟩,(Kept.app (zac _)).trans (k1.trans (k2.trans k3))⟩;unfold jdx;rw[jrh,e1,jrh,e2];have:=e3 [];rw[List.append_nil] at this;rw[this];rfl
def jRp{as:LL}(h:as.Nodup):(as.map St).Nodup:=by
 unfold List.Nodup;rw[List.pairwise_map];exact h.imp fun bd e=>bd (jm8 e)
def jdz(b:Bk):List Int:=b.its.map (·.2)
def jAq(h:BkOk k b):∀ s∈jdz b,Bt 100 s:=fun s hs=>by
 obtain⟨p,hp,rfl⟩:=zcv.mp hs;exact h.st p hp
def jsq(b:Bk){fe:DSt->M D}(hf:∀ a,fe [some a]=M.o (gIx a (.int 1))):jcn (DL.gName 0) tYes fe (b.its.map itD) [none]=some ((jdz b).map .int):=by
 have:=jba (fe:=fe) (K:=itD) b.its none fun p _=>by rw[hf];rfl
 simp_all [jdz,List.map_map]
def jv2(h:BkOk k b):((jdz b).map D.int).length<=1000:=by
 unfold jdz;rw[zav,zav];have:=h.i4
 lia
def jq3{fa fb:DSt->M D}{Y:DSt}{d:D}(h:fa Y=some (.ok (.bl true)))(g:fb Y=some (.ok d)):fAnd fa fb Y=oK d:=by
 simp_all
def jHj{fa fb fc:DSt->M D}{Y:DSt}{a b c:Int}(h1:fa Y=some (.ok (.int a)))(h2:fb Y=some (.ok (.int b)))(h3:fc Y=some (.ok (.int c)))(g1:a<=b)(g2:b<=c):jfa gLe gLe fa fb fc Y=oK (.bl true):=by
 have e:∀ {x y:Int},x<=y->gLe (.int x) (.int y)=some _:=fun {x y} h=>by
  show some (D.bl (decide _))=_;rw[decide_eq_true h]
 unfold jfa;rw[h1,M.b_ok,h2,M.b_ok,e g1,h3,M.b_ok,e g2];rfl
def jGu{fe:DSt->M D}{c:DSt}{α:Type}{K:α->D}(xs:List α)(h:∀ x∈xs,fe (some (K x)::c)=oK (.bl true)):(∃ ds,jcn (DL.gName 0) tYes fe (xs.map K) (none::c)=some ds/\ds.length=xs.length/\kAll [.lst ds]=some (.bl true)):=by
 refine⟨_,jba xs _ h,zav ..,?_⟩;rw[jE0 xs _]
 grind
def jt2{α:Type}{f:α->List Nat}{xs:List α}(h:∀ i x,xs[i]? = some x->f x=nmS i m):xs.map f=(List.range xs.length).map fun i=>nmS i m:=by
 refine List.ext_getElem? fun i=>?_
 rw[zba,zba]
 cases hx:xs[i]? with
 | none =>
  rw[List.getElem?_eq_none (by rw[List.length_range];exact List.getElem?_eq_none_iff.mp hx)];rfl
 | some x =>
  rw[List.getElem?_range ((zbb.mp hx).1)];show some _=some _;rw[h i x hx]
def jjn{α:Type}{f:α->List Nat}{K:α->D}{xs:List α}(hK:∀ x,gIx (K x) (.int 0)=some (sT (f x)))(h:∀ i x,xs[i]? = some x->f x=nmS i m)(h1:1<=xs.length)(hn:xs.length<=n)(h7:n<=7):jeh [.lst (xs.map K),.int (n:Nat)]=oK (.bl true):=by
 have ec:=jba (c:=[]) (fe:=jc8) (K:=K) xs none fun x _=>by
  show M.o _=_;rw[hK];rfl
 have em:(xs.map fun x=>D.str (St (f x)))=nmD (xs.map f):=by unfold nmD;rw[List.map_map];rfl
 rw[em] at ec;have ln:(nmD (xs.map f)).length<=1000:=by unfold nmD;rw[zav,zav];lia
 have nl:jcd [.lst (xs.map K)]=oK (.lst (nmD (xs.map f))):=by
  unfold jcd;rw[jdw];unfold jg9;rw[jb1 (by simp only[stp,ec,jbk ln];rfl)];rfl
 have ne:=jt2 h;have nd:(xs.map f).Nodup:=by rw[ne];exact jt5 (by lia) m
 have en:nmD (xs.map f)=((xs.map f).map St).map .str:=by unfold nmD;rw[List.map_map,List.map_map,List.map_map];rfl
 obtain⟨ds,a1,a2,a3⟩:=jGu (fe:=jgf) (c:=[]) (K:=fun a=>D.str (St a)) (xs.map f) (fun s hs=>by
  rw[ne] at hs;obtain⟨i,hi,rfl⟩:=zcv.mp hs;have:=zcc.mp hi;unfold jgf;simp only[stp,(jlx ((jyw m).1 i (by lia)))])
 unfold jeh;rw[jd5];unfold jhy;rw[jao (Y':=[oL _,oI _,oN _]) (by rw[jbm 2 (d:=.lst (nmD (xs.map f))) (by simp_all)];rfl),jb1 ?_]
 .rfl
 .refine jq3 (jHj rfl (by unfold oN nmD;simp only[stp,zav];rfl) rfl (by lia) (by lia)) (jq3 ?_ ?_)
  .unfold oN nmD;simp only[stp,a1,jbk (show ds.length<=1000 by grind),a3];rfl
  .unfold oN;rw[en]
   simp only[stp,(jCt (jRp nd) (by rw[zav,zav];lia)),zav,beq_self_eq_true];rfl
def ju6(hb:BkOk k b):jiu [bkD b]=oK (.bl true):=by
 obtain⟨m1,h1⟩:=hb.im;obtain⟨m2,h2⟩:=hb.rl;obtain⟨m3,h3⟩:=hb.dd;have r5:=hb.r5;have d6:=hb.d6;have ar:jic [bkD b]=oK (.bl true):=by
  obtain⟨ds,a1,a2,a3⟩:=jGu (fe:=jgg) (c:=[oI (b.its.length)]) (K:=rulD) b.rls (fun r hr=>by
   obtain⟨i,hi⟩:=List.getElem?_of_mem hr;unfold jgg;simp only[stp,rl1,zav,((h2 i r hi).len),beq_self_eq_true];rfl)
  unfold jic;rw[jdw];unfold jhz;rw[jao (Y':=[some _,oI _]) (by rw[jbm 1 (by simp only[stp,zav];rfl)];rfl),jb1 (jq3 ((jjn rl0 (fun i r h=>(h2 i r h).nm) hb.r1 hb.r5 (by decide))) (by simp only[stp,a1,jbk (show ds.length<=1000 by lia),a3];rfl))];rfl
 have ad:jib [bkD b]=oK (.bl true):=by
  obtain⟨ds,a1,a2,a3⟩:=jGu (fe:=jjw) (c:=[oI (b.its.length)]) (K:=dedD) _ (fun d hr=>by
   obtain⟨i,hi⟩:=List.getElem?_of_mem hr;have e1:gIx (dedD d) (.int 1)=oI _:=rfl;have e2:gIx (dedD d) (.int 2)=oI _:=rfl;have e3:gIx (dedD d) (.int 3)=some _:=rfl;have e4:gLe (.int d.lo) (.int d.hi)=some (.bl true):=by
    show some (D.bl (decide _))=_;rw[decide_eq_true ((h3 i d hi).lh)]
   refine jq3 ?_ ?_
   .simp only[stp,e3,zav,((h3 i d hi).len),beq_self_eq_true];rfl
   .simp only[stp,e1,e2,e4];rfl)
  unfold jib;rw[jdw];unfold jhx;rw[jao (Y':=[some _,oI _]) (by rw[jbm 1 (by simp only[stp,zav];rfl)];rfl),jb1 (jq3 ((jjn (fun x=>rfl) (fun i r h=>(h3 i r h).nm) hb.d1 hb.d6 (by decide))) (by simp only[stp,a1,jbk (show ds.length<=1000 by lia),a3];rfl))];rfl
 unfold jiu;rw[jdw];unfold jlc;rw[jb1 (jq3 ((jjn (fun x=>rfl) h1 hb.i1 hb.i4 (by decide))) (jq3 (ar) (ad)))];rfl
def jqp(hb:BkOk k b):jfu [bkD b]=oK (.tup ((jdz b).map .int)):=by
 unfold jfu;rw[jdw];unfold jia;rw[jb1 (by simp only[stp,(jsq b (fe:=jjy) fun a=>rfl),jbk (jv2 hb)];rfl)];rfl
def lt0(i:Int):gLt (.int i) (.int 0)=some (.bl (decide (i<0))):=rfl
def jBi(hb:BkOk k b)(hS:BS n Ω (b.its.map itD) (b.rls.map rulD) (b.dds.map dedD))(hr:b.rls[i]? = some r):jbr [some (bT n),some (.tup ((jdz b).map .int)),oI (i:Nat),some (rulD r)] Ω=some (.ok (.nx [some (bT n),some (.tup ((jdz b).map .int)),oI (i:Nat),some (rulD r)]),Ω):=by
 obtain⟨_,h2⟩:=hb.rl;have R:=h2 i r hr;have e2:mB (m2 gLt (jfc 0 (fCall jn0 (jaa (vR 0) (jaa (vR 2) (jaa (vR 1) fNil))))) (lF (cI 0))) [some (bT n),some (.tup ((jdz b).map .int)),oI (i),some (rulD r)] Ω=some (.ok false,Ω):=by
  rw[s_B,s_b,s_2,s_b,(jpq hS.res ((jEh hr R.bt (jAq hb) (by rw[R.len];exact hb.i4))) rfl),jah,s_b,q_lf rfl,jah,lt0,s_o,jah,decide_eq_false (by have:=R.kp;unfold jdz;lia)];rfl
 unfold jbr;rw[s_if,s_b,e2,jah,if_neg nofun];rfl
theorem jsx(hb:BkOk k b)(hS:BS n Ω (b.its.map itD) (b.rls.map rulD) (b.dds.map dedD)):∀ (m i f:Nat) (x y:Option D),i+m=b.rls.length->∃ x' y',forL kEn jbr (jbe 2 3) (n+1) (f+m+1) i [some (bT n),some (.tup ((jdz b).map .int)),x,y] Ω=some (.ok (.nx [some (bT n),some (.tup ((jdz b).map .int)),x',y']),Ω)
 | 0,i,f,x,y,h=>⟨x,y,by
  unfold forL;rw[hS.b];dsimp only;rw[List.getElem?_eq_none (by rw[zav];lia)]⟩
 | m+1,i,f,x,y,h=>by
  obtain⟨r,hr⟩:∃ r,b.rls[i]? = some r:=⟨b.rls[i],zax _⟩
  obtain⟨x',y',ih⟩:=jsx hb hS m (i+1) f _ _ (by lia);refine⟨x',y',?_⟩;unfold forL;rw[hS.b];dsimp only;rw[zba,hr];show ((jbr [some _,some _,oI _,some _]).b _) Ω=_;rw[s_b,jBi hb hS hr,jah];exact ih
def jHk(hb:BkOk k b)(hS:BS n Ω (b.its.map itD) (b.rls.map rulD) (b.dds.map dedD)):je1 [bT n] Ω=some (.ok .non,Ω):=by
 have r5:=hb.r5;obtain⟨f,hf⟩:∃ f,FUEL=f+b.rls.length+1:=⟨FUEL-b.rls.length-1,by rw[jq1];lia⟩
 obtain⟨x',y',lp⟩:=jsx hb hS b.rls.length 0 f _ _ (by lia);have e2:jfc 0 (fCall jfu (jaa (vR 0) fNil)) [some _] Ω=some _:=jpq hS.res ((jqp hb)) (by
  show ((jdz b).map _).all _=true;rw[List.all_eq_true];intro z hz;obtain⟨w,_,rfl⟩:=zcv.mp hz;rfl)
 have e3:jeq [bT n,.tup ((jdz b).map .int)] Ω=some (.ok .non,Ω):=by
  show ((jeb [some _,some _,none,none]).b _) Ω=_;have:jeb [some (bT n),some (.tup ((jdz b).map .int)),none,none] Ω=some (.ok (.nx [some (bT n),some (.tup ((jdz b).map .int)),x',y']),Ω):=by
   have i2:chkL (.obj (n+1)) Ω=some (.ok (.obj (n+1)),Ω):=by unfold chkL;dsimp only;rw[hS.b]
   show ((chkL _).b _) Ω=_;rw[s_b,i2,jah,hf];exact lp
  rw[s_b,this,jah];rfl
 show ((jez [some _]).b _) Ω=_;have:jez [some (bT n)] Ω=some (.ok (.nx [some (bT n)]),Ω):=by
  unfold jez;have c1:eIf (mNot (mTru (jfc 0 (fCall jiu (jaa (vR 0) fNil))))) (lF gNever) eNx [some (bT n)] Ω=some (.ok (.nx [some (bT n)]),Ω):=by
   rw[s_if,s_b,jKv,s_b,jKw,s_b,(jpq hS.res ((ju6 hb)) rfl),jah];rfl
  rw[eseq c1,jhu,s_b,jf1,s_b,jfe,s_b,q_lf rfl,jah,s_b,jfe,s_b,e2,jah];show jgd (jgd (some _) _) _=_;rw[jah,e3,jah];rfl
 simp_all
def jr4(Y:DSt)(Ω:Sto):jpw (lF fNil) Y Ω=some (.ok (.obj Ω.length),Ω++[.lst []]):=by
 rfl
structure LsB(b:Bk)(li lr ld:List Ln):Prop where
 ok:LsOk li lr ld
 ei:li.map (·.d)=b.its.map itD
 er:lr.map (·.d)=b.rls.map rulD
 ed:ld.map (·.d)=b.dds.map dedD
def jo0(hb:BkOk k b)(h:LsB b li lr ld)(hl:(jap [10] (jdx li lr ld)).length<=50000)(Ω:Sto):∃ Ω',jde [sT (jap [10] (jdx li lr ld))] Ω=some (.ok (bT Ω.length),Ω')/\BS Ω.length Ω' (b.its.map itD) (b.rls.map rulD) (b.dds.map dedD)/\Kept Ω.length Ω Ω':=by
 have g1:=h.ok.zi;have g2:=h.ok.zr;have g3:=h.ok.zd;have g4:=h.ok.i1;have bd:jdx li lr ld≠[]:=by
  intro z;have:=congrArg List.length (List.append_eq_nil_iff.mp z).1;rw[zav,List.length_nil] at this
  lia
 have sp:=jkv rfl (fun p hp=>by
  rcases zdy.mp hp with hp|hp
  .obtain⟨q,hq,rfl⟩:=zcv.mp hp;exact jIv (by lia) (h.ok.i q hq)
  .rcases zdy.mp hp with hp|hp
   .obtain⟨q,hq,rfl⟩:=zcv.mp hp;exact jIv (by lia) (h.ok.r q hq)
   .obtain⟨q,hq,rfl⟩:=zcv.mp hp;exact jIv (by lia) (h.ok.d q hq)) bd hl (by grind [jdx])
 unfold sT;generalize St _=t at sp;obtain⟨x,y,Ω1,e1,b1,k1⟩:=jyf h.ok Ω;rw[h.ei,h.er,h.ed] at b1;refine⟨Ω1,?_,b1,k1⟩;refine jmn ?_;show jh6 [oS t,none,none,none] Ω=_;unfold jh6;have c1:eSet 1 (mL ja1 (jbh (jpw (lF fNil)) (jbh (jpw (lF fNil)) (jbh (jpw (lF fNil)) (lF fNil))))) [oS t,none,none,none] Ω=some (.ok (.nx (rb t Ω.length none none)),Ω++[.lst [],.lst [],.lst []]):=by
  rw[jAd,s_b,s_L,s_b,jfe,s_b,jr4,jah,s_b,jfe,s_b,jr4,jah,s_b,jfe,s_b,jr4,jah,s_b,q_lf rfl,jah,s_p,jah,s_p,jah,s_p,jah,zcb,zcb,List.append_assoc,List.append_assoc,zcb];rfl
 rw[eseq c1];have c2:eFor (lF (jby jcw (jaa (fSm gSplit (vR 0) (cS "\n")) fNil))) (jbe 2 3) jcr (rb t Ω.length none none) (Ω++[.lst [],.lst [],.lst []])=some (.ok (.nx (rb t Ω.length x y)),Ω1):=by
  have i1:jby jcw (jaa (fSm gSplit (vR 0) (cS "\n")) fNil) (rb t Ω.length none none)=oK (ens 0 (jdx li lr ld)):=by
   unfold jby;rw[jce,(jhm rfl rfl (sp)),M.b_ok];show M.o (some (jgn ((0:Nat)) _))=_;rw[jta];rfl
  rw[jD6,s_b,q_lf i1,jah];exact e1
 rw[eseq c2];have c3:jf6 (jcz je1 (jbh (lF (vR 1)) (lF fNil))) (rb t Ω.length x y) Ω1=some (.ok (.nx (rb t Ω.length x y)),Ω1):=by
  have i1:jbh (lF (vR 1)) (lF fNil) (rb t Ω.length x y) Ω1=some _:=rfl;rw[jhu,s_b,jf1,s_b,i1,jah,(jHk hb b1),jah];rfl
 rw[eseq c3];rfl
def jyz(h:v<10 ^ 31):jaz [.int (v:Nat)]=oK (sT (dg v)):=by
 have:=jt8 (v:=((v))) (h);exact this
def jM3(x:List Nat):gEq (sT x) (sT [])=some (.bl (decide (x=[]))):=jB9 x []
def jss(h:v<10 ^ 31)(ha:a.length<=40):jft [.int (v:Nat),sT a]=oK (sT (jik v a)):=by
 have dl:=je9 h;unfold jft;rw[jd5];unfold jfm jik
 by_cases q:v=1
 .subst q;rfl
 .have hq:(((v):Int) == 1)=false:=beq_eq_false_iff_ne.mpr (by lia);simp only[stpA,hq,jyz h,jNs,(jex (b:=[42]) (by simp;exact zdz (by assumption) (by decide))),(jex (a:=dg v++[42]) (b:=a) (by simp;lia))];rw[if_neg q,List.append_assoc];rfl
def jm5(hx:x.length<=10000)(hb:b.length<=10000):jfv [sT x,.int c,sT b]=oK (sT (addP x (decide (c<0)) b)):=by
 have te:DL.t2 gEq (vR 0) (cS (Str.ofString "")) [some (sT x),oI c,some (sT b)]=oK (decide (x=[])):=by
  simp only[stpA,jpu,jM3];rfl
 suffices hh:jee _=oK (.rt _) by
  show (jee [some _,oI c,some _]).b _=_;rw[hh,M.b_ok];rfl
 unfold jee addP
 by_cases h:x=[]
 .rw[if_pos h,jP8 (by grind) ?_]
  cases hc:decide (c<0) with
  | true=>simp only[stpA,hc,jlq,(jex (a:=[45]) (b:=b) (by simp;lia))];rfl
  | false=>simp only[stpA,hc];rfl
 .rw[jmf (by grind),if_neg h]
  cases hc:decide (c<0) with
  | true =>
   simp only[stpA,hc,jFq,(jex (a:=x) (b:=[32,45,32]) (by simp;exact zdz (by assumption) (by decide))),(jex (a:=x++[32,45,32]) (b:=b) (by simp;lia))];rw[List.append_assoc];rfl
  | false =>
   simp only[stpA,hc,jFr,(jex (a:=x) (b:=[32,43,32]) (by simp;exact zdz (by assumption) (by decide))),(jex (a:=x++[32,43,32]) (b:=b) (by simp;lia))];rw[List.append_assoc];rfl
theorem jm3(A B:Option D):∀ (ps:List (List Nat×Int)) (x:List Nat) (e f:Option D),(∀ p∈ps,p.1.length<=40/\p.2.natAbs<10 ^ 31)->x.length+100*ps.length<=5000 ->
  ∃ e' f',forD jf7 (jbe 3 4) (ps.map jze) [A,B,some (sT x),e,f]=nX [A,B,some (sT (ps.foldl jdf x)),e',f']
 | [],x,e,f,_,_=>⟨e,f,rfl⟩
 | p::ps,x,e,f,hp,hx=>by
  obtain⟨p1,p2⟩:=hp p zaa;rw[List.length_cons] at hx;have hl:(jdf x p).length<=x.length+100:=by
   unfold jdf
   split
   .exact Nat.le_add_right _ _
   .have:=jkk x (decide (p.2<0)) (jik p.2.natAbs p.1);have:=jkl p2 p1
    lia
  obtain⟨e',f',ih⟩:=jm3 A B ps (jdf x p) _ _ (fun q hq=>hp q (zaw _ hq)) (by lia);refine⟨e',f',?_⟩;rw[List.map_cons,List.foldl_cons,jir (Y1:=[A,B,some _,some _,oI p.2]) (Y2:=[A,B,some (sT (jdf x p)),some _,oI p.2]) rfl (by
   have t0:DL.t2 gNe (vR 4) (cI 0) [A,B,some (sT x),some (sT p.1),oI p.2]=oK (!(p.2 == 0)):=by rfl
   unfold jf7 jdf
   by_cases q:p.2=0
   .rw[if_pos q];exact jg6 (by rw[t0,q];rfl)
   .rw[if_neg q,w_if (by rw[t0,beq_eq_false_iff_ne.mpr q]),if_pos (by decide)];refine jbm 2 ?_;simp only[stpA,jou,jss p2 p1,jm5 (x:=x) (by lia) (by have:=jkl p2 p1;exact zdz (by assumption) (by decide))])]
  exact ih
def jun(hn:aa.length<=10)(hN:∀ a∈aa,a.length<=40)(h:FOk aa.length f):jfs [.lst (nmD aa),fm f]=oK (sT (jbw aa f)):=by
 have hz:(aa.zip f.1).length<=10:=by rw[List.length_zip];lia
 obtain⟨e',f',ef⟩:=jm3 _ _ _ [] _ _ (jq0 hN h) (by simp;lia);have fl:=jko _ [] (jq0 hN h);have zz:jbl [.lst (nmD aa),.tup (f.1.map .int)]=some ((aa.zip f.1).map jze):=by rw[jBd,jF0]
 let x:=(aa.zip f.1).foldl jdf []
 have xl:=by have:([]:List Nat).length=0:=rfl;show ((aa.zip f.1).foldl jdf []).length<=1000;lia
 let y:=if f.2=0 then x else addP x (decide (f.2<0)) (dg f.2.natAbs)
 have dl:=je9 h.r;unfold jfs;rw[jd5]
 suffices hh:jfl _=oK (.rt _) by
  rw[hh,M.b_ok];rfl
 unfold jfl;rw[jao (jbm 2 (kC jpu)),jao (by
  rw[jor (by
   simp only[jrf,jce,jxc,jrg,e_2,e_C,M.o_some,M.b_p,List.set_cons_succ,List.getElem?_cons_zero,List.getElem?_cons_succ,Option.join_some,(fm0' f),zz];rfl)]
  exact ef)]
 have st:gIf (DL.t2 gNe (f2 gIx (vR 1) (cI 1)) (cI 0)) (gSet 2 (fCall jfv (jaa (vR 2) (jaa (f2 gIx (vR 1) (cI 1)) (jaa (fCall jaz (jaa (fL kAbs (jaa (f2 gIx (vR 1) (cI 1)) fNil)) fNil)) fNil))))) gNx [oN aa,of f,some (sT x),e',f']=nX [oN aa,of f,some (sT y),e',f']:=by
  have t0:DL.t2 gNe (f2 gIx (vR 1) (cI 1)) (cI 0) [oN aa,of f,some (sT x),e',f']=oK (!(f.2 == 0)):=by
   rfl
  by_cases q:f.2=0
  .have:y=x:=if_pos q;rw[this];exact jg6 (by grind)
  .have:y=addP x _ _:=if_neg q;rw[this,w_if (by rw[t0,beq_eq_false_iff_ne.mpr q]),if_pos (by decide)];refine jbm 2 ?_;simp only[jj0,jce,jxc,e_L,e_2,jrg,e_C,List.getElem?_cons_zero,List.getElem?_cons_succ,Option.join_some,M.o_some,M.b_p,M.b_ok,(fm1' f),jou,jyz h.r,jm5 (x:=x) (zdz (by assumption) (by decide)) (zdz (by assumption) (by decide))]
 rw[jao st];refine jb1 ?_;have te:DL.t2 gEq (vR 2) (cS (Str.ofString "")) [oN aa,of f,some (sT y),e',f']=oK (decide (y=[])):=by
  simp only[e_t2,jrg,e_C,List.getElem?_cons_zero,List.getElem?_cons_succ,Option.join_some,M.o_some,M.b_p,jpu,jM3];rfl
 rw[e_if,te,M.b_ok];have hs:jbw _ f=if y=[] then [48] else y:=rfl
 by_cases q:y=[]
 .rw[hs,decide_eq_true q,if_pos rfl,if_pos q];rfl
 .rw[hs,decide_eq_false q,if_neg nofun,if_neg q];rfl
theorem jtq(ag:List Nat):∀ ps:LL,Str.join (St ag) (ps.map St)=St (jap ag ps)
 | []=>rfl
 | [p]=>rfl
 | p::q::r=>by
  have ih:=jtq ag (q::r);rw[List.map_cons] at ih;show St p++St ag++Str.join _ (St q::r.map St)=_;rw[ih,ji2,ji2,List.append_assoc];rfl
def jkr(h:(ps.map (·.length)).sum+ps.length*ag.length<=16777216):jgp (St ag) (.lst (nmD ps))=some (sT (jap ag ps)):=by
 show (match strsD _ with|some ys=>_|none=>none)=_;rw[jsr];dsimp only;have e:((ps.map St).map (·.length))=ps.map (·.length):=by
  rw[List.map_map];exact List.map_congr_left fun p _=>jbi p
 rw[if_pos (by grind [List.length_map,jbi]),show Txt.join _ _=St _ from (StrLaws.glued_eq_join _ _).trans (jtq ag ps)]
theorem jkw:∀ {ps:LL},(∀ p∈ps,p.length<=k)->(ps.map (·.length)).sum<=ps.length*k
 | [],_=>Nat.zero_le _
 | p::ps,h=>by
  have a:=h p zaa;have b:=jkw fun q hq=>h q (zaw _ hq)
  rw[List.map_cons,List.sum_cons,List.length_cons,Nat.succ_mul]
  lia
def jx7:Str.ofString "item "=St (kwL 0++[32]):=by decide +kernel
def jx8:Str.ofString "rule "=St (kwL 1++[32]):=by decide +kernel
def jx6:Str.ofString "deed "=St (kwL 2++[32]):=by decide +kernel
def jNj:Str.ofString " >= 0"=St [32,62,61,32,48]:=by decide +kernel
def l_n:Str.ofString "n"=St [110]:=by decide +kernel
def jNk:Str.ofString " n "=St [32,110,32]:=by decide +kernel
def itX(p:List Nat×Int):List Nat:=p.1++(32::numT p.2)
def jEd(ha:p.1.length<=40)(h:p.2.natAbs<10 ^ 31):jj7 [itD p]=oK (sT (kwL 0++([32]++itX p))):=by
 have nl:=jb0 h;exact jz5 (cats [(f2 gIx _ _,p.1),(cS " ",[32]),(fCall _ (jaa (f2 gIx (vR 0) (cI 1)) _),numT p.2)] (kC jx7) ⟨jdl rfl rfl rfl,kC jjg,jpe (jdl rfl rfl rfl) (jt8 h),trivial⟩ (by simp[flt,kwL];lia))
def ruX(aa:LL)(r:Rul):List Nat:=r.nm++([58,32]++((jbw aa (r.cs,r.rest)++[32])++([62,61]++[32,48])))
def jEj(hn:aa.length<=10)(hN:∀ a∈aa,a.length<=40)(ha:r.nm.length<=40)(h:FOk aa.length (r.cs,r.rest)):jj8 [.lst (nmD aa),rulD r]=oK (sT (kwL 1++([32]++ruX aa r))):=by
 have sl:=jg4 hn hN h;refine (jz5 (cats [(f2 gIx _ _,r.nm),(cS _,[58,32]),(fCall _ _,jbw _ _),(cS _,[32,62,61,32,48])] (kC jx8) ⟨jdl rfl rfl (rl0 r),kC jvc,jpf rfl (jFi (jdl rfl rfl (rl1 r)) (jdl rfl rfl (rl2 r))) (jun hn hN h),kC jNj,trivial⟩ (by simp[flt,kwL];lia))).trans ?_;simp only[ruX,List.append_assoc];rfl
def chQ(q:List Nat×(Int×Int)):D:=.tup [sT q.1,chD q.2]
def jwx(aa:LL)(chs:List (Int×Int)):zipD (nmD aa) (chs.map chD)=(aa.zip chs).map chQ:=jmg _ chD _ chs
def addO(ps:LL):Option (List Nat)->LL
 | some t=>ps++[t]
 | none=>ps
theorem jny{g:DSt->M Out}{tg:D->DSt->Option DSt}{mk:LL->Option D->Option D->DSt}{F:List Nat×(Int×Int)->Option (List Nat)}(cv:∀ q ps x y,tg (chQ q) (mk ps x y)=some (mk ps (some (sT q.1)) (some (chD q.2)))) :
  ∀ (qs:List (List Nat×(Int×Int))) (ps:LL) (x y:Option D),(∀ q∈qs,∀ ps:LL,ps.length<=100->g (mk ps (some (sT q.1)) (some (chD q.2)))=nX (mk (addO ps (F q)) (some (sT q.1)) (some (chD q.2))))->ps.length+qs.length<=100 ->
  ∃ x' y',forD g tg (qs.map chQ) (mk ps x y)=nX (mk (ps++qs.filterMap F) x' y')
 | [],ps,x,y,_,_=>⟨x,y,by rw[List.filterMap_nil,List.append_nil];rfl⟩
 | q::qs,ps,x,y,h,hl=>by
  rw[List.length_cons] at hl;have ll:(addO ps (F q)).length<=ps.length+1:=by
   cases F q with
   | none=>exact Nat.le_succ _
   | some t=>show (ps++[t]).length<=_;grind
  obtain⟨x',y',ih⟩:=jny cv qs (addO ps (F q)) _ _ (fun r hr=>h r (zaw _ hr)) (by lia);refine⟨x',y',?_⟩;have e2:addO ps (F q)++qs.filterMap F=ps++(q::qs).filterMap F:=by
   cases hF:F q with
   | none=>rw[List.filterMap_cons_none hF];rfl
   | some t=>rw[List.filterMap_cons_some hF];show (ps++[t])++_=_;grind
  rw[List.map_cons,jir (cv q ps x y) (h q zaa ps (by lia)),ih,e2]
def jRr(c:Int×Int):gNe (chD c) (.tup [.int 0,.int 0])=some (.bl !(decide (c=(0,0)))):=by
 show some (D.bl !(((c.1 == 0)&&((c.2 == 0)&&true))))=_;obtain⟨a,b⟩:=c
 by_cases h1:a=0<;>by_cases h2:b=0<;>simp[h1,h2]
def shF(u:List Nat)(c:Int×Int):List Nat:=jbw [u] ([c.1],c.2)
def wF(u:List Nat)(q:List Nat×(Int×Int)):List Nat:=q.1++([32]++shF u q.2)
structure CkOk(aa:LL)(chs:List (Int×Int)):Prop where
 n10:aa.length<=10
 nl:∀ a∈aa,Nm a
 cn:∀ c∈chs,c.1.natAbs<10 ^ 31/\c.2.natAbs<10 ^ 31
def CkOk.at'(h:CkOk aa chs)(hq:q∈aa.zip chs):Nm q.1/\FOk 1 ([q.2.1],q.2.2):=by
 have c:=h.cn _ (zca hq).2;exact⟨h.nl _ (zca hq).1,⟨rfl,fun x hx=>by grind,c.2⟩⟩
def jqj(hu:Nm u)(h:FOk 1 ([c.1],c.2)):(shF u c).length<=5000:=jg4 (by simp) (fun a ha=>by rw[zdx.mp ha];exact zdz hu.le (by decide)) h
theorem jSp(hu:Nm u)(h:CkOk aa chs)(hq:q∈aa.zip chs):(wF u q).length<=5100:=by
 obtain⟨h1,h2⟩:=h.at' hq;have:=jqj hu h2;have:=h1.le
 grind [wF]
def nm_n:Nm [110]:=jm4 rfl
def selF(u:List Nat)(q:List Nat×(Int×Int)):Option (List Nat):=if q.2=(0,0) then none else some (wF u q)
def chX(u:List Nat)(aa:LL)(chs:List (Int×Int)):LL:=(aa.zip chs).filterMap (selF u)
def chTx(ws:LL):List Nat:=if ws=[] then [45] else jap [44,32] ws
def jne(hu:Nm u)(h:CkOk aa chs):(chX u aa chs).length<=10/\∀ w∈chX u aa chs,w.length<=5100:=by
 refine⟨zdz (List.length_filterMap_le _ _) (by rw[List.length_zip];have:=h.n10;lia),fun w hw=>?_⟩;obtain⟨q,hq,e⟩:=List.mem_filterMap.mp hw
 grind [selF,jSp]
def jnd(hu:Nm u)(h:CkOk aa chs):(chTx (chX u aa chs)).length<=51020:=by
 obtain⟨h1,h2⟩:=jne hu h;unfold chTx
 split
 .decide
 .have:=jfo h2
  lia
def jQo(hv:vR i Y=oK (.lst (nmD ws))):t2 gEq (vR i) (fL jar fNil) Y=oK (decide (ws=[])):=by
 unfold t2;rw[hv,M.b_ok];show (match gEq _ _ with|some (.bl b)=>M.p b|_=>none)=_;rw[jtd];rfl
def jq9{m:List D->M D}{Y:DSt}{fu fc:DSt->M D}{u:List Nat}{c:Int×Int}(hm:m [.lst [sT u],.tup [.tup [.int c.1],.int c.2]]=oK (sT (shF u c)))(h1:fu Y=oK (sT u))(h2:fc Y=oK (chD c)) :
  fCall m (jaa (fL jar (jaa fu fNil)) (jaa (fL ja1 (jaa (fL ja1 (jaa (f2 gIx fc (cI 0)) fNil)) (jaa (f2 gIx fc (cI 1)) fNil))) fNil)) Y=oK (sT (shF u c)):=jpf (jho h1 rfl) (jFi (jho (jdl h2 rfl rfl) rfl) (jdl h2 rfl rfl)) hm
def jJq(h:(Y[i]?).join=some (chD c)):t2 gNe (vR i) (fL ja1 (jaa (cI 0) (jaa (cI 0) fNil))) Y=oK (!(decide (c=(0,0)))):=by
 unfold t2;rw[jBa h,M.b_ok];show (match gNe (chD c) (.tup [.int 0,.int 0]) with|some (.bl b)=>M.p b|_=>none)=_;rw[jRr];rfl
def jNe(h:ws.length<=10/\∀ w∈ws,w.length<=5100):jgp (St [44,32]) (.lst (nmD ws))=some (sT (jap [44,32] ws)):=jkr (by
 have js:=jkw h.2;simp only[List.length_cons,List.length_nil]
 lia)
abbrev sg(aa:LL)(chs:List (Int×Int))(ps:LL)(x y:Option D):DSt:=[oN aa,some (.tup (chs.map chD)),oN ps,x,y]
def jK0(h:CkOk aa chs):jer [.lst (nmD aa),.tup (chs.map chD)]=oK (sT (chTx (chX [110] aa chs))):=by
 obtain⟨x',y',lp⟩:=jny (g:=jdp) (tg:=jbe 3 4) (F:=selF _) (fun q ps x y=>rfl) _ [] _ _ (fun q hq ps hl=>by
  obtain⟨h1,h2⟩:=h.at' hq;have nl:=h1.le;have sl:=jqj nm_n h2;have t0:=jJq (i:=4) (c:=q.2) (Y:=sg aa chs ps (some (sT q.1)) _) rfl;unfold jdp selF
  by_cases hz:q.2=(0,0)
  .rw[if_pos hz];exact jg6 (by rw[t0,decide_eq_true hz];rfl)
  .rw[if_neg hz,w_if (by rw[t0,decide_eq_false hz]),if_pos (by decide)];exact jmr (cats [(cS " ",[32]),(_,shF _ q.2)] rfl ⟨kC jjg,jq9 (fc:=vR 4) (jun (aa:=[[110]]) (by simp) (fun a ha=>by rw[zdx.mp ha];decide) h2) (kC l_n) rfl,trivial⟩ (by simp[flt];lia)) rfl (by lia)) (by have:=h.n10;simp;lia)
 unfold jer;rw[jd5];unfold jec;rw[jao rfl,jao (by
  rw[jor (by simp only[stp,jwx];rfl)];exact lp)]
 refine jz5 ?_;unfold fIf;rw[jQo (ws:=chX _ _ chs) rfl,M.b_ok];unfold chTx
 by_cases hz:chX [110] aa chs=[]
 .rw[if_pos (decide_eq_true hz),if_pos hz];exact kC jlq
 .rw[if_neg (by rw[decide_eq_false hz];decide),if_neg hz];exact jhm rfl rfl ((jNe (jne nm_n h)))
def deX(u:List Nat)(aa:LL)(d:Ded):List Nat:=ddT d.nm u d.lo d.hi++([58,32]++chTx (chX u aa d.chs))
structure DkOk(aa:LL)(d:Ded):Prop where
 ck:CkOk aa d.chs
 nm:Nm d.nm
 lo:d.lo.natAbs<10 ^ 31
 hi:d.hi.natAbs<10 ^ 31
def jD9(h:DkOk aa d):jj6 [.lst (nmD aa),dedD d]=oK (sT (kwL 2++([32]++deX [110] aa d))):=by
 have cl:=jnd nm_n h.ck;have n1:=jb0 h.lo;have n2:=jb0 h.hi;have nl:=h.nm.le;refine (congrArg (·.b outD) (jao (jbm 2 (cats [(f2 gIx (vR 1) (cI 0),d.nm),(cS _,[32,110,32]),(fCall _ (jaa (f2 gIx (vR 1) (cI 1)) _),numT _),(cS " ",[32]),(fCall _ (jaa (f2 gIx (vR 1) (cI 2)) _),numT _)] (Y:=[oN _,some (dedD d),none]) (kC jx6) ⟨jdl rfl rfl rfl,kC jNk,jpe (jdl rfl rfl rfl) (jt8 h.lo),kC jjg,jpe (jdl rfl rfl rfl) (jt8 h.hi),trivial⟩ (by simp[flt,kwL];lia))))).trans ?_;refine (jz5 (cats [(cS _,[58,32]),(_,chTx _)] rfl ⟨kC jvc,jpf rfl (jdl rfl rfl rfl) (jK0 h.ck),trivial⟩ (by simp[flt,kwL];lia))).trans ?_;rfl
def nmsB(b:Bk):LL:=b.its.map (·.1)
def itL(p:List Nat×Int):List Nat:=kwL 0++([32]++itX p)
def ruL(aa:LL)(r:Rul):List Nat:=kwL 1++([32]++ruX aa r)
def deL(aa:LL)(d:Ded):List Nat:=kwL 2++([32]++deX [110] aa d)
def bkL(b:Bk):LL:=b.its.map itL++(b.rls.map (ruL (nmsB b))++b.dds.map (deL (nmsB b)))
structure ShOk(b:Bk):Prop where
 nm:∀ p∈b.its,Nm p.1
 it:∀ p∈b.its,p.2.natAbs<10 ^ 31
 n10:b.its.length<=10
 rn:∀ r∈b.rls,Nm r.nm
 rf:∀ r∈b.rls,FOk (nmsB b).length (r.cs,r.rest)
 dd:∀ d∈b.dds,DkOk (nmsB b) d
 r10:b.rls.length<=10
 d10:b.dds.length<=10
def jkb(h:ShOk b):∀ a∈nmsB b,Nm a:=fun a ha=>by
 obtain⟨p,hp,rfl⟩:=zcv.mp ha;exact h.nm p hp
def jxx(h1:Nm p.1)(h2:p.2.natAbs<10 ^ 31):(itL p).length<=60:=by
 have:=h1.le;have:=jb0 h2
 grind [itL,itX,kwL]
def jKr(hn:aa.length<=10)(hN:∀ a∈aa,Nm a)(h1:Nm r.nm)(h:FOk aa.length (r.cs,r.rest)):(ruL aa r).length<=5100:=by
 have:=h1.le;have:=jg4 hn (fun a ha=>zdz (hN a ha).le (by decide)) h;unfold ruL ruX;simp[kwL]
 lia
def jHn(hu:Nm u)(h:DkOk aa d):(deX u aa d).length<=51200:=by
 have:=hu.le;have:=h.nm.le;have:=jb0 h.lo;have:=jb0 h.hi;have:=jnd hu h.ck;show (d.nm++([32]++(u++([32]++(numT _++([32]++numT _)))))++([58,32]++chTx _)).length<=_;simp
 lia
def jG4(h:ShOk b):∀ l∈bkL b,l.length<=60000:=fun l hl=>by
 rcases zdy.mp hl with hl|hl
 .obtain⟨p,hp,rfl⟩:=zcv.mp hl;exact zdz (jxx (h.nm p hp) (h.it p hp)) (by decide)
 .rcases zdy.mp hl with hl|hl
  .obtain⟨r,hr,rfl⟩:=zcv.mp hl;exact zdz (jKr (by unfold nmsB;rw[zav];exact h.n10) (jkb h) (h.rn r hr) (h.rf r hr)) (by decide)
  .obtain⟨d,hd,rfl⟩:=zcv.mp hl;have:=jHn nm_n (h.dd d hd)
   grind [deL,kwL]
def jwf(h:ShOk b):jgp (St [10]) (.lst (nmD (bkL b)))=some (sT (jap [10] (bkL b))):=by
 have js:=jkw (jG4 h);have ln:(bkL b).length<=30:=by
  have:=h.n10;have:=h.r10;have:=h.d10
  unfold bkL;simp
  lia
 refine jkr ?_;simp only[List.length_cons,List.length_nil]
 lia
theorem jFz:∀ its:List (List Nat×Int),NL (its.map itD) (its.map (·.1))
 | []=>.nil
 | p::its=>.cons rfl (jFz its)
def jte{i:Nat}{fa:DSt->M D}{Y:DSt}{xs ys:List D}(h:fa Y=some (.ok (.lst ys)))(hd:(Y[i]?).join=oL xs)(hl:xs.length+ys.length<=1000):gExt i fa Y=nX (Y.set i (oL (xs++ys))):=by
 unfold gExt;rw[h,M.b_ok,hd];show (if xs.length+ys.length<=sizeLine then M.p _ else none)=_;rw[if_pos (by rw[sizeLine_eq];lia)];rfl
def jD8(h:ShOk b):jgz [bkD b]=oK (sT (jap [10] (bkL b))):=by
 have n10:(nmsB b).length<=10:=by unfold nmsB;rw[zav];exact h.n10
 have c1:=jba (c:=[]) (fe:=jil) (F:=fun p=>sT (itL p)) _ none fun p hp=>jEd (zdz (h.nm p hp).le (by decide)) (h.it p hp)
 have c2:=jba (c:=[oN _]) (fe:=jim) (F:=fun r=>sT (ruL _ r)) _ none fun r hr=>jEj n10 (fun a ha=>zdz (jkb h a ha).le (by decide)) (zdz (h.rn r hr).le (by decide)) (h.rf r hr)
 have c3:=jba (c:=[oN _]) (fe:=jin) (F:=fun d=>sT (deL _ d)) _ none fun d hd=>jD9 (h.dd d hd)
 have e1:(b.its.map fun p=>D.str (St (itL p)))=nmD (b.its.map itL):=by unfold nmD;rw[List.map_map];rfl
 have e2:(b.rls.map fun p=>D.str (St (ruL (nmsB b) p)))=nmD (b.rls.map (ruL (nmsB b))):=by unfold nmD;rw[List.map_map];rfl
 have e3:(b.dds.map fun p=>D.str (St (deL (nmsB b) p)))=nmD (b.dds.map (deL (nmsB b))):=by unfold nmD;rw[List.map_map];rfl
 rw[e1] at c1;rw[e2] at c2;rw[e3] at c3;have l1:(nmD (b.its.map itL)).length<=10:=by unfold nmD;rw[zav,zav];exact h.n10
 have l2:(nmD (b.rls.map (ruL (nmsB b)))).length<=10:=by unfold nmD;rw[zav,zav];exact h.r10
 have l3:(nmD (b.dds.map (deL (nmsB b)))).length<=10:=by unfold nmD;rw[zav,zav];exact h.d10
 unfold jgz;rw[jdw];unfold jgt;rw[jao (Y':=[some _,oN (nmsB b),none]) (jbm 1 (by exact (jt3 (jFz _) (by lia)))),jao (jbm 2 (by simp only[stp,c1,jbk (zdz l1 (by decide))];rfl)),jao (jte (by simp only[stp,c2,jbk (zdz l2 (by decide))];rfl) rfl (by lia)),jao (jte (by simp only[stp,c3,jbk (zdz l3 (by decide))];rfl) rfl (by grind)),jb1 (jhm (kC jI0) (by
  rw[jpy,jpy,List.append_assoc];rfl) (jwf h))]
 rfl
theorem jnx{α τ:Type}{g:DSt->M Out}{tg:D->DSt->Option DSt}{K:α->D}{F:α->List Nat}{mk:LL->τ->DSt}:∀ (xs:List α) (ps:LL) (t:τ),(∀ x∈xs,∀ (ps:LL) (t:τ),ps.length<=100->∃ Y1 t',tg (K x) (mk ps t)=some Y1/\g Y1=nX (mk (ps++[F x]) t'))->ps.length+xs.length<=100 ->
  ∃ t',forD g tg (xs.map K) (mk ps t)=nX (mk (ps++xs.map F) t')
 | [],ps,t,_,_=>⟨t,by rw[List.map_nil,List.map_nil,List.append_nil];rfl⟩
 | x::xs,ps,t,h,hl=>by
  rw[List.length_cons] at hl;obtain⟨Y1,t1,e1,e2⟩:=h x zaa ps t (by lia);obtain⟨t',ih⟩:=jnx xs (ps++[F x]) t1 (fun y hy=>h y (zaw _ hy)) (by simp;lia)
  grind [List.map_cons,jir,List.append_assoc]
def jNp(hu:Nm u)(h:FOk 1 ([c.1],c.2)):jc1 [.lst [sT u],.tup [.tup [.int c.1],.int c.2]]=oK (sT (shF u c)) :=
 jur (aa:=[u]) (f:=([c.1],c.2)) (by simp) (by simp) (fun a ha=>by rw[zdx.mp ha];exact zdz hu.le (by decide)) (fun a ha=>by rw[zdx.mp ha];exact hu.ne) h
def jRn(hw:(Y[i]?).join=oN ws):f2 gMulT (cS "-") (fL kIntT (jaa (f2 gEq (vR i) (fL jar fNil)) fNil)) Y=oK (sT (if ws=[] then [45] else [])):=by
 rw[(jdl (kC jlq) (jho (jdl (jBa hw) rfl (jtd ws)) rfl) (jFw _))];simp only[decide_eq_true_eq]
def jAy{fj:DSt->M D}{ws:LL}{jo:List Nat}{Y:DSt}{i:Nat}(hj:fj Y=some (.ok (sT jo)))(hw:(Y[i]?).join=oN ws)(hl:jo.length<=80000) :
  f2 gCat fj (f2 gMulT (cS "-") (fL kIntT (jaa (f2 gEq (vR i) (fL jar fNil)) fNil))) Y=oK (sT (jo++if ws=[] then [45] else [])):=jdl hj (jRn hw) (jex (by grind))
noncomputable abbrev ls(b:Bk)(ps:LL)(a3 a4 a5 a6 a7 a8 a9 a10 a11 a12:Option D):DSt:=[some (bkD b),oN (nmsB b),oN ps,a3,a4,a5,a6,a7,a8,a9,a10,a11,a12]
def jvb(h:ShOk b)(h1:1<=b.its.length)(ps:LL)(a:Option D×Option D×Option D)(hl:ps.length<=50):∃ t':Option D×Option D×Option D,forD jju (ju3 3 4 5) (b.rls.map rulD) (ls b ps a.1 a.2.1 a.2.2 none none none none none none none)=nX (ls b (ps++b.rls.map (ruL (nmsB b))) t'.1 t'.2.1 t'.2.2 none none none none none none none):=by
 have n10:(nmsB b).length<=10:=by unfold nmsB;rw[zav];exact h.n10
 have hN:∀ a∈nmsB b,a.length<=40:=fun a ha=>zdz (jkb h a ha).le (by decide)
 refine jnx (mk:=fun ps t=>ls b ps t.1 t.2.1 t.2.2 _ _ _ _ _ _ _) b.rls ps a (fun r hr qs t hq=>?_) (by have:=h.r10;lia);have so:=jur (by unfold nmsB;rw[zav];exact h1) n10 hN (fun a ha=>(jkb h a ha).ne) (h.rf r hr);have sl:=jg4 n10 hN (h.rf r hr);have nl:=(h.rn r hr).le;refine⟨_,(some (sT r.nm),some (.tup (r.cs.map .int)),oI r.rest),rfl,?_⟩;refine Eq.trans (jmr (cats [(vR 3,r.nm),(cS _,[58,32]),(fCall _ _,jbw _ _),(cS _,[32,62,61,32,48])] (kC jx8) ⟨rfl,kC jvc,so,kC jNj,trivial⟩ (by simp[flt,kwL];lia)) rfl (by lia)) ?_;simp only[ruL,ruX,List.append_assoc];rfl
noncomputable abbrev lz(b:Bk)(qs:LL)(d:Ded)(a4 a5 w x y t:Option D):DSt:=ls b qs (some (sT d.nm)) a4 a5 (oI d.lo) (oI d.hi) (some (.tup (d.chs.map chD))) w x y t
def ju9(h:ShOk b)(ps:LL)(a3 a4 a5:Option D)(hl:ps.length<=50):∃ t':Option D×Option D×Option D×Option D×Option D×Option D×Option D×Option D,forD jgc (jxk 3 6 7 8) (b.dds.map dedD) (ls b ps a3 a4 a5 none none none none none none none)=nX (ls b (ps++b.dds.map (deL (nmsB b))) t'.1 a4 a5 t'.2.1 t'.2.2.1 t'.2.2.2.1 t'.2.2.2.2.1 t'.2.2.2.2.2.1 t'.2.2.2.2.2.2.1 t'.2.2.2.2.2.2.2):=by
 refine jnx (τ:=Option D×Option D×Option D×Option D×Option D×Option D×Option D×Option D) (K:=dedD) (F:=deL (nmsB b)) (mk:=fun ps t=>ls b ps t.1 a4 a5 t.2.1 t.2.2.1 t.2.2.2.1 t.2.2.2.2.1 t.2.2.2.2.2.1 t.2.2.2.2.2.2.1 t.2.2.2.2.2.2.2) b.dds ps (a3,none,none,none,none,none,none,none) (fun d hd qs t hq=>?_) (by have:=h.d10;lia);obtain⟨t3,t6,t7,t8,t9,bc,t11,t12⟩:=t;have D0:=h.dd d hd;obtain⟨x',y',lp⟩:=jny (g:=jgb) (tg:=jbe 10 11) (mk:=fun ws x y=>lz b qs d a4 a5 (oN ws) x y t12) (F:=selF [110]) (fun q ps x y=>rfl) ((nmsB b).zip d.chs) [] bc t11 (fun q hq ws hw=>by
  obtain⟨h1,h2⟩:=D0.ck.at' hq;have nl:=h1.le;have sl:=jqj nm_n h2;have t0:=jJq (i:=11) (c:=q.2) (Y:=lz b qs d a4 a5 (oN ws) (some (sT q.1)) (some (chD q.2)) t12) rfl;unfold jgb selF
  by_cases hz:q.2=(0,0)
  .rw[if_pos hz];exact jg6 (by grind)
  .rw[if_neg hz,w_if (by rw[t0,decide_eq_false hz]),if_pos (by decide)];exact jmr (i:=9) (cats [(cS " ",[32]),(_,shF [110] q.2)] (fa:=vR 10) (a:=q.1) rfl ⟨kC jjg,jq9 (fu:=cS "n") (fc:=vR 11) (jNp nm_n h2) (kC l_n) rfl,trivial⟩ (by simp[flt];lia)) rfl (by lia)) (by rw[List.length_zip];have:=D0.ck.n10;simp;lia)
 rw[List.nil_append] at lp;obtain⟨l1,l2⟩:=jne nm_n D0.ck;have jn:=jNe (jne nm_n D0.ck);have jl:(jap [44,32] (chX [110] (nmsB b) d.chs)).length<=80000:=by
  have:=jfo (k:=5100) l2;have b':=Nat.mul_le_mul_right 5102 l1
  lia
 have n1:=jb0 D0.lo;have n2:=jb0 D0.hi;have nl:=D0.nm.le;have cl:=jnd nm_n D0.ck;refine⟨lz b qs d a4 a5 t9 bc t11 t12,(some (sT d.nm),oI d.lo,oI d.hi,some (.tup (d.chs.map chD)),oN (chX [110] (nmsB b) d.chs),x',y',some (sT (chTx (chX [110] (nmsB b) d.chs)))),rfl,?_⟩;unfold jgc;rw[jao (Y':=lz b qs d a4 a5 (oN []) bc t11 t12) rfl];rw[jao (show gFor _ _ _ _=oK (.nx _) from by
  rw[jor (ds:=((nmsB b).zip d.chs).map chQ) (by simp only[stp,jwx];rfl)];exact lp)]
 have tl:=jAy (fj:=fSm jgp (cS ", ") (vR 9)) (ws:=chX [110] (nmsB b) d.chs) (jo:=jap [44,32] (chX [110] (nmsB b) d.chs)) (Y:=lz b qs d a4 a5 (oN (chX [110] (nmsB b) d.chs)) x' y' t12) (i:=9) (jhm rfl rfl (by grind [jNq])) rfl jl;rw[show (jap [44,32] (chX [110] (nmsB b) d.chs)++if chX [110] (nmsB b) d.chs=[] then [45] else [])=chTx (chX [110] (nmsB b) d.chs) by grind [chTx,jap]] at tl;refine (jao (jbm 12 tl)).trans ?_;refine Eq.trans (jmr (i:=2) (cats [(vR 3,d.nm),(cS " n ",[32,110,32]),(fL kStr (jaa (vR 6) fNil),numT d.lo),(cS " ",[32]),(fL kStr (jaa (vR 7) fNil),numT d.hi),(cS ": ",[58,32]),(vR 12,chTx (chX [110] (nmsB b) d.chs))] (a:=kwL 2++[32]) (kC jx6) ⟨rfl,kC jNk,jho rfl (jjt D0.lo),kC jjg,jho rfl (jjt D0.hi),kC jvc,rfl,trivial⟩ (by simp[flt,kwL];lia)) rfl (by lia)) ?_;simp only[flt,deL,deX,juz,List.append_assoc];rfl
def jyg(h:ShOk b)(h1:1<=b.its.length):jig [bkD b]=oK (sT (jap [10] (bkL b))):=by
 have n10:(nmsB b).length<=10:=by unfold nmsB;rw[zav];exact h.n10
 have i10:=h.n10;have r10:=h.r10;have d10:=h.d10;have c1:=jba (c:=[]) (fe:=jjx) (K:=itD) (F:=fun p=>sT p.1) b.its none fun p hp=>rfl
 have c2:=je8 (c:=[]) (fe:=jgl) (K:=fun p:List Nat×Int=>(D.str (St p.1),D.int p.2)) (F:=fun p=>sT (itL p)) b.its none none fun p hp=>by
  have nl:=(h.nm p hp).le;have n1:=jb0 (h.it p hp);exact cats [(vR 0,p.1),(cS " ",[32]),(fL kStr (jaa (vR 1) fNil),numT p.2)] (a:=kwL 0++[32]) (kC jx7) ⟨rfl,kC jjg,jho rfl (jjt (h.it p hp)),trivial⟩ (by simp[flt,kwL];lia)
 have e1:(b.its.map fun p=>D.str (St p.1))=nmD (nmsB b):=by unfold nmD nmsB;rw[List.map_map];rfl
 have e2:(b.its.map fun p=>D.str (St (itL p)))=nmD (b.its.map itL):=by unfold nmD;rw[List.map_map];rfl
 rw[e1] at c1;rw[e2] at c2;have l1:(nmD (nmsB b)).length<=1000:=by unfold nmD;rw[zav];lia
 have l2:(nmD (b.its.map itL)).length<=1000:=by unfold nmD;rw[zav,zav];lia
 obtain⟨t1,r1⟩:=jvb h h1 (b.its.map itL) (none,none,none) (by rw[zav];lia);obtain⟨t2,r2⟩:=ju9 h (b.its.map itL++b.rls.map (ruL (nmsB b))) t1.1 t1.2.1 t1.2.2 (by grind);unfold jig;rw[jdw];show (jfk [some (bkD b),none,none,none,none,none,none,none,none,none,none,none,none]).b outD=_;unfold jfk;rw[jao (Y':=[some (bkD b),oN (nmsB b),none,none,none,none,none,none,none,none,none,none,none]) (jbm 1 (by simp only[stp,ix_t,at0,c1,jbk l1];rfl))];rw[jao (Y':=ls b (b.its.map itL) none none none none none none none none none none) (jbm 2 (by simp only[stp,ix_t,at0];show (M.o ((jcn (jbe 0 1) tYes jgl (b.its.map fun p=>D.tup [sT p.1,.int p.2]) [none,none]).bind jar))=_;rw[c2,Option.bind_some,jbk l2];rfl))];rw[jao (show gFor _ _ _ _=nX _ from by
  rw[jor (ds:=b.rls.map rulD) (by simp only[stp,ix_t,at1];rfl)];exact r1)]
 rw[jao (show gFor _ _ _ _=nX _ from by
  rw[jor (ds:=b.dds.map dedD) (by simp only[stp,ix_t,at2];rfl)];exact r2)]
 rw[jb1 (d:=sT (jap [10] (bkL b))) (jhm (z:=St [10]) (y:=.lst (nmD (bkL b))) (kC jI0) (by
  show some (Except.ok (D.lst (nmD ((b.its.map itL++b.rls.map (ruL (nmsB b)))++b.dds.map (deL (nmsB b))))))=_;rw[List.append_assoc];rfl) (jwf h))]
 rfl
def okc(c:Nat):Bool:=isL c || isG c || c == 32 || c == 42 || c == 43 || c == 45
def jp7(h:okc c=true):c≠10/\c≠44/\c≠62:=by
 refine⟨?_,?_,?_⟩<;>(rintro rfl;revert h;decide)
def okL(h:isL c=true):okc c=true:=by grind [okc]
def okG(h:isG c=true):okc c=true:=by grind [okc,isL]
def jFb(h:c∈dg n):okc c=true:=okG (jmz (jgm n) c h)
def jBg(ha:∀ c∈a,isL c=true)(h:c∈jik v a):okc c=true:=by
 unfold jik at h
 split at h
 .exact okL (ha c h)
 .rcases zdy.mp h with h|h
  .exact jFb h
  .rcases List.mem_cons.mp h with rfl|h
   .decide
   .exact okL (ha c h)
def jwc(hx:∀ c∈x,okc c=true)(hb:∀ c∈b,okc c=true)(h:c∈addP x s b):okc c=true:=by
 unfold addP at h
 split at h
 .split at h
  .rcases List.mem_cons.mp h with rfl|h
   .decide
   .exact hb c h
  .exact hb c h
 .rcases zdy.mp h with h|h
  .exact hx c h
  .rcases zdy.mp h with h|h
   .cases s<;>(revert h;simp;rintro (rfl|rfl|rfl)<;>decide)
   .exact hb c h
theorem jth:∀ (ps:List (List Nat×Int)) (x:List Nat),(∀ p∈ps,∀ c∈p.1,isL c=true)->(∀ c∈x,okc c=true)->∀ c∈ps.foldl jdf x,okc c=true
 | [],x,_,hx=>hx
 | p::ps,x,h,hx=>jth ps _ (fun q hq=>h q (zaw _ hq)) fun c hc=>by
  unfold jdf at hc
  split at hc
  .exact hx c hc
  .exact jwc hx (fun d hd=>jBg (h p zaa) hd) hc
theorem ji1(hN:∀ a∈aa,Nm a)(f:Fm):∀ c∈jbw aa f,okc c=true:=fun c hc=>by
 have fc:=jth (aa.zip f.1) [] (fun p hp=>(hN _ (zca hp).1).al) (fun c h=>by cases h);unfold jbw at hc;dsimp only at hc
 split at hc
 .split at hc
  .cases zdx.mp hc;decide
  grind
 .split at hc
  .cases zdx.mp hc;decide
  .exact jwc fc (fun d hd=>jFb hd) hc
def jIu(h1:Nm p.1)(h2:p.2.natAbs<10 ^ 31):LnOk 0 aa ⟨itX p,itD p,p.1⟩:=by
 have nl:=h1.le;have n2:=jb0 h2;refine⟨fun na l Ω _ _=>⟨Ω,jPf (jD1 h1 h2 l),Kept.refl _ _⟩,rfl,?_,?_⟩
 .show (p.1++(32::numT p.2)).length<=45000;simp
  lia
 .intro z;rcases zdy.mp (z) with z|z
  .exact jjo h1 rfl z
  .rcases List.mem_cons.mp z with z|z
   .cases z
   .exact jkc (by decide) rfl z
def rlX(a L R:List Nat):List Nat:=a++([58,32]++(L++([62,61]++R)))
def jyd(hn:aa.length<=1000)(ha:Nm a)(hL:TxS aa L f)(hR:TxS aa R g)(cL:∀ c∈L,okc c=true)(cR:10∉R)(l1:L.length<=20000)(l2:R.length<=20000)(hf:f.1.length<=1000)(er:r=⟨a,subL f.1 g.1,f.2-g.2⟩):LnOk 1 aa ⟨rlX a L R,rulD r,a⟩:=by
 have al:=ha.le;subst er;refine⟨fun na l Ω hna _=>?_,rfl,?_,?_⟩
 .rw[hna nofun];obtain⟨Ω1,e,k⟩:=jD2 hn ha hL hR (fun z=>(jp7 (cL _ z)).2.2 rfl) l1 l2 hf l Ω;exact⟨Ω1,rpart1 e,k⟩
 .show (a++([58,32]++(L++([62,61]++R)))).length<=45000;simp
  lia
 .intro z;rcases zdy.mp z with z|z
  .exact jjo ha rfl z
  .rcases zdy.mp z with z|z
   .grind
   .rcases zdy.mp z with z|z
    .exact (jp7 (cL _ z)).1 rfl
    grind
theorem jx0(hs:c∉ag):∀ {ps:LL},(∀ p∈ps,c∉p)->c∉jap ag ps
 | [],_=>fun z=>by cases z
 | [p],h=>h p zaa
 | p::q::ps,h=>fun z=>by
  rcases zdy.mp (z) with z|z
  .grind
  .rcases zdy.mp z with z|z
   .exact hs z
   .exact jx0 hs (fun r hr=>h r (zaw _ hr)) z
def jyc(hn:aa.length<=1000)(ha:Nm d.nm)(hu:Nm u)(h1:d.lo.natAbs<10 ^ 31)(h2:d.hi.natAbs<10 ^ 31)(h:∀ p∈ps,PtOk aa u p)(h10:∀ p∈ps,10∉p.x)(hd:(ps.map (·.a)).Nodup)(hl:ps.length<=6)(hc:aa.map (jlo ps)=d.chs):LnOk 2 aa ⟨ddT d.nm u d.lo d.hi++([58,32]++chT ps),dedD d,d.nm⟩:=by
 have la:=ha.le;have lu:=hu.le;have n1:=jb0 h1;have n2:=jb0 h2;have cl:(chT ps).length<=40000:=by
  unfold chT
  split
  .decide
  .have:=jfo (ps:=ps.map ptL) (k:=6100) fun q hq=>by
    obtain⟨r,hr,rfl⟩:=zcv.mp hq;have a1:=(h r hr).nm.le;have a2:=(h r hr).len
    grind [ptL]
   rw[zav] at this
   lia
 refine⟨fun na l Ω hna _=>?_,rfl,?_,?_⟩
 .rw[hna nofun];obtain⟨Ω1,e,k⟩:=jDx hn ha hu h1 h2 h hd hl l Ω;rw[hc] at e;exact⟨Ω1,rpart2 e,k⟩
 .grind [juz]
 .intro z;rcases zdy.mp z with z|z
  .rw[juz] at z;simp only[zdy,zdx] at z;rcases z with z|z|z|z|z|z|z
   .exact jjo ha rfl z
   .cases z
   .exact jjo hu rfl z
   .cases z
   .exact jkc (by decide) rfl z
   .cases z
   .exact jkc (by decide) rfl z
  .rcases zdy.mp z with z|z
   .revert z;decide
   .unfold chT at z
    split at z
    .revert z;decide
    .refine jx0 (by decide) (fun p hp=>?_) z;obtain⟨q,hq,rfl⟩:=zcv.mp hp;intro z;rcases zdy.mp z with z|z
     .exact jjo (h q hq).nm rfl z
     grind
def jIw(hd:(ps.map (·.a)).Nodup)(hp:p∈ps):jlo ps p.a=p.c:=by
 induction ps with
 | nil=>cases hp
 | cons q ps ih =>
  rw[List.map_cons,List.nodup_cons] at hd;unfold jlo;rw[List.find?_cons]
  by_cases e:q.a=p.a
  .rw[decide_eq_true e];rcases List.mem_cons.mp hp with rfl|hp
   .rfl
   .exact absurd (e ▸ List.mem_map_of_mem hp) hd.1
  .rw[decide_eq_false e];rcases List.mem_cons.mp hp with rfl|hp
   .grind
   .exact ih hd.2 hp
def jCu(h:a∉ps.map (·.a)):jlo ps a=(0,0):=by
 unfold jlo;rw[List.find?_eq_none.mpr fun p hp z=>h (by rw[<- of_decide_eq_true z];exact List.mem_map_of_mem hp)];rfl
def jtu{aa:LL}(hN:aa.Nodup)(hl:chs.length=aa.length)(hd:(ps.map (·.a)).Nodup)(h1:∀ p∈ps,(p.a,p.c)∈aa.zip chs)(h2:∀ q∈aa.zip chs,q.2≠(0,0)->q.1∈ps.map (·.a)):aa.map (jlo ps)=chs:=by
 refine List.ext_getElem (by grind) fun i hi1 hi2=>?_
 rw[List.getElem_map]
 by_cases hm:aa[i]∈ps.map (·.a)
 .obtain⟨p,hp,e⟩:=zcv.mp hm;rw[<- e,jIw hd hp];obtain⟨j,hj,ej⟩:=List.mem_iff_getElem.mp (h1 p hp);rw[List.getElem_zip] at ej;have:=(List.getElem_inj hN).mp ((congrArg Prod.fst ej).trans e)
  grind
 .rw[jCu hm]
  by_cases hc:chs[i]=(0,0)
  .exact hc.symm
  .exact absurd (h2 _ (List.mem_iff_getElem.mpr ⟨i,by grind,List.getElem_zip⟩) hc) hm
def shl(hN:∀ a∈aa,a.length<=40)(h:FOk aa.length f):(jbw aa f).length<=100*aa.length+100:=by
 have fl:=jko _ [] (jq0 hN h);rw[List.length_nil,Nat.zero_add,List.length_zip] at fl;have dl:=je9 h.r;have al:=jkk ((aa.zip f.1).foldl jdf []) (decide (f.2<0)) (dg f.2.natAbs);unfold jbw;dsimp only
 split
 .split
  .show 1<=_;lia
  .lia
 .split
  .show 1<=_;lia
  .lia
theorem jlj:∀ {ps:LL},(∀ p∈ps,p.length<=k)->(jap ag ps).length<=ps.length*(k+ag.length)
 | [],_=>Nat.zero_le _
 | [p],h=>by have:=h p zaa;show p.length<=1*(k+ag.length);lia
 | p::q::ps,h=>by
  have h1:=h p zaa;have h2:=jlj (ag:=ag) fun r hr=>h r (zaw _ hr)
  show (p++(ag++jap ag _)).length<=((q::ps).length+1)*(k+ag.length)
  grind
def jJo{α:Type}{f:α->List Nat}{xs:List α}(h:∀ i x,xs[i]? = some x->f x=nmS i m)(hl:xs.length<=7):(∀ x∈xs,Nm (f x))/\(xs.map f).Nodup:=by
 refine⟨fun x hx=>?_,by rw[jt2 h];exact jt5 hl m⟩;obtain⟨i,hi,e⟩:=List.mem_iff_getElem.mp hx;have:xs[i]? = some x:=by rw[zax hi,e]
 rw[h i x this];exact (jyw m).1 i (by lia)
structure DrOk(b:Bk):Prop where
 sh:ShOk b
 ni:(nmsB b).Nodup
 nr:(b.rls.map (·.nm)).Nodup
 nd:(b.dds.map (·.nm)).Nodup
 rl:∀ r∈b.rls,r.cs.length=(nmsB b).length
 dl:∀ d∈b.dds,d.chs.length=(nmsB b).length
 r25:∀ r∈b.rls,(∀ c∈r.cs,c.natAbs<10 ^ 23)/\r.rest.natAbs<10 ^ 25
def jMj(hb:BkOk 206 b):DrOk b:=by
 obtain⟨m1,h1⟩:=hb.im;obtain⟨m2,h2⟩:=hb.rl;obtain⟨m3,h3⟩:=hb.dd;have i4:=hb.i4;have r5:=hb.r5;have d6:=hb.d6;have nl:(nmsB b).length=b.its.length:=by unfold nmsB;rw[zav]
 have a1:=jJo h1 (by lia);have a2:=jJo (fun i r h=>(h2 i r h).nm) (by lia);have a3:=jJo (fun i d h=>(h3 i d h).nm) (by lia);have R:∀ r∈b.rls,∃ i,RulOk _ m2 206 i r:=fun r hr=>by
  obtain⟨i,hi,e⟩:=List.mem_iff_getElem.mp hr;exact⟨i,h2 i r (by rw[zax hi,e])⟩
 have Dd:∀ d∈b.dds,∃ i,DedOk _ m3 i d:=fun d hd=>by
  obtain⟨i,hi,e⟩:=List.mem_iff_getElem.mp hd;exact⟨i,h3 i d (by rw[zax hi,e])⟩
 refine⟨⟨a1.1,fun p hp=>Nat.lt_trans (hb.sn p hp) (by decide),by lia,a2.1,fun r hr=>?_,fun d hd=>?_,by lia,by lia⟩,a1.2,a2.2,a3.2,fun r hr=>?_,fun d hd=>?_,fun r hr=>?_⟩
 .obtain⟨i,q⟩:=R r hr;exact⟨by rw[nl];exact q.len,fun c hc=>Nat.lt_trans (q.cn c hc) (by decide),Nat.lt_trans q.rn (by decide)⟩
 .obtain⟨i,q⟩:=Dd d hd;refine⟨⟨by lia,fun a ha=>?_,fun c hc=>⟨Nat.lt_trans (q.cn c hc).1 (by decide),Nat.lt_trans (q.cn c hc).2 (by decide)⟩⟩,a3.1 d hd,Nat.lt_trans q.ln (by decide),Nat.lt_trans q.hn (by decide)⟩;obtain⟨p,hp,rfl⟩:=zcv.mp ha
  grind
 .obtain⟨i,q⟩:=R r hr;rw[nl];exact q.len
 .obtain⟨i,q⟩:=Dd d hd;rw[nl];exact q.len
 .obtain⟨i,q⟩:=R r hr;exact⟨q.cn,q.rn⟩
def sub_zero(cs:List Int):subL cs (List.replicate cs.length 0)=cs:=by
 unfold subL;refine List.ext_getElem (by simp) fun i h1 h2=>?_
 simp
def jvw:jbw aa (List.replicate aa.length 0,0)=[48]:=by
 have:∀ (ns:List _) (x:List Nat),(ns.zip (List.replicate ns.length (0))).foldl jdf x=x:=by
  intro ns
  induction ns with
  | nil=>intro x;rfl
  | cons a ns ih =>
   intro x;exact ih x
 unfold jbw;rw[if_pos rfl,this,if_pos rfl]
def ptF(u:List Nat)(q:List Nat×(Int×Int)):Option Pt:=if q.2=(0,0) then none else some ⟨q.1,shF u q.2,q.2⟩
def ptC(u:List Nat)(aa:LL)(chs:List (Int×Int)):List Pt:=(aa.zip chs).filterMap (ptF u)
def jRz(u:List Nat)(aa:LL)(chs:List (Int×Int)):(ptC u aa chs).map ptL=chX u aa chs:=by
 unfold ptC chX;rw[List.map_filterMap];congr 1
 funext q
 unfold ptF selF
 split<;>rfl
def jHg(u:List Nat)(aa:LL)(chs:List (Int×Int)):chTx (chX u aa chs)=chT (ptC u aa chs):=by
 unfold chTx chT;rw[<- jRz]
 simp_all
def jy4(hu:Nm u):(∀ a∈[u],Nm a)/\[u].Nodup:=⟨fun a ha=>by grind,by simp⟩
def jSm(hu:Nm u)(h:FOk 1 ([c.1],c.2)):TxS [u] (shF u c) ([c.1],c.2):=TxS.shown (by simp) (jy4 hu).1 (jy4 hu).2 h
def jPk(hu:Nm u)(c:Int×Int):∀ x∈shF u c,okc x=true:=ji1 (jy4 hu).1 _
def jzx(h:p∈ptC u aa chs):∃ q∈aa.zip chs,q.2≠(0,0)/\p=⟨q.1,shF u q.2,q.2⟩:=by
 obtain⟨q,hq,e⟩:=List.mem_filterMap.mp h;unfold ptF at e
 grind
theorem jqr:∀ {aa:LL} {chs:List (Int×Int)},aa.Nodup->((ptC u aa chs).map (·.a)).Nodup/\∀ p∈ptC u aa chs,p.a∈aa
 | [],chs,_=>⟨List.nodup_nil,fun p hp=>by cases hp⟩
 | a::aa,[],_=>⟨by unfold ptC;simp,fun p hp=>by unfold ptC at hp;simp at hp⟩
 | a::aa,c::chs,h=>by
  obtain⟨n1,n2⟩:=List.nodup_cons.mp h;obtain⟨i1,i2⟩:=jqr n2;have e:ptC u (a::aa) (c::chs)=(if c=(0,0) then ptC u aa chs else ⟨a,shF u c,c⟩::ptC u aa chs):=by
   unfold ptC;rw[List.zip_cons_cons,List.filterMap_cons];unfold ptF
   split<;>rename_i q<;>split<;>simp_all
  rw[e]
  split
  .exact⟨i1,fun p hp=>zaw _ (i2 p hp)⟩
  .refine⟨?_,fun p hp=>?_⟩
   .rw[List.map_cons,List.nodup_cons];refine⟨fun z=>?_,i1⟩;obtain⟨p,hp,e⟩:=zcv.mp z;have e':p.a=a:=e;exact n1 (e' ▸ i2 p hp)
   .rcases List.mem_cons.mp hp with rfl|hp
    .exact zaa
    .exact zaw _ (i2 p hp)
def liB(b:Bk):List Ln:=b.its.map fun p=>⟨itX p,itD p,p.1⟩
def lrB(b:Bk):List Ln:=b.rls.map fun r=>⟨ruX (nmsB b) r,rulD r,r.nm⟩
def ldB(b:Bk):List Ln:=b.dds.map fun d=>⟨deX [110] (nmsB b) d,dedD d,d.nm⟩
theorem jha(b:Bk):(liB b).map (·.a)=nmsB b:=by unfold liB nmsB;simp_all
theorem jCw(hb:BkOk 206 b)(h:DrOk b):∀ q∈liB b,LnOk 0 (nmsB b) q:=fun q hq=>by
 obtain⟨p,hp,rfl⟩:=zcv.mp hq;exact jIu (h.sh.nm p hp) (h.sh.it p hp)
def jza(h:∀ c∈x,okc c=true):∀ c∈List.replicate m 32++(x++List.replicate n 32),okc c=true:=fun c hc=>by
 rcases zdy.mp hc with hc|hc
 .rw[(List.mem_replicate.mp hc).2];decide
 .rcases zdy.mp hc with hc|hc
  .exact h c hc
  .rw[(List.mem_replicate.mp hc).2];decide
def n10B(hb:BkOk 206 b):(nmsB b).length<=10/\1<=(nmsB b).length:=by
 have:=hb.i4;have:=hb.i1
 grind [nmsB,List.length_map]
def jIg:FOk n (List.replicate n 0,0):=⟨List.length_replicate,fun c hc=>by grind,show (0:Int).natAbs<10 ^ 31 by decide⟩
theorem jCx(hb:BkOk 206 b)(h:DrOk b):∀ q∈lrB b,LnOk 1 (nmsB b) q:=fun q hq=>by
 obtain⟨r,hr,rfl⟩:=zcv.mp hq;have n10:=(n10B hb).1;have hN:=jkb h.sh;have hf:=h.sh.rf r hr;have R:=(TxS.shown n10 hN h.ni (jIg)).pad 1 0;rw[jvw] at R;have sl:=shl (fun a ha=>zdz (hN a ha).le (by decide)) hf;have cl:=h.rl r hr;refine jyd (by lia) (h.sh.rn r hr) ((TxS.shown n10 hN h.ni hf).pad 0 1) R (fun c hc=>?_) nofun (by simp;lia) (by decide) (by grind) ?_
 .rcases zdy.mp hc with hc|hc
  .grind [ji1]
  .cases zdx.mp hc;decide
 .rw[<- cl,sub_zero,Int.sub_zero]
def jO1(hu:Nm u)(hk:DkOk aa d)(hq:q∈aa.zip d.chs)(m n:Nat)(hm:m+n<=100):PtOk aa u ⟨q.1,List.replicate m 32++(shF u q.2++List.replicate n 32),q.2⟩/\10∉(List.replicate m 32++(shF u q.2++List.replicate n 32)):=by
 obtain⟨h1,h2⟩:=hk.ck.at' hq;have pc:=jza (m:=m) (n:=n) (jPk hu q.2);have sl:=jqj hu h2;refine⟨⟨h1,(zca hq).1,(jSm hu h2).pad m n,fun z=>(jp7 (pc _ z)).2.1 rfl,?_⟩,fun z=>(jp7 (pc _ z)).1 rfl⟩;simp
 lia
theorem jCv(hb:BkOk 206 b)(h:DrOk b):∀ q∈ldB b,LnOk 2 (nmsB b) q:=fun q hq=>by
 obtain⟨d,hd,rfl⟩:=zcv.mp hq;have n10:=(n10B hb).1;have hk:=h.sh.dd d hd;have i4:=hb.i4;have P:∀ p∈ptC [110] _ _,PtOk _ _ p/\10∉p.x:=fun p hp=>by
  obtain⟨q,hq,_,rfl⟩:=jzx hp;have:=jO1 nm_n hk hq 0 0 (by decide);rw[show (List.replicate 0 32++(shF _ q.2++List.replicate 0 32))=shF [110] q.2 by simp] at this;exact this
 have nd:=jqr (u:=[110]) (chs:=d.chs) h.ni;have e:deX [110] (nmsB b) d=ddT d.nm [110] d.lo d.hi++([58,32]++chT (ptC [110] (nmsB b) d.chs)):=by unfold deX;rw[jHg]
 rw[e];refine jyc (by lia) hk.nm nm_n hk.lo hk.hi (fun p hp=>(P p hp).1) (fun p hp=>(P p hp).2) nd.1 ?_ ?_
 .refine zdz (List.length_filterMap_le _ _) ?_;rw[List.length_zip];have:(nmsB b).length=b.its.length:=by unfold nmsB;rw[zav]
  lia
 .refine jtu h.ni (h.dl d hd) nd.1 (fun p hp=>?_) (fun q hq hz=>?_)
  .obtain⟨q,hq,_,rfl⟩:=jzx hp;exact hq
  .refine zcv.mpr ⟨⟨q.1,shF [110] q.2,q.2⟩,List.mem_filterMap.mpr ⟨q,hq,?_⟩,rfl⟩;unfold ptF
   grind
def jFo(hb:BkOk 206 b)(h:DrOk b):LsB b (liB b) (lrB b) (ldB b):=by
 have i4:=hb.i4;have r5:=hb.r5;have d6:=hb.d6;have i1:=hb.i1;refine⟨⟨by grind [jha,jCw],by grind [jha,jCx],by grind [jha,jCv],by rw[jha];exact h.ni,?_,?_,by unfold liB;rw[zav];lia,by grind [lrB,List.length_map],by grind [ldB,List.length_map],by unfold liB;rw[zav];lia⟩,?_,?_,?_⟩
 .unfold lrB;rw[List.map_map];exact h.nr
 .unfold ldB;rw[List.map_map];exact h.nd
 .unfold liB;rw[List.map_map];rfl
 .unfold lrB;rw[List.map_map];rfl
 simp_all [ldB,List.map_map]
theorem jya(b:Bk):jdx (liB b) (lrB b) (ldB b)=bkL b:=by
 unfold jdx bkL liB lrB ldB;rw[List.map_map,List.map_map,List.map_map];rfl
def jwv(hu:Nm u)(h:CkOk aa chs)(hn:aa.length<=4):(chTx (chX u aa chs)).length<=1000:=by
 have h2:∀ w∈chX u _ chs,w.length<=220:=fun w hw=>by
  obtain⟨q,hq,e⟩:=List.mem_filterMap.mp hw;unfold selF at e
  split at e
  .cases e
  .cases e;obtain⟨a1,a2⟩:=h.at' hq;have:=a1.le;have sl:(shF u q.2).length<=200:=shl (fun a ha=>by rw[zdx.mp ha];exact zdz hu.le (by decide)) a2
   grind [wF]
 have h1:(chX u aa chs).length<=4:=zdz (List.length_filterMap_le _ _) (by grind);unfold chTx
 split
 .decide
 .have:=jfo h2
  lia
theorem jEu(hb:BkOk 206 b)(h:DrOk b):(jap [10] (bkL b)).length<=50000:=by
 have i4:=hb.i4;have r5:=hb.r5;have d6:=hb.d6;have n4:(nmsB b).length<=4:=by unfold nmsB;rw[zav];lia
 have ll:∀ l∈bkL b,l.length<=2000:=fun l hl=>by
  rcases zdy.mp hl with hl|hl
  .obtain⟨p,hp,rfl⟩:=zcv.mp hl;exact zdz (jxx (h.sh.nm p hp) (h.sh.it p hp)) (by decide)
  .rcases zdy.mp hl with hl|hl
   .obtain⟨r,hr,rfl⟩:=zcv.mp hl;have:=(h.sh.rn r hr).le;have:=shl (fun a ha=>zdz ((jkb h.sh) a ha).le (by decide)) (h.sh.rf r hr);unfold ruL ruX;simp[kwL]
    lia
   .obtain⟨d,hd,rfl⟩:=zcv.mp hl;have hk:=h.sh.dd d hd;have:=hk.nm.le;have:=jb0 hk.lo;have:=jb0 hk.hi;have:=jwv nm_n hk.ck n4;unfold deL deX;rw[juz];simp[kwL]
    lia
 have:=jlj (ag:=[10]) ll;have ln:(bkL b).length<=15:=by
  unfold bkL;simp
  lia
 rw[show ([10]).length=1 from rfl] at this
 lia
def jqs(hb:BkOk 206 b)(Ω:Sto):∃ Ω',jde [sT (jap [10] (bkL b))] Ω=some (.ok (bT Ω.length),Ω')/\BS Ω.length Ω' (b.its.map itD) (b.rls.map rulD) (b.dds.map dedD)/\Kept Ω.length Ω Ω':=by
 have h:=jMj hb;have:=jo0 hb (jFo hb h) (by grind [jya,jEu]) Ω
 grind [jya]
def jFx:∀ t∈List.range 3,isS (gMulT (sT [32]) (.int (t:Nat))) (List.replicate t 32)=true:=by decide +kernel
def midK:Nat->Nat×Nat
 | 0=>(0,0)
 | 1=>(1,1)
 | 2=>(2,0)
 | _=>(0,3)
def midL(s:Nat):List Nat:=List.replicate (midK s).1 32++([62,61]++List.replicate (midK s).2 32)
def midD:D:=.lst [.str ">=",.str " >= ",.str "  >=",.str ">=   "]
def jNx:∀ s∈List.range 4,isS (gIx midD (.int (s:Nat))) (midL s)=true:=by decide +kernel
def jNy:∀ s,(midK s).1<=2/\(midK s).2<=3
 | 0=>by decide
 | 1=>by decide
 | 2=>by decide
 | _+3=>⟨Nat.zero_le _,zac _⟩
def moreF(n:Nat)(m:Int):List Int:=(List.range n).map fun k:Nat=>m / ((k:Int)+1) % 5-2
def jys:∀ c∈moreF n m,c.natAbs<=2:=fun c hc=>by
 obtain⟨k,_,rfl⟩:=zcv.mp hc
 lia
def jki(xs ys:List Int):List Int:=(xs.zip ys).map fun p=>p.1+p.2
theorem juf:∀ (xs ys:List Int),xs.length=ys.length->subL (jki xs ys) ys=xs
 | [],[],_=>rfl
 | [],_::_,h=>by cases h
 | _::_,[],h=>by cases h
 | x::xs,y::ys,h=>by
  have ih:=juf xs ys (Nat.succ.inj h);unfold subL jki at ih |-
  rw[List.zip_cons_cons,List.map_cons,List.zip_cons_cons,List.map_cons,ih,show x+y-y=x by lia]
def jKd(h:c∈jki xs ys):∃ x∈xs,∃ y∈ys,c=x+y:=by
 obtain⟨p,hp,rfl⟩:=zcv.mp h;exact⟨p.1,(zca hp).1,p.2,(zca hp).2,rfl⟩
noncomputable abbrev lr4(b:Bk)(r:Rul)(m:Int)(x y z:Option D):DSt:=[oN (nmsB b),some (rulD r),oI m,some (.tup ((moreF (nmsB b).length m).map .int)),x,y,z]
def jNo(hb:BkOk 206 b)(h:DrOk b)(hr:r∈b.rls):∃ q:Ln,jen [.lst (nmD (nmsB b)),rulD r,.int m]=oK (sT (lnL 1 q))/\LnOk 1 (nmsB b) q/\q.d=rulD r/\q.a=r.nm/\q.tx.length<=2000:=by
 have n10:=(n10B hb).1;have n1:=(n10B hb).2;have n4:(nmsB b).length<=4:=by have:=hb.i4;unfold nmsB;rw[zav];lia
 have hN:=jkb h.sh;have bv:∀ a∈nmsB b,a.length<=40:=fun a ha=>zdz (hN a ha).le (by decide)
 have nl:=(h.sh.rn r hr).le;obtain⟨c25,r25⟩:=h.r25 r hr;have cl:=h.rl r hr;have ml:(moreF (nmsB b).length m).length=(nmsB b).length:=by unfold moreF;rw[zav,List.length_range]
 have pl:(jki r.cs (moreF (nmsB b).length m)).length=(nmsB b).length:=by unfold jki;rw[zav,List.length_zip];lia
 have F:FOk _ (jki r.cs (moreF (nmsB b).length m),r.rest+7):=⟨pl,fun c hc=>by
  obtain⟨x,hx,y,hy,rfl⟩:=jKd hc;have:=c25 x hx;have:=jys y hy
  lia,by lia⟩
 have G:FOk _ (moreF _ m,7):=⟨ml,fun c hc=>by have:=jys c hc;lia,show (7:Int).natAbs<10 ^ 31 by decide⟩
 have sf:=shl bv F;have sg:=shl bv G;have og:=jur n1 n10 bv (fun a ha=>(hN a ha).ne) G;have a4:=md (i:=m / 64) (j:=4) (by decide);have a3:=md (i:=m / 256) (j:=3) (by decide);have e4:(((m / 64 % 4).toNat:Nat):Int)=m / 64 % 4:=Int.toNat_of_nonneg a4.1;have e3:(((m / 256 % 3).toNat:Nat):Int)=m / 256 % 3:=Int.toNat_of_nonneg a3.1;have ix:gIx midD _=some (sT (midL (m / 64 % 4).toNat)):=jm0 (jNx _ (jdi a4.1 a4.2));have mu:gMulT (sT [32]) (.int (((m / 256 % 3).toNat:Nat):Int))=some _:=jm0 (jFx _ (jdi a3.1 a3.2));rw[e4] at ix;rw[e3] at mu;have ht:(m / 256 % 3).toNat<=2:=by lia
 generalize (m / 256 % 3).toNat=t at mu ht;generalize (m / 64 % 4).toNat=s at ix;have mk:=jNy s;refine⟨⟨rlX r.nm (List.replicate t 32++(jbw (nmsB b) (jki r.cs (moreF (nmsB b).length m),r.rest+7)++List.replicate (midK s).1 32)) (List.replicate (midK s).2 32++((40::(jbw (nmsB b) (moreF (nmsB b).length m,7)++[41]))++List.replicate 0 32)),rulD r,r.nm⟩,?_,?_,rfl,rfl,?_⟩
 .have cf:=jba (c:=[oI m]) (fe:=jdq) (K:=fun o:Nat=>D.int (o:Int)) (List.range (nmsB b).length) none (fun k hk=>by
   have hk':=zcc.mp hk;unfold jdq;simp only[stp,(jbg (i:=m) (j:=(k:Int)+1) (by lia) (by lia))];rfl)
  rw[<- jz0,show ((List.range _).map fun k:Nat=>D.int _)=(moreF _ m).map .int from (List.map_map ..).symm] at cf;have cc:=je8 (c:=[]) (fe:=jfz) (K:=fun p=>(D.int p.1,D.int p.2)) (r.cs.zip (moreF (nmsB b).length m)) none none fun p _=>rfl
  have em:((r.cs.zip (moreF (nmsB b).length m)).map fun p=>D.int (p.1+p.2))=(jki r.cs (moreF (nmsB b).length m)).map .int:=by unfold jki;rw[List.map_map];rfl
  rw[em] at cc;have l1:((moreF (nmsB b).length m).map D.int).length<=1000:=by rw[zav];lia
  have l2:((jki r.cs (moreF (nmsB b).length m)).map D.int).length<=1000:=by rw[zav];lia
  unfold jen;rw[jhn];unfold jd8;rw[jao (jbm 3 (by simp only[stp,jka,cf,jbk l1];rfl))];rw[jao (jbm 4 (by simp only[stp,rl1,rl2,cc,jbk l2];rfl))];rw[jao (jbm 5 (jdl rfl (by simp only[stp,(jbg (j:=64) (by decide) (by decide))];rfl) ix))];refine (congrArg (·.b outD) (jao (jbm 6 (cats [(f2 gIx (vR 1) (cI 0),r.nm),(cS ": ",[58,32]),(f2 gMulT (cS " ") (f2 gMod (f2 gFdiv (vR 2) (cI 256)) (cI 3)),List.replicate t 32)] (Y:=lr4 b r m (of (jki r.cs (moreF (nmsB b).length m),r.rest+7)) (some (sT (midL s))) none) (kC jx8) ⟨jdl rfl rfl (rl0 r),kC jvc,jdl (kC jjg) (by simp only[stp,(jbg (i:=m) (j:=256) (by decide) (by decide))];rfl) mu,trivial⟩ (by simp[flt,kwL];lia))))).trans ?_;have ml':(midL s).length<=7:=by unfold midL;simp;lia
  refine Eq.trans (jz5 (cats [(fCall jc1 _,jbw (nmsB b) _),(vR 5,midL s),(cS "(",[40]),(fCall _ _,jbw (nmsB b) _),(cS ")",[41])] rfl ⟨(jur n1 n10 bv (fun a ha=>(hN a ha).ne) F),rfl,kC jyh,og,kC jIz,trivial⟩ (by simp[flt,kwL];lia))) ?_;unfold lnL rlX midL;simp only[flt,List.append_assoc,List.cons_append,List.nil_append,List.replicate_zero]
 .refine jyd (by lia) (h.sh.rn r hr) ((TxS.shown n10 hN h.ni F).pad t _) (((TxS.shown n10 hN h.ni G).paren).pad _ 0) (jza (ji1 hN _)) (fun z=>?_) (by simp;lia) (by simp;lia) (by grind) ?_
  .rcases zdy.mp z with z|z
   .grind
   .rw[List.replicate_zero,List.append_nil] at z;rcases List.mem_cons.mp z with z|z
    .cases z
    .rcases zdy.mp z with z|z
     .exact (jp7 (ji1 hN _ _ z)).1 rfl
     grind
  .rw[juf _ _ (by lia),show r.rest+7-7=r.rest by lia]
 .show (r.nm++([58,32]++((List.replicate t 32++(jbw (nmsB b) (jki r.cs (moreF (nmsB b).length m),r.rest+7)++List.replicate _ 32))++([62,61]++(List.replicate (midK s).2 32++((40::(jbw (nmsB b) _++[41]))++List.replicate 0 32)))))).length<=2000;simp
  lia
def dPt(al:Bool)(e:Nat)(u:List Nat)(q:List Nat×(Int×Int)):Option Pt:=if al=false/\q.2=(0,0) then none else some ⟨q.1,List.replicate e 32++shF u q.2,q.2⟩
theorem js6(h:dPt al e u q=some p):p=⟨q.1,List.replicate e 32++shF u q.2,q.2⟩:=by
 unfold dPt at h
 grind
theorem jGm{G:List Nat×(Int×Int)->Option Pt}(hG:∀ q p,G q=some p->p.a=q.1):∀ {l:List (List Nat×(Int×Int))},(l.map (·.1)).Nodup->((l.filterMap G).map (·.a)).Nodup
 | [],_=>List.nodup_nil
 | q::l,h=>by
  rw[List.map_cons,List.nodup_cons] at h;have ih:=jGm hG h.2;rw[List.filterMap_cons]
  split
  .exact ih
  .rename_i p e;rw[List.map_cons,List.nodup_cons];refine⟨fun z=>?_,ih⟩;obtain⟨p',hp,e'⟩:=zcv.mp z;obtain⟨q',hq,e2⟩:=List.mem_filterMap.mp hp;have e3:q.1=q'.1:=by rw[<- hG _ _ e,<- hG _ _ e2];exact e'.symm
   exact h.1 (e3 ▸ List.mem_map_of_mem hq)
def padT(t:Nat):List Pt->List Pt
 | []=>[]
 | [p]=>[p]
 | p::q::ps=>⟨p.a,p.x++List.replicate t 32,p.c⟩::padT t (q::ps)
theorem jua(t:Nat):∀ ps:List Pt,jap (List.replicate t 32++[44,32]) (ps.map ptL)=jap [44,32] ((padT t ps).map ptL)
 | []=>rfl
 | [p]=>rfl
 | [p,q]=>by
  show ptL p++((List.replicate t 32++[44,32])++ptL q)=(p.a++([32]++(p.x++List.replicate t 32)))++([44,32]++ptL q);unfold ptL;simp only[List.append_assoc]
 | p::q::r::ps=>by
  show ptL p++((List.replicate t 32++[44,32])++jap _ ((q::r::ps).map ptL))=(p.a++([32]++(p.x++List.replicate t 32)))++([44,32]++jap _ ((padT t (q::r::ps)).map ptL));rw[(jua t _)];unfold ptL;simp only[List.append_assoc]
theorem jzd:∀ {ps:List Pt},p∈padT t ps->∃ q∈ps,∃ k,k<=t/\p=⟨q.a,q.x++List.replicate k 32,q.c⟩
 | [],h=>by cases h
 | [q],h=>⟨q,zaa,0,Nat.zero_le _,by cases zdx.mp h;simp⟩
 | q::r::ps,h=>by
  rcases List.mem_cons.mp h with rfl|h
  .grind
  .obtain⟨s,hs,k⟩:=jzd h;exact⟨s,zaw _ hs,k⟩
theorem jJ5:∀ ps:List Pt,(padT t ps).map (·.a)=ps.map (·.a)
 | []=>rfl
 | [p]=>rfl
 | p::q::ps=>congrArg (p.a::·) (jJ5 _)
def rotL{α:Type}(k:Nat)(xs:List α):List α:=xs.drop k++xs.take k
def jog(k:Nat)(xs:List α):(rotL k xs).Perm xs:=List.perm_append_comm.trans (by simp_all)
def dPs(b:Bk)(d:Ded)(u:List Nat)(al:Bool)(e t k:Nat):List Pt:=padT t (rotL k (((nmsB b).zip d.chs).filterMap (dPt al e u)))
def jw9(h:p∈dPs b d u al e t k):∃ q∈(nmsB b).zip d.chs,∃ n,n<=t/\p=⟨q.1,List.replicate e 32++(shF u q.2++List.replicate n 32),q.2⟩:=by
 obtain⟨p1,h1,n,hn,rfl⟩:=jzd h;obtain⟨q,hq,e1⟩:=List.mem_filterMap.mp ((jog _ _).mem_iff.mp h1)
 grind [js6,List.append_assoc]
def dln(hb:BkOk 206 b)(h:DrOk b)(hd:d∈b.dds)(hu:Nm u)(al:Bool)(k:Nat)(he:e+t<=100):LnOk 2 (nmsB b) ⟨ddT d.nm u d.lo d.hi++([58,32]++chT (dPs b d u al e t k)),dedD d,d.nm⟩:=by
 have hk:=h.sh.dd d hd;have i4:=hb.i4;have nl:(nmsB b).length=b.its.length:=by unfold nmsB;rw[zav]
 have P:∀ p∈dPs b d u al e t k,PtOk _ u p/\10∉p.x:=fun p hp=>by
  obtain⟨q,hq,n,hn,rfl⟩:=jw9 hp;exact jO1 hu hk hq e n (by lia)
 have ea:((dPs b d u al e t k).map (·.a)).Perm ((((nmsB b).zip d.chs).filterMap (dPt al e u)).map (·.a)):=by
  unfold dPs;rw[jJ5];exact (jog _ _).map _
 have nd:=ea.nodup_iff.mpr (jGm (fun q p e=>by rw[js6 e]) (by rw[List.map_fst_zip (by rw[h.dl d hd];lia)];exact h.ni));refine jyc (by lia) hk.nm hu hk.lo hk.hi (fun p hp=>(P p hp).1) (fun p hp=>(P p hp).2) nd ?_ ?_
 .have:=ea.length_eq
  grind
 .refine jtu h.ni (h.dl d hd) nd (fun p hp=>?_) (fun q hq hz=>?_)
  .obtain⟨q,hq,n,_,rfl⟩:=jw9 hp;exact hq
  .refine ea.mem_iff.mpr (zcv.mpr ⟨⟨q.1,List.replicate e 32++shF u q.2,q.2⟩,List.mem_filterMap.mpr ⟨q,hq,?_⟩,rfl⟩);unfold dPt
   grind
noncomputable abbrev dl(b:Bk)(d:Ded)(m:Int)(u:List Nat)(ws:LL)(x y z w:Option D):DSt:=[oN (nmsB b),some (dedD d),oI m,some (sT u),oN ws,x,y,z,w]
def jL1(xs:List α)(k:Nat)(h:k<=xs.length):cutL xs (some (k:Int)) none=xs.drop k:=by
 unfold cutL;rw[HT.sIx_none,HT.sIx_nat,Nat.min_eq_left h,List.take_of_length_le (by grind)]
def jL0(xs:List α)(k:Nat)(h:k<=xs.length):cutL xs none (some (k:Int))=xs.take k:=by
 grind [cutL,HT.sIx_none,HT.sIx_nat,Nat.min_eq_left]
theorem jup(ag:List Nat):∀ ws:LL,(ws.map (·.length)).sum<=(jap ag ws).length
 | []=>zac _
 | [w]=>zac _
 | w::v::ws=>by
  have ih:=jup ag (v::ws);show w.length+((v::ws).map _).sum<=(w++(ag++jap ag _)).length
  grind
def l_k:Str.ofString "k"=St [107]:=by decide +kernel
def l_aj:Str.ofString "abcdefghij"=St [97,98,99,100,101,102,103,104,105,106]:=by decide +kernel
def jRf:Str.ofString " , "=St [32,44,32]:=by decide +kernel
def jNl(hb:BkOk 206 b)(h:DrOk b)(hd:d∈b.dds):∃ q:Ln,jei [.lst (nmD (nmsB b)),dedD d,.int m]=oK (sT (lnL 2 q))/\LnOk 2 (nmsB b) q/\q.d=dedD d/\q.a=d.nm:=by
 have n1:=(n10B hb).2;have i4:=hb.i4;have nl:(nmsB b).length=b.its.length:=by unfold nmsB;rw[zav]
 have hk:=h.sh.dd d hd;have hN:=jkb h.sh;obtain⟨a0,rest,en⟩:∃ a0 rest,nmsB b=a0::rest:=by
  cases e:nmsB b<;>grind
 have Uq:∃ u,Nm u/\gIx (.lst [.str (Str.ofString "n"),.str (Str.ofString "k"),.str (Str.ofString "abcdefghij"),sT a0]) (.int (m % 4))=some (sT u):=by
  have a4:=md (i:=m) (j:=4) (by decide);obtain⟨k,hk⟩:∃ k:Nat,m % 4=(k:Int):=⟨(m % 4).toNat,(Int.toNat_of_nonneg a4.1).symm⟩
  have k4:k<4:=by have:=a4.2;lia
  rw[hk,ix_l,l_n,l_k,l_aj]
  match k,k4 with
  | 0,_=>exact⟨_,nm_n,atI_get rfl⟩
  | 1,_=>exact⟨_,jm4 (by decide),atI_get rfl⟩
  | 2,_=>exact⟨_,jm4 (by decide),atI_get rfl⟩
  | 3,_=>exact⟨_,hN a0 (by grind),atI_get rfl⟩
 obtain⟨u,hu,gu⟩:=Uq;have d4:=jbg (i:=m) (j:=4) (by decide) (by decide);have d8:=jbg (i:=m) (j:=8) (by decide) (by decide);have d16:=jbg (i:=m) (j:=16) (by decide) (by decide);have cj:=jbg (i:=m) (j:=128) (by decide) (by decide);have m2:=fun i=>jbz (i:=i) (j:=2) (by decide)
 have m4:=jbz (i:=m) (j:=4) (by decide);have e2:=md (i:=m / 8) (j:=2) (by decide);have az:=md (i:=m / 128) (j:=2) (by decide);obtain⟨e,he⟩:∃ k:Nat,m / 8 % 2=(k:Int):=⟨(m / 8 % 2).toNat,(Int.toNat_of_nonneg e2.1).symm⟩
 obtain⟨t,ht⟩:∃ k:Nat,m / 128 % 2=(k:Int):=⟨(m / 128 % 2).toNat,(Int.toNat_of_nonneg az.1).symm⟩
 have le:e<2:=by have:=e2.2;lia
 have lt:t<2:=by have:=az.2;lia
 have mu:=jm0 (jFx e (zcc.mpr (by lia)));have gs:gIx (.lst [.str (Str.ofString ", "),.str (Str.ofString " , ")]) (.int (t:Nat))=some (sT (List.replicate t 32++[44,32])):=by
  rw[ix_l,jNq,jRf]
  match t,lt with
  | 0,_=>exact atI_get rfl
  | 1,_=>exact atI_get rfl
 generalize ha:decide (m / 4 % 2=0)=al
 let F:List Nat×(Int×Int)->Option (List Nat):=fun q=>(dPt al e u q).map ptL
 let ps:=((nmsB b).zip d.chs).filterMap (dPt al e u)
 have eF:((nmsB b).zip d.chs).filterMap F=ps.map ptL:=(List.map_filterMap ..).symm;obtain⟨x',y',lp⟩:=jny (g:=jck) (tg:=jbe 5 6) (mk:=fun ws x y=>dl b d m u ws x y none none) (F:=F) (fun q ps x y=>rfl) ((nmsB b).zip d.chs) [] none none (fun q hq ws hw=>by
  obtain⟨h1,h2⟩:=hk.ck.at' hq;have nl:=h1.le;have sl:=jqj hu h2;have t0:=jJq (i:=6) (c:=q.2) (Y:=dl b d m u ws (some (sT q.1)) (some (chD q.2)) none none) rfl;have t1:t2 gEq (f2 gMod (f2 gFdiv (vR 2) (cI 4)) (cI 2)) (cI 0) (dl b d m u ws (some (sT q.1)) (some (chD q.2)) none none)=oK al:=by
   rw[<- ha];simp only[stp,d4,m2];rfl
  have tt:DL.tOr (t2 gNe (vR 6) (fL ja1 (jaa (cI 0) (jaa (cI 0) fNil)))) (t2 gEq (f2 gMod (f2 gFdiv (vR 2) (cI 4)) (cI 2)) (cI 0)) (dl b d m u ws (some (sT q.1)) (some (chD q.2)) none none)=some (.ok !(decide (al=false/\q.2=(0,0)))):=by
   unfold DL.tOr;rw[t0,M.b_ok,t1]
   by_cases hz:q.2=(0,0)<;>cases al<;>simp[hz]<;>rfl
  show jck _=nX (dl b d m u (addO ws ((dPt al e u q).map ptL)) _ _ _ _);unfold jck dPt
  by_cases hz:al=false/\q.2=(0,0)
  .rw[if_pos hz];exact jg6 (by grind)
  .rw[if_neg hz,w_if (by rw[tt,decide_eq_false hz]),if_pos (by decide)];exact jmr (i:=4) (cats [(cS " ",[32]),(f2 gMulT (cS " ") (f2 gMod (f2 gFdiv (vR 2) (cI 8)) (cI 2)),List.replicate e 32),(_,shF u q.2)] (fa:=vR 5) (a:=q.1) rfl ⟨kC jjg,by simp only[stp,d8,m2,he,jjg,mu];rfl,jq9 (fu:=vR 3) (fc:=vR 6) (jNp hu h2) rfl rfl,trivial⟩ (by simp[flt];lia)) rfl (by lia)) (by grind)
 rw[List.nil_append,eF] at lp;have pl:ps.length<=4:=zdz (List.length_filterMap_le _ _) (by grind);have k1:=md (i:=m / 16) (j:=ps.length+1) (by lia);obtain⟨k,hk1⟩:∃ k:Nat,m / 16 % ((ps.length+1:Nat):Int)=(k:Int):=⟨(m / 16 % ((ps.length+1:Nat):Int)).toNat,(Int.toNat_of_nonneg k1.1).symm⟩
 have lk:k<=ps.length:=by have:=k1.2;lia
 have mk:=jbz (i:=m / 16) (j:=((ps.length+1:Nat):Int)) (by lia);rw[hk1] at mk;have L:=dln hb h hd hu al k (e:=e) (t:=t) (by lia);have ec:chT (dPs b d u al e t k)=(jap (List.replicate t 32++[44,32]) ((rotL k ps).map ptL)++if (rotL k ps).map ptL=[] then [45] else []):=by
  unfold chT;rw[jua]
  by_cases z:rotL k ps=[]
  .have:dPs b d u al e t k=[]:=congrArg (padT t) z;rw[if_pos this,if_pos (by rw[z];rfl),z];rfl
  .have:dPs b d u al e t k≠[]:=fun y=>z (by have:=congrArg (List.map (·.a)) y;unfold dPs at this;rw[jJ5] at this;exact List.map_eq_nil_iff.mp this)
   rw[if_neg this,if_neg (fun y=>z (List.map_eq_nil_iff.mp y)),List.append_nil];rfl
 have ll:(ddT d.nm u d.lo d.hi++([58,32]++chT (dPs b d u al e t k))).length<=45000:=L.len;rw[ec] at ll L;refine⟨⟨ddT d.nm u d.lo d.hi++([58,32]++(jap (List.replicate t 32++[44,32]) ((rotL k ps).map ptL)++if (rotL k ps).map ptL=[] then [45] else [])),dedD d,d.nm⟩,?_,L,rfl,rfl⟩;generalize hw:(rotL k ps).map ptL=ws at ll;have lw:ws.length<=4:=by rw[<- hw,zav,(jog k ps).length_eq];exact pl
 have lh:(ddT d.nm u d.lo d.hi).length+(jap (List.replicate t 32++[44,32]) ws).length<=45000:=by simp at ll;lia
 have jn:jgp (St (List.replicate t 32++[44,32])) (.lst (nmD ws))=some (sT (jap (List.replicate t 32++[44,32]) ws)):=jkr (by
  have:=jup (List.replicate t 32++[44,32]) ws;have b':=Nat.mul_le_mul_right (List.replicate t 32++[44,32]).length lw
  grind)
 have ln:(ps.map ptL).length=ps.length:=zav ..;have sl:f2 gCat (fSl (vR 4) (jdn (vR 7)) oNone) (fSl (vR 4) oNone (jdn (vR 7))) (dl b d m u (ps.map ptL) x' y' (oI (k:Nat)) none)=oK (.lst (nmD ws)):=by
  have nd:(nmD (ps.map ptL)).length=ps.length:=by rw[jka,ln]
  refine jdl (jvy (x:=.lst (nmD (ps.map ptL))) (lo:=some (k:Int)) (hi:=none) rfl rfl rfl (congrArg (fun z=>some (D.lst z)) (jL1 _ k (by rw[nd];exact lk)))) (jvy (x:=.lst (nmD (ps.map ptL))) (lo:=none) (hi:=some (k:Int)) rfl rfl rfl (congrArg (fun z=>some (D.lst z)) (jL0 _ k (by rw[nd];exact lk)))) ((jwu (by grind [List.length_drop,List.length_take,sizeLine_eq])).trans ?_);rw[<- hw];unfold nmD rotL;simp only[List.map_append,List.map_drop,List.map_take]
 have c8:=cats [(f2 gIx (vR 1) (cI 0),d.nm),(cS " ",[32]),(vR 3,u),(cS " ",[32]),(fL kStr (jaa (f2 gIx (vR 1) (cI 1)) fNil),numT d.lo),(cS " ",[32]),(fL kStr (jaa (f2 gIx (vR 1) (cI 2)) fNil),numT d.hi),(cS ": ",[58,32])] (a:=kwL 2++[32]) (Y:=dl b d m u ws x' y' (oI (k:Nat)) none) (kC jx6) ⟨jdl (x:=dedD d) (y:=.int 0) rfl rfl rfl,kC jjg,rfl,kC jjg,jho (jdl (x:=dedD d) (y:=.int 1) rfl rfl rfl) (jjt hk.lo),kC jjg,jho (jdl (x:=dedD d) (y:=.int 2) rfl rfl rfl) (jjt hk.hi),kC jvc,trivial⟩ (by rw[juz] at lh;simp[flt,kwL] at lh |-;lia);rw[show kwL 2++[32]++flt _=kwL 2++([32]++(ddT d.nm u d.lo d.hi++[58,32])) by rw[juz];simp only[flt,List.append_assoc]] at c8;have lj:(kwL 2++([32]++(ddT d.nm u d.lo d.hi++[58,32]))).length+(jap (List.replicate t 32++[44,32]) ws).length<=80000:=by simp[kwL];lia
 unfold jei;rw[jhn];show (jcy [oN (nmsB b),some (dedD d),oI m,none,none,none,none,none,none]).b outD=_;unfold jcy;rw[jao (jbm 3 (jdl (x:=.lst [.str (Str.ofString "n"),.str (Str.ofString "k"),.str (Str.ofString "abcdefghij"),sT a0]) (y:=.int (m % 4)) (by simp only[stp,en,nmD];rfl) (by simp only[stp,m4];rfl) gu))];rw[jao (Y':=dl b d m u [] none none none none) rfl];rw[jao (show gFor _ _ _ _=nX _ from by
  rw[jor (ds:=((nmsB b).zip d.chs).map chQ) (by simp only[stp,show gIx (dedD d) (.int 3)=some (.tup (d.chs.map chD)) from rfl,jwx];rfl)];exact lp)]
 rw[jao (Y':=dl b d m u (ps.map ptL) x' y' (oI (k:Nat)) none) (jbm 7 (jdl (x:=.int (m / 16)) (y:=.int ((ps.length+1:Nat):Int)) (by simp only[stp,d16];rfl) (by
  show some (Except.ok (D.int ((nmD (ps.map ptL)).length+1:Int)))=_;rw[jka,ln];rfl) mk))]
 rw[jao (Y':=dl b d m u ws x' y' (oI (k:Nat)) none) (jbm 4 sl)];refine (congrArg (·.b outD) (jao (jbm 8 c8))).trans ?_;have Jq:f2 gCat (vR 8) (fSm jgp (f2 gIx (fL jar (jaa (fC (.str ", ")) (jaa (fC (.str " , ")) fNil))) (f2 gMod (f2 gFdiv (vR 2) (cI 128)) (cI 2))) (vR 4)) (dl b d m u ws x' y' (oI (k:Nat)) (some (sT (kwL 2++([32]++(ddT d.nm u d.lo d.hi++[58,32]))))))=_:=jE5 rfl (jhm (jdl (y:=.int (t:Nat)) rfl (by simp only[stp,cj,m2,ht];rfl) gs) rfl jn) (by lia);refine (congrArg (·.b outD) (jb1 (jAy (i:=4) (ws:=ws) Jq rfl (by grind)))).trans ?_;show some (Except.ok (D.str (St _)))=_
 grind [lnL,List.append_assoc]
structure Lns{α:Type}(p:Nat)(aa:LL)(K:α->D)(nm:α->List Nat)(xs:List α)(qs:List Ln):Prop where
 ok:∀ q∈qs,LnOk p aa q
 d:qs.map (·.d)=xs.map K
 a:qs.map (·.a)=xs.map nm
theorem jq5{α:Type}{p:Nat}{aa:LL}{K:α->D}{nm:α->List Nat}{fe:DSt->M D}{c:DSt}:∀ (xs:List α) (k:Nat) (x y:Option D),(∀ a∈xs,∀ k:Nat,k<=100->∃ q:Ln,fe (oI (k:Nat)::some (K a)::c)=oK (sT (lnL p q))/\LnOk p aa q/\q.d=K a/\q.a=nm a)->k+xs.length<=100 ->
  ∃ qs:List Ln,jcn (jbe 0 1) tYes fe (jgn (k:Int) (xs.map K)) (x::y::c)=some (nmD (qs.map (lnL p)))/\Lns p aa K nm xs qs
 | [],_,_,_,_,_=>⟨[],rfl,⟨(fun q hq=>nomatch hq),rfl,rfl⟩⟩
 | a::xs,k,x,y,h,hl=>by
  rw[List.length_cons] at hl;obtain⟨q,e,h1,h2,h3⟩:=h a zaa k (by lia);obtain⟨qs,e2,g⟩:=jq5 xs (k+1) _ _ (fun z hz=>h z (zaw _ hz)) (by lia);refine⟨q::qs,?_,⟨fun z hz=>?_,?_,?_⟩⟩
  .rw[List.map_cons];unfold jgn jcn;rw[show jbe 0 1 _ _=some (oI _::some _::c) from rfl];dsimp only [M.p];rw[e,show ((k:Int)+1)=((k+1:Nat)) from rfl,e2];rfl
  .rcases List.mem_cons.mp hz with rfl|hz
   .exact h1
   .exact g.ok z hz
  .rw[List.map_cons,List.map_cons,g.d,h2]
  .rw[List.map_cons,List.map_cons,g.a,h3]
def Lns.len(h:Lns p aa K nm xs qs):qs.length=xs.length:=by
 have:=congrArg List.length h.d
 grind
def jDe(ns:List Int)(hb:BkOk 206 b)(h:DrOk b):∃ lr ld,jel [scr ns,bkD b]=oK (sT (jap [10] (jdx (liB b) lr ld)))/\LsB b (liB b) lr ld/\(jap [10] (jdx (liB b) lr ld)).length<=1000000:=by
 have i4:=hb.i4;have r5:=hb.r5;have d6:=hb.d6;have nl:(nmsB b).length=b.its.length:=by unfold nmsB;rw[zav]
 obtain⟨lr,e3,h3⟩:=jq5 (fe:=jcl) (c:=[some (scr ns),oN (nmsB b)]) _ 0 _ none (fun r hr k hk=>by
  obtain⟨q,h1,h2,h3,h4,_⟩:=jNo hb h hr (m:=drF ns (230+k));refine⟨q,?_,h2,h3,h4⟩;unfold jcl;simp only[stp,jhw (k:=230+(k)) (by lia) (by lia),h1]) (by lia)
 obtain⟨ld,e4,h4⟩:=jq5 (fe:=jcm) (c:=[some (scr ns),oN (nmsB b)]) _ 0 none none (fun d hd k hk=>by
  obtain⟨q,h1,h2⟩:=jNl hb h hd (m:=drF ns (240+k));refine⟨q,?_,h2⟩;unfold jcm;simp only[stp,jhw (k:=240+(k)) (by lia) (by lia),h1]) (by lia)
 have lr5:=h3.len;have ld6:=h4.len;have li:(liB b).length=b.its.length:=by unfold liB;rw[zav]
 have L:LsB b (liB b) lr ld:=by
  have B:=jFo hb h;refine⟨⟨B.ok.i,by rw[jha];exact h3.ok,by rw[jha];exact h4.ok,B.ok.ni,by rw[h3.a];exact h.nr,by rw[h4.a];exact h.nd,B.ok.zi,by lia,by lia,B.ok.i1⟩,B.ei,h3.d,h4.d⟩
 have ll:∀ l∈jdx _ lr ld,l.length<=45010:=fun l hl=>by
  unfold jdx at hl;simp only[zdy,zcv] at hl;rcases hl with ⟨q,hq,rfl⟩|⟨q,hq,rfl⟩|⟨q,hq,rfl⟩
  .have:=(L.ok.i q hq).len;unfold lnL;simp[kwL];lia
  .have:=(L.ok.r q hq).len;unfold lnL;simp[kwL];lia
  .have:=(L.ok.d q hq).len;unfold lnL;simp[kwL];lia
 have ln:(jdx (liB b) lr ld).length<=15:=by unfold jdx;simp;lia
 have jn:=jkr (ag:=[10]) (ps:=jdx (liB b) lr ld) (by
  have js:=jkw ll;simp only[List.length_cons,List.length_nil]
  lia)
 refine⟨lr,ld,?_,L,zdz (jlj ll) (zdz (Nat.mul_le_mul_right _ ln) (by decide))⟩;have c1:=jba (c:=[]) (fe:=jfx) (K:=itD) b.its none fun p hp=>rfl
 have c2:=je8 (c:=[]) (fe:=jfy) (K:=fun p=>(D.str _,D.int p.2)) (F:=fun p=>sT (itL p)) _ none none fun p hp=>by
  have nl:=(h.sh.nm p hp).le;have n1:=jb0 (h.sh.it p hp);exact cats [(vR 0,p.1),(cS " ",[32]),(fL kStr (jaa (vR 1) fNil),numT p.2)] (kC jx7) ⟨rfl,kC jjg,jho rfl (jjt (h.sh.it p hp)),trivial⟩ (by simp[flt,kwL];lia)
 have e1:(b.its.map fun p=>D.str (St p.1))=nmD (nmsB b):=by unfold nmD nmsB;rw[List.map_map];rfl
 have e2:(b.its.map fun p=>D.str (St (itL p)))=nmD ((liB b).map (lnL 0)):=by unfold nmD liB;rw[List.map_map,List.map_map];rfl
 rw[e1] at c1;rw[e2] at c2;have l1:(nmD (nmsB b)).length<=10:=by rw[jka];lia
 have l2:(nmD ((liB b).map (lnL 0))).length<=10:=by rw[jka,zav];lia
 have l3:(nmD (lr.map (lnL 1))).length<=10:=by rw[jka,zav];lia
 have l4:(nmD (ld.map (lnL 2))).length<=10:=by rw[jka,zav];lia
 unfold jel;rw[jd5];unfold jd7;rw[jao (jbm 2 (by simp only[stp,c1,jbk (zdz l1 (by decide))];rfl)),jao (Y':=[some _,some _,oN _,oN _]) (jbm 3 (by show (M.o ((jcn _ tYes _ (b.its.map fun p=>D.tup _) [none,none]).bind _))=_;rw[c2,Option.bind_some,jbk (zdz l2 (by decide))];rfl))];have x3:ja8 2 [("_law_script",0),("_law_names",2)] (jby jcw (jaa (f2 gIx (vR 1) (cI 1)) fNil)) (jbe 0 1) tYes jcl [some (scr ns),some (bkD b),oN (nmsB b),oN ((liB b).map (lnL 0))]=oK (.lst (nmD (lr.map (lnL 1)))):=by
  simp only[stp];show (M.o ((jcn _ _ _ (jgn ((0:Nat)) _) _).bind _))=_;rw[e3,Option.bind_some,jbk (zdz l3 (by decide))];rfl
 rw[jao (jte x3 rfl (by lia))];have x4:ja8 2 [("_law_script",0),("_law_names",2)] (jby jcw (jaa (f2 gIx (vR 1) (cI 2)) fNil)) (jbe 0 1) tYes jcm [some (scr ns),some (bkD b),oN (nmsB b),oL (nmD ((liB b).map (lnL 0))++nmD (lr.map (lnL 1)))]=oK (.lst (nmD (ld.map (lnL 2)))):=by
  simp only[stp];show (M.o ((jcn _ tYes _ (jgn ((0:Nat)) _) _).bind _))=_;rw[e4,Option.bind_some,jbk (zdz l4 (by decide))];rfl
 refine (congrArg (·.b outD) (jao (jte (xs:=nmD _++nmD _) x4 rfl (by grind)))).trans ?_;refine (congrArg (·.b outD) (jb1 (jhm (kC jI0) ?_ jn))).trans rfl;rw[jpy,jpy,List.append_assoc];rfl
inductive Pl:Nat->D->Prop
 | int (n:Nat) (i:Int):Pl (n+1) (.int i)
 | str (n:Nat) (s:Str):Pl (n+1) (.str s)
 | tup {n:Nat} {ds:List D} (h:∀ d∈ds,Pl n d):Pl (n+1) (.tup ds)
def lev:Nat->List D->M D
 | 0=>je4
 | n+1=>mir 1 1 (jda (lev n))
theorem jq7{c:DSt}{fe:DSt->M D}{t:DSt->M Bool}:∀ (ds:List D) (x:Option D),(∀ d∈ds,t (some d::c)=oK false)->jcn (gName 0) t fe ds (x::c)=some []
 | [],_,_=>rfl
 | d::ds,x,h=>by
  unfold jcn;rw[show gName 0 d _=some (some d::c) from rfl];dsimp only;rw[h d zaa];exact jq7 ds _ fun e he=>h e (zaw _ he)
def jF1{m:List D->M D}{d:D}{c:DSt}(h:m [d]=oK (.bl true)):DL.tNot (tTru (fCall m (jaa (vR 0) fNil))) (some d::c)=oK false:=by
 simp only[stp,h];rfl
def len0(hs:jbs (vR i) Y=oK ds)(e:jcn (gName 0) t fe ds [none]=some []):fL kLen (jaa (ja8 1 [] (jbs (vR i)) (DL.gName 0) t fe) fNil) Y=oK (.int 0):=by
 refine jho (x:=.lst []) ?_ rfl;rw[jFf,hs,M.b_ok];show M.o ((jcn _ t fe ds [none]).bind _)=_;rw[e];rfl
def jRy(h:Pl n d):lev n [d]=oK (.bl true):=by
 induction h with
 | int n i=>rfl
 | str n s=>rfl
 | @tup n ds h ih =>
  unfold lev;rw[jdw];unfold jda;rw[jao rfl,jxd,w_if (b:=true) rfl,if_pos rfl,jb1 (jdl (len0 rfl (jq7 ds _ fun d hd=>jF1 (ih d hd))) rfl rfl)];rfl
def pl_d(h:Pl n d):okD d=true/\depD d<=n:=by
 induction h with
 | int n i=>exact⟨rfl,Nat.zero_le _⟩
 | str n s=>exact⟨rfl,Nat.zero_le _⟩
 | @tup n ds h ih =>
  have a:=jks (f:=id) fun d hd=>(ih d hd).1
  have c:=jip (f:=id) fun d hd=>(ih d hd).2
  rw[List.map_id] at a c;exact⟨a,Nat.succ_le_succ c⟩
def pl0(ds:List D):Prop:=∀ d∈ds,Pl 4 d
def pl_b(b:Bk):pl0 (b.its.map itD)/\pl0 (b.rls.map rulD)/\pl0 (b.dds.map dedD):=by
 refine⟨fun d hd=>?_,fun d hd=>?_,fun d hd=>?_⟩<;>obtain⟨x,_,rfl⟩:=zcv.mp hd<;>refine .tup fun y hy=>?_<;>simp at hy
 .rcases hy with rfl|rfl
  .exact .str ..
  .exact .int ..
 .rcases hy with rfl|rfl|rfl
  .exact .str ..
  .refine .tup fun z hz=>?_
   obtain⟨w,_,rfl⟩:=zcv.mp hz;exact .int ..
  .exact .int ..
 .rcases hy with rfl|rfl|rfl|rfl
  .exact .str ..
  .exact .int ..
  .exact .int ..
  .refine .tup fun z hz=>?_
   obtain⟨w,_,rfl⟩:=zcv.mp hz;refine .tup fun y hy=>?_
   simp at hy;rcases hy with rfl|rfl<;>exact .int ..
def bk_d(b:Bk):okD (bkD b)=true/\depD (bkD b)<=20:=by
 have P:∀ ds,pl0 ds->okDs ds=true/\depDs ds<=4:=fun ds h=>by
  have a:=jks (f:=id) fun d hd=>(pl_d (h d hd)).1
  have c:=jip (f:=id) fun d hd=>(pl_d (h d hd)).2
  simp_all
 obtain⟨h1,h2,h3⟩:=pl_b b;obtain⟨a1,c1⟩:=P _ h1;obtain⟨a2,c2⟩:=P _ h2;obtain⟨a3,c3⟩:=P _ h3;simp only[okD,okDs,depD,depDs,a1,a2,a3]
 grind
def jJ4{ta tb:DSt->MS Bool}{Y:DSt}(h:ta Y Ω=some (.ok false,Ω)):mOr ta tb Y Ω=tb Y Ω:=by
 simp_all [mOr,s_b,jah]
def ne_R{fa fb:DSt->MS D}{Y:DSt}{x y z:D}(h1:fa Y Ω=some (.ok x,Ω))(h2:fb Y Ω=some (.ok y,Ω))(hx:rsT Ω x=some z)(hy:rsT Ω y=some z)(o:okD z=true/\depD z<=20):mB (mNeR fa fb) Y Ω=some (.ok false,Ω):=by
 rw[s_B,s_b];unfold mNeR;rw[s_b,h1,jah,s_b,h2,jah];unfold neR;rw[hx,hy];dsimp only;rw[if_pos (by grind),jkn z o.1];rfl
def jl6(h:Ω[k]? = some (SO.lst ds))(hp:pl0 ds):jfh [some (bT n),some (bkD b),some (.obj k)] Ω=some (.ok (.nx [some (bT n),some (bkD b),some (.obj k)]),Ω):=by
 have i1:isiS [.obj k,.ty "list"] Ω=some (.ok (.bl true),Ω):=by
  unfold isiS res1;dsimp only;rw[h];rfl
 have t1:mNot (mTru (fun Y=>MS.b ((jbh (lF (vR 2)) (lF (jaa (fC (.ty "list")) fNil))) Y) isiS)) [some (bT n),some (bkD b),some (.obj k)] Ω=some (.ok false,Ω):=by
  show jgd (jgd (isiS [.obj k,.ty _] Ω) _) _=_;rw[i1];rfl
 have t2:jyj 2 (fL kLen (jaa (ja8 1 [] (jbs (vR 2)) (DL.gName 0) (DL.tNot (tTru (fCall jem (jaa (vR 0) fNil)))) jk3) fNil)) [some (bT n),some (bkD b),some (.obj k)] Ω=some (.ok (.int 0),Ω):=by
  unfold jyj;dsimp only [List.getElem?_cons_succ,List.getElem?_cons_zero,Option.join_some];rw[h];show MS.l _ Ω=_;unfold jM5;rw[(len0 rfl (jq7 (t:=DL.tNot (tTru (fCall jem _))) ds _ fun d hd=>jF1 (jRy (hp d hd))))];rfl
 simp_all [jfh,s_if,s_b,jJ4,s_B,s_2,t2]
def jKz(hS:BS n Ω (b.its.map itD) (b.rls.map rulD) (b.dds.map dedD)):jd1 [bT n,bkD b] Ω=some (.ok (.bl true),Ω):=by
 obtain⟨p1,p2,p3⟩:=pl_b b;refine jmn ?_;show jjb [some (bT n),some (bkD b),none] Ω=_;unfold jjb;have c1:eIf (mOr (mNot (mTru (lF (fL kIsi (jaa (vR 0) (jaa (fC (.ty "tuple")) fNil)))))) (mOr (mB (m2 gNe (lF (fL kLen (jaa (vR 0) fNil))) (lF (cI 3)))) (mB (mNeR (lF (vR 0)) (lF (vR 1)))))) (lF (gRet (fC (.bl false)))) eNx [some (bT n),some (bkD b),none] Ω=some (.ok (.nx [some (bT n),some (bkD b),none]),Ω):=by
  rw[s_if,s_b,jJ4 rfl,jJ4 rfl,ne_R (q_lf rfl) (q_lf rfl) hS.res rfl (bk_d b),jah];rfl
 rw[eseq c1];have c2:eFor (lF (jbs (vR 0))) (DL.gName 2) jfh [some (bT n),some (bkD b),none] Ω=some (.ok (.nx [some (bT n),some (bkD b),some (.obj (n+2))]),Ω):=by
  rw[jD6,s_b,q_lf rfl,jah,jcx rfl (jl6 hS.a p1),jcx rfl (jl6 hS.b p2),jcx rfl (jl6 hS.c p3)];rfl
 simp_all
noncomputable abbrev lq(ns:List Int)(b:Bk)(x2 x3 x4 x5:Option D):DSt:=[some (scr ns),some (bkD b),x2,x3,x4,x5]
def jHd{m:List D->MS D}{f:DSt->M D}{Y:DSt}{x d:D}{Ω Ω':Sto}(h1:f Y=some (.ok x))(h2:m [x] Ω=some (.ok d,Ω')):jcz m (lF (jaa f fNil)) Y Ω=some (.ok d,Ω'):=by
 rw[jf1,s_b,q_lf (by rw[jce,h1,M.b_ok];rfl),jah,h2]
def jKx{f:DSt->MS D}{Y:DSt}{n:Nat}{Ω Ω':Sto}(h:f Y Ω=some (.ok (bT n),Ω'))(h1:(Y[1]?).join=some (bkD b))(hS:BS n Ω' (b.its.map itD) (b.rls.map rulD) (b.dds.map dedD)):jcz jd1 (jbh f (lF (jaa (vR 1) fNil))) Y Ω=some (.ok (.bl true),Ω'):=by
 rw[jf1,s_b,jfe,s_b,h,jah,s_b,q_lf (by rw[jce,jBa h1,M.b_ok];rfl),jah,s_p,jah];exact jKz hS
def law_true:∀ ns:List Int,ns.length<=63->∃ Ω,jCy [.lst (ns.map .int)] []=some (.ok (.bl true),Ω):=fun ns hns=>by
 obtain⟨a,c,d,hc,ra,rc,rd⟩:=jw1 ns;obtain⟨b,hb0,hb⟩:=jG5 ns ra rc rd;have h:=jMj hb;obtain⟨k1,k2⟩:=bk_d b;obtain⟨Ω1,r1,S1,_⟩:=jqs hb [];obtain⟨lr,ld,ho,hL,hl⟩:=jDe ns hb h;obtain⟨d0,ds,ed⟩:∃ d0 ds,b.dds.map dedD=d0::ds:=by
  have:=hb.d1
  cases e:b.dds with
  | nil=>rw[e] at this;cases this
  | cons x xs=>exact⟨_,_,rfl⟩
 have d6:=hb.d6;generalize ht:jap _ _=t at r1
 let Ω2:=Ω1.set 0 (.lst [])
 have h2:Ω2[2]? = some (SO.lst (d0::ds)):=by rw[<- ed,<- S1.c];exact zbw (by decide)
 let Ω3:=Ω2.set 2 (.lst ((d0::ds)++[d0]))
 obtain⟨Ω4,r4,S4,_⟩:=jqs hb Ω3;rw[ht] at r4;have E:∃ Ω,jCf [some (scr ns),none,none,none,none,none] []=some (.ok (.rt (.bl true)),Ω):=by
  have e1:jGf [some _,none,none,none,none,none] []=some (.ok (.nx (lq ns b _ _ _ _)),[]):=q_lf (jbm 1 (jpf rfl (jpe rfl hc) hb0));have e2:jGg (lq ns b none _ none _) []=some (.ok (.nx (lq ns b _ none _ none)),[]):=q_lf (jbm 2 (by rfl));have e3:jGh (lq ns b _ none _ none) []=some (.ok (.nx (lq ns b (some (bkD b)) (some (sT t)) none _)),[]):=q_lf (jbm 3 (jpe rfl (by rw[<- ht];exact jD8 h.sh)));have e4:jGi _ []=some (.ok (.nx (lq ns b (some (bkD b)) (some (sT t)) none none)),[]):=q_lf (jg6 (by
   have lw:=jyg h.sh hb.i1;rw[ht] at lw;simp only[stp,lw,jyv (d:=sT t) rfl (Nat.zero_le _),jyv k1 k2];rfl))
  have e5:jz8 (lq ns b (some (bkD b)) (some (sT t)) none none) []=some (.ok (.nx (lq ns b (some (bkD b)) (some (sT t)) (some (bT 0)) none)),Ω1):=by
   unfold jz8;rw[jAd,s_b,jHd rfl r1,jah];rfl
  have e6:jz9 (lq ns b (some (bkD b)) (some (sT t)) (some (bT 0)) none) Ω1=some (.ok (.nx (lq ns b (some (bkD b)) (some (sT t)) (some (bT 0)) none)),Ω1):=by
   unfold jz9;rw[s_if,s_b,jKv,s_b,jKw,s_b,jKx (q_lf rfl) rfl S1,jah];rfl
  have e7:jAa (lq ns b (some (bkD b)) (some (sT t)) (some (bT 0)) none) Ω1=some (.ok (.nx (lq ns b (some (bkD b)) (some (sT t)) (some (bT 0)) none)),Ω2):=by
   unfold jAa jI1;rw[jhu,s_b,s_b,show m2 gIx _ _ _ Ω1=some _ from rfl,jah];unfold putL;dsimp only;rw[show Ω1[0]? = _ from S1.a];rfl
  have e8:jAb (lq ns b (some (bkD b)) (some (sT t)) (some (bT 0)) none) Ω2=some (.ok (.nx (lq ns b (some (bkD b)) (some (sT t)) (some (bT 0)) none)),Ω3):=by
   have x2:m2 gIx (lF (vR 4)) (lF (cI 2)) (lq ns b (some (bkD b)) (some (sT t)) (some (bT 0)) none) Ω2=some _:=rfl;unfold jAb jyi mIxL;rw[jhu,s_b,s_b,x2,jah,s_b,show chkL _ Ω2=some _ by unfold chkL;dsimp only;rw[h2],jah,s_b,s_b,x2,jah,s_b,q_lf rfl,jah,show atL _ _ Ω2=some _ by unfold atL;dsimp only;rw[h2];dsimp only;rw[at0];rfl,jah];unfold putL;dsimp only;rw[h2];dsimp only;unfold gApL;rw[if_pos (by rw[<- ed,zav,sizeLine_eq];lia)];rfl
  generalize hv:jap _ _=v at ho hl;have e9:jGj (lq ns b (some (bkD b)) (some (sT t)) (some (bT 0)) none) Ω3=some (.ok (.nx (lq ns b _ _ _ _)),Ω3):=q_lf (jbm 5 (jpf rfl rfl ho));have ln:kLen [sT v]=oI (v.length):=by rw[show kLen [sT v]=oI _ from if_pos (by rw[jbi,sizeLine_eq];lia),jbi]
  have bc:t2 gGt (fL kLen (jaa (vR 5) fNil)) (cI 4000) (lq ns b (some (bkD b)) (some (sT t)) (some (bT 0)) (some (sT v)))=oK (decide ((4000:Int)<(v.length))):=by
   simp only[stp,ln];rfl
  unfold jCf;rw[eseq e1,eseq e2,eseq e3,eseq e4,eseq e5,eseq e6,eseq e7,eseq e8,eseq e9]
  by_cases hz:(4000:Int)<(v.length)
  .refine⟨Ω3,?_⟩;have:jse _ Ω3=some _:=q_lf (by rw[w_if bc,decide_eq_true hz];rfl);rw[jsk,s_b,this];rfl
  .obtain⟨Ω5,r5,S5,_⟩:=jo0 hb hL (by rw[hv];lia) Ω4;rw[hv] at r5;refine⟨Ω5,?_⟩;have:jse _ Ω3=some _:=q_lf (jg6 (by rw[bc,decide_eq_false hz]));rw[eseq this];unfold jz7 jvd;rw[jqf,s_b,s_b,jKx (jHd rfl r4) rfl S4,jah];show jgd (jcz _ _ _ Ω4) _=_;rw[jKx (jHd rfl r5) rfl S5];rfl
 obtain⟨Ω,E⟩:=E;exact⟨Ω,jmn E⟩
end MyLaw
end
set_option maxRecDepth 100000 in
set_option maxHeartbeats 0 in
theorem PySem.Challenge.cw_apartbook_k13_books_shown_and_read_holds : PySem.Challenge.rw_apartbook_k13_books_shown_and_read.Holds := by
 w_on;o_law;z_head;(case hw=>w_witness2)
 k_fill
 refine MyLaw.walkZ (l:=PySem.Challenge.rw_apartbook_k13_books_shown_and_read) (fun P=>rfl) rfl rfl ?F MyLaw.law_true
 case F =>
  intro w mg fa h KX G hmg
  refine' ⟨?T,hmg⟩
  case T =>
   refine' MyLaw.txt_mk KX G ?ca_OpenSum ?cp_OpenSum ?cq_OpenSum ?cr_OpenSum ?cs_OpenSum ?cf0_OpenSum ?cf1_OpenSum ?cf2_OpenSum ?cf3_OpenSum ?nol ?hF ?hB ?a36 ?b36 ?i36 ?j36 ?l36 ?c36 ?k36 ?a40 ?b40 ?l40 ?c40 ?k40 ?a42 ?b42 ?l42 ?c42 ?k42 ?a43 ?b43 ?l43 ?c43 ?k43 ?y0 ?y1 ?y2 ?y3 ?yT ?y4 ?y5 ?y6 ?y7 ?y8 ?y9
   (case ca_OpenSum=>k_is);(case cp_OpenSum=>k_is);(case cq_OpenSum=>k_is);(case cr_OpenSum=>k_is);(case cs_OpenSum=>k_is);(case cf0_OpenSum=>k_is);(case cf1_OpenSum=>k_is);(case cf2_OpenSum=>k_is)
   (case cf3_OpenSum=>k_is);(case nol=>kernel_rfl);(case a36=>k_is);(case b36=>k_is);(case i36=>k_is);(case j36=>k_is);(case l36=>k_is);(case c36=>k_is)
   (case k36=>k_is);(case a40=>k_is);(case b40=>k_is);(case l40=>k_is);(case c40=>k_is);(case k40=>k_is);(case a42=>k_is);(case b42=>k_is)
   (case l42=>k_is);(case c42=>k_is);(case k42=>k_is);(case a43=>k_is);(case b43=>k_is);(case l43=>k_is);(case c43=>k_is);(case k43=>k_is)
   (case y0=>k_is);(case y1=>k_is);(case y2=>k_is);(case y3=>k_is);(case yT=>k_is);(case y4=>k_is);(case y5=>k_is);(case y6=>k_is)
   (case y7=>k_is);(case y8=>k_is);(case y9=>k_is)
   (case hB=>(repeat (refine' DL.l1 ?x ?_;(case x=>k_is)));exact DL.l0)
   (case hF=>(repeat (refine' DL.l1 ?x ?_;(case x=>dsimp only;refine' .mk ?a ?l ?c ?k;(case a=>k_is);(case l=>k_is);(case c=>k_is);(case k=>k_is))));exact DL.l0)