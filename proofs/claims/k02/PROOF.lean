import PyProof.Rows.All
import Wide.All
import OpenK.AllK
import Wide.FinOn
import Lean
import PyProof.EqAt
import PyProof.EqKinds
import PyProof.TupleCall
import PySem.Challenge.RW_apartbook_k02_no_sums
set_option Elab.async false
set_option linter.all false
set_option maxRecDepth 100000
namespace PySem.W.Fast
noncomputable def tw3508960375365869638:=PySem.Challenge.pw_apartbook_k02_no_sums
theorem te3508960375365869638:PySem.Challenge.pw_apartbook_k02_no_sums=tw3508960375365869638:=rfl
def tw947993028800565345:=0
def tw474634255058773316:=0
def tw2257105817559080901:=0
def tw12153503164065518035:=0
def tw16756455918041233382:=0
def tw1457193977747894245:=0
def tw9583522085646372082:=0
def tw14371816232893830877:=0
def tw5903176673639495795:=0
def tw12966274166503956194:=0
def tw3350200653458837149:=0
def tw6509775137545337842:=0
def tw8366438641495081584:=0
def tw6534344599953781791:=0
def tw9216798785633092548:=0
def tw12985276212879253462:=0
def tw11265640276740585430:=0
def tw3812523156939381918:=0
def tw17938512624044996374:=0
def tw1487867379467171629:=0
def tw1188092999741046254:=0
def tw1536410361956657670:=0
def tw6925566781401024993:=0
def tw15759649696898927970:=0
def tw10772827013472785836:=0
def tw4967484655077643157:=0
def tw3960297996943340699:=0
def tw8709076101054925813:=0
def tw12955114693453391808:=0
def tw15204786108507985447:=0
def tw3521417120198427706:=0
def tw11655967530431110752:=0
def tw9355501769925728670:=0
def tw8225534026938931397:=0
def tw11692078167079503779:=0
def tw2825141845793012087:=0
def tw5979446660035694901:=0
def tw16790435008166873956:=0
def tw1637638399452366316:=0
end PySem.W.Fast
set_option compiler.extract_closed false
noncomputable section
abbrev qa:=PySem.Str->Option PySem.Value
abbrev qb:=List (PySem.Addr×PySem.Obj)
abbrev qc:=PySem.Value->PySem.Shared->Prop
abbrev qd:=PySem.Addr->Bool
abbrev qe:=Array (Option PySem.Value)
abbrev qf:=List (PySem.Str×Nat)
abbrev zax.{u}:=@List.getElem?_eq_getElem.{u}
abbrev zay:=@PySem.wpAny_bind
abbrev zaz:=@PySem.Heap.get?_push_of_some
abbrev zav.{u,v}:=@List.length_map.{u,v}
abbrev zaw.{u}:=@List.mem_cons_of_mem.{u}
abbrev zaa.{u}:=@List.mem_cons_self.{u}
abbrev zab:=@PySem.wpAny_pure
abbrev zac:=@Nat.le_refl
abbrev zbx.{u}:=@List.size_toArray.{u}
abbrev zby.{u}:=@Option.some.inj.{u}
abbrev zbz:=@PySem.Heap.get?_push_size
abbrev zbv:=@PySem.Heap.lt_size
abbrev zbw.{u}:=@List.getElem?_set_ne.{u}
abbrev zba.{u,v}:=@List.getElem?_map.{u,v}
abbrev zbb.{u}:=@List.getElem?_eq_some_iff.{u}
abbrev zbc.{u}:=@List.contains_iff_mem.{u}
abbrev zcx:=@Nat.lt_of_lt_of_le
abbrev zcy.{u}:=@List.mem_append_right.{u}
abbrev zcz.{u}:=@List.getElem?_set_self.{u}
abbrev zcv:=@Nat.ne_of_lt
abbrev zcw:=@Int.emod_nonneg
abbrev zca:=@Int.emod_lt_of_pos
abbrev zcb.{u}:=@List.length_append.{u}
abbrev zcc.{u}:=@List.mem_singleton.{u}
abbrev zdx:=@Nat.le_trans
open PySem PySem.Spec namespace L2
open PyProof.Rows
abbrev zsE(e:Expr)(es:List Expr)(v:Env):Prop:=starEach (e::es) v=(false,eval e v)::starEach es v
abbrev zbT(p:Pos)(es:List Expr)(v:Env):Prop:=(backTo p (starEach es v)).any (·.1)=false
abbrev Key:=Sum Int Str
def jE3:Key->Value->Bool
 | .inl k,v=>Value.isInt k v
 | .inr x,v=>Value.isStrOf x v
def keyH(w:World):Key->Int
 | .inl k=>hashInt k
 | .inr x=>hashStr w x
def jcn:∀ {k:Key} {v:Value},jE3 k v=true->(∃ i t,k=Sum.inl i/\v=Value.int i t)\/(∃ x t,k=Sum.inr x/\v=Value.str x t)
 | .inl i,v,h=>by
  obtain⟨t,e⟩:=Value.isInt_shape (k:=i) (v:=v) h;exact .inl ⟨i,t,rfl,e⟩
 | .inr x,v,h=>by
  obtain⟨t,e⟩:=Value.isStrOf_shape (x:=x) (v:=v) h;exact .inr ⟨x,t,rfl,e⟩
def jE4(a b:Int):decide ((Sum.inl a:Key)=Sum.inl b)=(a == b):=by
 by_cases e:a=b
 ·subst e;simp
 ·have h:¬ (Sum.inl a:Key)=Sum.inl b:=fun q=>e (Sum.inl.inj q)
  rw[decide_eq_false h];exact (beq_eq_false_iff_ne.mpr e).symm
def jE7(a b:Str):decide ((Sum.inr a:Key)=Sum.inr b)=decide (a=b):=by
 by_cases e:a=b
 ·subst e;simp
 ·have h:¬ (Sum.inr a:Key)=Sum.inr b:=fun q=>e (Sum.inr.inj q)
  rw[decide_eq_false h,decide_eq_false e]
def jE5(a:Int)(b:Str):decide ((Sum.inl a:Key)=Sum.inr b)=false:=decide_eq_false (fun q=>nomatch q)
def jE6(a:Str)(b:Int):decide ((Sum.inr a:Key)=Sum.inl b)=false:=decide_eq_false (fun q=>nomatch q)
def jqv(prog:Program)(w:World):PySem.KeyKind prog w Key where
 is:=jE3
 hash:=keyH w
 inj:=fun v a b ha hb=>by
  rcases jcn ha with ⟨i,t,rfl,rfl⟩|⟨x,t,rfl,rfl⟩
  ·rcases jcn hb with ⟨j,u,rfl,e⟩|⟨y,u,rfl,e⟩
   ·injection e with e1 _;rw[e1]
   ·exact nomatch e
  ·rcases jcn hb with ⟨j,u,rfl,e⟩|⟨y,u,rfl,e⟩
   ·exact nomatch e
   ·injection e with e1 _;rw[e1]
 byValue:=fun k v h=>by
  rcases jcn h with ⟨i,t,rfl,rfl⟩|⟨x,t,rfl,rfl⟩<;>rfl
 pyHash:=fun hv h=>by
  rcases jcn hv with ⟨i,t,rfl,rfl⟩|⟨x,t,rfl,rfl⟩
  ·exact wpAny_pyHash_int h
  ·exact wpAny_pyHash_str h
 eqBool:=fun hu hv h=>by
  rcases jcn hu with ⟨i,t,rfl,rfl⟩|⟨x,t,rfl,rfl⟩
  ·rcases jcn hv with ⟨j,u,rfl,rfl⟩|⟨y,u,rfl,rfl⟩
   ·rw[jE4] at h;exact wpAny_eqBool_int h
   ·rw[jE5] at h;exact SeqAt.EqAt.int_str i t y u _ _ _ _ h
  ·rcases jcn hv with ⟨j,u,rfl,rfl⟩|⟨y,u,rfl,rfl⟩
   ·rw[jE6] at h;exact SeqAt.EqAt.str_int x t j u _ _ _ _ h
   ·rw[jE7] at h;exact wpAny_eqBool_str h
 «strs»:=fun k x t v h=>by
  rcases jcn h with ⟨i,u,rfl,e⟩|⟨y,u,rfl,e⟩
  ·exact nomatch e
  ·injection e with e1 _
   subst e1;cases v<;>rfl
inductive V where
 | non|bl (b:Bool)|int (i:Int)|str (x:Str)|ref (a:Addr)|ty (n:String)
 deriving DecidableEq
def RelV:V->Value->Prop
 | .non,u=>u=Value.none
 | .bl b,u=>u=Value.bool b
 | .int i,u=>∃ t,u=Value.int i t
 | .str x,u=>∃ t,u=Value.str x t
 | .ref a,u=>u=Value.ref a
 | .ty n,u=>u=Value.type n
abbrev Vals:List V->List Value->Prop:=Paired RelV
def Vals.length{xs:List V}{us:List Value}(r:Vals xs us):xs.length=us.length:=Paired.length r
theorem Vals.get:∀ {xs:List V} {us:List Value} {i:Nat} {x:V},Vals xs us->xs[i]? = some x->∃ u,us[i]? = some u/\RelV x u
 | _,_,_,_,.nil,e=>by simp at e
 | _,_,0,_,.cons r _,e=>by simp at e;subst e;exact⟨_,rfl,r⟩
 | _,_,i+1,x,.cons _ t,e=>by
  obtain⟨u,h1,h2⟩:=Vals.get (i:=i) (x:=x) t (by simpa using e);exact⟨u,by simpa using h1,h2⟩
theorem Vals.append:∀ {xs ys:List V} {us ws:List Value},Vals xs us->Vals ys ws->Vals (xs++ys) (us++ws)
 | _,_,_,_,.nil,s=>s
 | _,_,_,_,.cons r t,s=>.cons r (Vals.append t s)
theorem Vals.take:∀ {xs:List V} {us:List Value} (n:Nat),Vals xs us->Vals (xs.take n) (us.take n)
 | _,_,0,_=>.nil
 | _,_,_+1,.nil=>.nil
 | _,_,n+1,.cons r t=>.cons r (Vals.take n t)
theorem Vals.drop:∀ {xs:List V} {us:List Value} (n:Nat),Vals xs us->Vals (xs.drop n) (us.drop n)
 | _,_,0,r=>r
 | _,_,_+1,.nil=>.nil
 | _,_,n+1,.cons _ t=>Vals.drop n t
def RelO:Option V->Option Value->Prop
 | some v,some u=>RelV v u
 | none,none=>True
 | _,_=>False
def KV{κ:Type}:List (κ×V)->List (κ×Value)->Prop:=Paired fun (p:κ×V) (q:κ×Value)=>p.1=q.1/\RelV p.2 q.2
def kV:Key->V
 | .inl i=>.int i
 | .inr x=>.str x
inductive HO where
  | lst (xs:List V)
  | tup (xs:List V)
  | dK (kvs:List (Key×V))|dT (kvs:List (List Key×V))
  | ins (C dx:Addr) (fs:List (Str×V))
  | own (x:Addr)
  | xd (fs:List (Str×V))
  | met (f x:Addr)
  | rng (lo hi:Int)
  | frz (o:Obj) (u:HO)
  | tbl (ps:Array Value)
  | ext (φ:Heap->Prop)
abbrev Hp:=Addr->Option HO
def upd(H:Hp)(a:Addr)(o:HO):Hp:=fun b=>if b=a then some o else H b
def jaq{H:Hp}{a:Addr}{o:HO}:upd H a o a=some o:=by unfold upd;rw[if_pos rfl]
def jal{H:Hp}{a b:Addr}{o:HO}(h:b≠a):upd H a o b=H b:=by unfold upd;rw[if_neg h]
def jCi{H:Hp}{a b:Addr}{o u:HO}(h:H a=some o)(h':H b=some u)(d:o≠u):a≠b:=by
 intro e;subst e;rw[h] at h';exact d (zby h')
def jbb{H:Hp}{a b:Addr}{o:HO}(h:H a=some o)(h':H b=none):a≠b:=by
 intro e;subst e;rw[h] at h';cases h'
section
variable (P:Program)(w:World)
def ObjOk(H:Hp)(h:Heap)(a:Addr):HO->Prop
 | .lst xs=>xs.length<=sizeLine/\∃ (its:List Value) (n:Nat),Vals xs its/\h.get? a=some { cls:=.type "list",data:=.seq its.toArray n }
 | .tup xs=>xs.length<=sizeLine/\∃ its:List Value,Vals xs its/\IsTup h a its.toArray
 | .dK kvs=>kvs.length<=sizeLine/\(a == sysModules)=false/\∃ vs,KV kvs vs/\h.DictOf (jqv P w) a vs
 | .dT kvs=>kvs.length<=sizeLine/\(a == sysModules)=false/\∃ xs:List (List Key×Addr×Value),
   Paired (fun (p:List Key×V) (q:List Key×Addr×Value)=>p.1=q.1/\H q.2.1=some (.tup (p.1.map kV))/\RelV p.2 q.2.2) kvs xs /\
   ∃ o es ep,h.get? a=some o/\o.ExactDict/\o.data=.dict es ep/\es.toList=xs.map (entryOfKey (tupleKind (jqv P w)))/\(xs.map (·.1)).Nodup
 | .ins C dx fs=>H dx=some (.own a)/\fs.length<=1000/\dx≠a/\h.get? a=some (W.instObj C dx) /\
   ∃ mA,h.Ns1 dx mA/\(∀ f,RelO (fs.lookup f) (mA f))/\PySem.Within mA (fs.map (·.1))
 | .own _=>∃ o,h.get? a=some o
 | .xd fs=>∃ mA,h.Ns1 a mA/\∀ f,RelO (fs.lookup f) (mA f)
 | .rng lo hi=>∃ t u v,h.get? a=some { cls:=.type "range",data:=.fields #[.int lo t,.int hi u,.int 1 v] }
 | .frz o u=>h.get? a=some o/\ObjOk H h a u
 | .tbl ps=>h.get? a=some { cls:=.none,data:=.fields ps }
 | .met f x=>h.get? a=some (W.methodObj (.ref f) (.ref x))
 | .ext φ=>φ h/\(∃ o,h.get? a=some o)/\∀ h1 h2:Heap,φ h1->(∀ o,h1.get? a=some o->h2.get? a=some o)->φ h2
def HOk(H:Hp)(h:Heap):Prop:=∀ a o,H a=some o->ObjOk P w H h a o
end
section
variable {P:Program}{w:World}{H H':Hp}{h h':Heap}{a:Addr}{o:HO}
theorem ObjOk.lt(x:ObjOk P w H h a o):a<h.objs.size:=by
 cases o with
 | lst xs=>obtain⟨_,_,_,_,e⟩:=x;exact zbv e
 | tup xs=>obtain⟨_,_,_,p⟩:=x;exact p.lt
 | dK kvs=>obtain⟨_,_,_,_,o,_,_,e,_⟩:=x;exact zbv e
 | dT kvs=>obtain⟨_,_,_,_,o,_,_,e,_⟩:=x;exact zbv e
 | ins C dx fs=>obtain⟨_,_,_,e,_⟩:=x;exact zbv e
 | own y=>obtain⟨_,e⟩:=x;exact zbv e
 | xd fs=>obtain⟨_,⟨_,_,_,e,_⟩,_⟩:=x;exact zbv e
 | rng lo hi=>obtain⟨_,_,_,e⟩:=x;exact zbv e
 | frz ob u=>obtain⟨e,_⟩:=x;exact zbv e
 | tbl ps=>exact zbv (show h.get? a=some _ from x)
 | met f y=>exact zbv (show h.get? a=some _ from x)
 | ext φ=>obtain⟨_,⟨_,e⟩,_⟩:=x;exact zbv e
theorem Paired.mapP{α β:Type}{F G:α->β->Prop}:∀ {l₁:List α} {l₂:List β},Paired F l₁ l₂->(∀ a b,F a b->G a b)->Paired G l₁ l₂
 | _,_,.nil,_=>.nil
 | _,_,.cons r t,f=>.cons (f _ _ r) (Paired.mapP t f)
def ObjOk.stay(x:ObjOk P w H h a o)(k:∀ b u,(b=a\/H b=some (.own a))->h.get? b=some u->h'.get? b=some u)
  (ho:∀ b,H b=some (.own a)->H' b=some (.own a)) (ht:∀ b xs,H b=some (.tup xs)->H' b=some (.tup xs)):ObjOk P w H' h' a o:=by
 induction o with
 | lst xs=>obtain⟨z,its,n,r,e⟩:=x;exact⟨z,its,n,r,k _ _ (.inl rfl) e⟩
 | tup xs=>obtain⟨z,its,r,ob,e,c⟩:=x;exact⟨z,its,r,ob,k _ _ (.inl rfl) e,c⟩
 | dK kvs=>obtain⟨z,y,vs,r,ob,es,ep,e,c⟩:=x;exact⟨z,y,vs,r,ob,es,ep,k _ _ (.inl rfl) e,c⟩
 | dT kvs =>
  obtain⟨z,y,xs,r,ob,es,ep,e,c⟩:=x;exact⟨z,y,xs,Paired.mapP r fun p q z=>⟨z.1,ht _ _ z.2.1,z.2.2⟩,ob,es,ep,k _ _ (.inl rfl) e,c⟩
 | ins C dx fs =>
  obtain⟨d,z,ne,e,mA,⟨od,es,ep,e2,c⟩,r⟩:=x;exact⟨ho _ d,z,ne,k _ _ (.inl rfl) e,mA,⟨od,es,ep,k _ _ (.inr d) e2,c⟩,r⟩
 | own y=>obtain⟨ob,e⟩:=x;exact⟨ob,k _ _ (.inl rfl) e⟩
 | xd fs=>obtain⟨mA,⟨od,es,ep,e,c⟩,r⟩:=x;exact⟨mA,⟨od,es,ep,k _ _ (.inl rfl) e,c⟩,r⟩
 | rng lo hi=>obtain⟨t,u,v,e⟩:=x;exact⟨t,u,v,k _ _ (.inl rfl) e⟩
 | frz ob u ih=>obtain⟨e,q⟩:=x;exact⟨k _ _ (.inl rfl) e,ih q⟩
 | tbl ps =>
  have e:h.get? a=some { cls:=.none,data:=.fields ps }:=x;show h'.get? a=some { cls:=.none,data:=.fields ps };exact k a _ (.inl rfl) e
 | met f y =>
  have e:h.get? a=some (W.methodObj (.ref f) (.ref y)):=x;show h'.get? a=some (W.methodObj (.ref f) (.ref y));exact k a _ (.inl rfl) e
 | ext φ=>obtain⟨p,⟨o,e⟩,st⟩:=x;exact⟨st _ _ p fun o q=>k _ _ (.inl rfl) q,⟨o,k _ _ (.inl rfl) e⟩,st⟩
def HOk.lt(x:HOk P w H h)(e:H a=some o):a<h.objs.size:=(x a o e).lt
def HOk.fresh(x:HOk P w H h)(e:h.objs.size<=a):H a=none:=by
 cases q:H a with
 | none=>rfl
 | some u=>exact absurd (zcx (x.lt q) e) (Nat.lt_irrefl _)
def HOk.kept(x:HOk P w H h)(k:∀ b u,h.get? b=some u->h'.get? b=some u):HOk P w H h':=fun a o e =>
 (x a o e).stay (fun b u _ q=>k b u q) (fun _ q=>q) fun _ _ q=>q
def HOk.laid(x:HOk P w H h)(k:∀ b u,h.get? b=some u->h'.get? b=some u)(hp:h.objs.size<=a)(new:ObjOk P w (upd H a o) h' a o):HOk P w (upd H a o) h':=fun b u e=>by
 have hn:=x.fresh hp
 by_cases hb:b=a
 ·subst hb;rw[jaq] at e;cases e;exact new
 ·rw[jal hb] at e;exact (x b u e).stay (fun c v _ q=>k c v q) (fun c q=>by rw[jal (jbb q hn)];exact q) fun c xs q=>by rw[jal (jbb q hn)];exact q
end
def Rd(H:Hp)(a:Addr)(u:HO):Prop:=H a=some u\/∃ o,H a=some (.frz o u)
def Rd.ok{P:Program}{w:World}{H:Hp}{h:Heap}{a:Addr}{u:HO}(r:Rd H a u)(x:HOk P w H h):ObjOk P w H h a u:=by
 rcases r with r|⟨o,r⟩
 ·exact x a u r
 ·obtain⟨_,q⟩:=x a _ r;exact q
def Mut:Option HO->Prop
 | some (.lst _)=>True
 | some (.dK _)=>True
 | some (.dT _)=>True
 | some (.ins _ _ _)=>True
 | some (.ext _)=>True
 | _=>False
section
variable {P:Program}{w:World}{H:Hp}{h h':Heap}{x e:Addr}{o':HO}
def HOk.write(ok:HOk P w H h)(mu:Mut (H x))(he:e=x\/H e=some (.own x))(k:∀ b u,b≠e->h.get? b=some u->h'.get? b=some u)(heo:∃ u,h'.get? e=some u)
  (new:ObjOk P w (upd H x o') h' x o'):HOk P w (upd H x o') h':=fun b u q=>by
 have nown:∀ c y,H c=some (.own y)->c≠x:=fun c y r z=>by subst z;rw[r] at mu;exact mu
 have ntup:∀ c xs,H c=some (.tup xs)->c≠x:=fun c xs r z=>by subst z;rw[r] at mu;exact mu
 by_cases hb:b=x
 ·subst hb;rw[jaq] at q;cases q;exact new
 ·rw[jal hb] at q
  by_cases hbe:b=e
  ·have q':H b=some (.own x):=by
    rcases he with z|z
    ·exact absurd (hbe.trans z) hb
    ·rw[hbe];exact z
   rw[q] at q';cases q'
   obtain⟨v,hv⟩:=heo;exact⟨v,by rw[hbe];exact hv⟩
  ·refine (ok b u q).stay (fun c v hc r=>k c v ?_ r) (fun c r=>by rw[jal (nown c b r)];exact r) fun c xs r=>by rw[jal (ntup c xs r)];exact r
   rcases hc with rfl|hc
   ·exact hbe
   ·rintro rfl;rcases he with z|z
    ·exact nown c b hc z
    ·rw[hc] at z;cases z;exact hb rfl
end
structure Un(fs ex:List Addr)(H H':Hp)(h h':Heap):Prop where
 keep:∀ b o,h.get? b=some o->H b=none->b∉fs->b∉ex->h'.get? b=some o
 slot:∀ b o,h.get? b=some o->H b=none->b∈fs->b∉ex->∃ sl,h'.get? b=some { o with slots:=sl }
 free:∀ b o,h.get? b=some o->H b=none->b∉ex->H' b=none
 there:∀ b o,h.get? b=some o->b∉ex->∃ o',h'.get? b=some o'
 tups:∀ b xs,H b=some (.tup xs)->H' b=some (.tup xs)
 frzs:∀ b o u,H b=some (.frz o u)->H' b=some (.frz o u)
 tbls:∀ b ps,H b=some (.tbl ps)->∃ more,H' b=some (.tbl (ps++more))
section
variable {fs ex:List Addr}{H H1:Hp}{h h1 h':Heap}{a x e:Addr}{o:HO}
def Un.any(u:Un fs ex H H1 h h1){b:Addr}{ob:Obj}(q:h.get? b=some ob)(n:H b=none)(hx:b∉ex):∃ sl,h1.get? b=some { ob with slots:=sl }:=by
 by_cases hb:b∈fs
 ·exact u.slot b ob q n hb hx
 ·exact⟨ob.slots,u.keep b ob q n hb hx⟩
def Un.kept(k:∀ b u,h.get? b=some u->h'.get? b=some u):Un fs ex H H h h' :=
 ⟨fun b ob q _ _ _=>k b ob q,fun b ob q _ _ _=>⟨ob.slots,k b ob q⟩,fun _ _ _ n _=>n,fun b ob q _=>⟨ob,k b ob q⟩,fun _ _ q=>q,fun _ _ _ q=>q,fun _ ps q=>⟨#[],by rw[q];simp⟩⟩
def Un.refl:Un fs ex H H h h:=Un.kept fun _ _ q=>q
def Un.laid(k:∀ b u,h.get? b=some u->h'.get? b=some u)(hp:h.objs.size<=a)(hn:H a=none):Un fs ex H (upd H a o) h h' where
 keep:=fun b u q _ _ _=>k b u q
 slot:=fun b u q _ _ _=>⟨u.slots,k b u q⟩
 free:=fun b u q n _=>by rw[jal (zcv (zcx (zbv q) hp))];exact n
 there:=fun b u q _=>⟨u,k b u q⟩
 tups:=fun b xs q=>by rw[jal (jbb q hn)];exact q
 frzs:=fun b u xs q=>by rw[jal (jbb q hn)];exact q
 tbls:=fun b ps q=>⟨#[],by rw[jal (jbb q hn),q];simp⟩
def Un.write(mu:Mut (H x))(he:e=x\/H e=some (.own x))(k:∀ b u,b≠e->h.get? b=some u->h'.get? b=some u)(heo:∃ u,h'.get? e=some u):Un fs ex H (upd H x o) h h':=by
 have hx:∀ b,H b=none->b≠x:=fun b n z=>by subst z;rw[n] at mu;exact mu
 have hb:∀ b,H b=none->b≠e:=fun b n z=>by
  subst z;rcases he with r|r
  ·exact hx b n r
  ·rw[n] at r;cases r
 have hm:∀ b u,H b=some u->¬ Mut (some u)->b≠x:=fun b u q nm z=>by subst z;rw[q] at mu;exact nm mu
 refine⟨fun b u q n _ _=>k b u (hb b n) q,fun b u q n _ _=>⟨u.slots,k b u (hb b n) q⟩,fun b u q n _=>by rw[jal (hx b n)];exact n,fun b u q _=>?_,
  fun b xs q=>by rw[jal (hm b _ q fun z=>z)];exact q,fun b u xs q=>by rw[jal (hm b _ q fun z=>z)];exact q,fun b ps q=>⟨#[],by rw[jal (hm b _ q fun z=>z),q];simp⟩⟩
 by_cases hbe:b=e
 ·subst hbe;exact heo
 ·exact⟨u,k b u hbe q⟩
end
def trk(h:Heap)(H:Hp):List Addr:=(List.range h.objs.size).filter fun a=>(H a).isSome
def hidT(h:Heap)(H:Hp):Heap:=W.hideAll h (trk h H)
def juy(h:Heap)(H:Hp):(hidT h H).objs.size=h.objs.size:=W.hideAll_size _ _
def jxt{h:Heap}{H:Hp}{b:Addr}{o:Obj}(e:h.get? b=some o)(n:H b=none):(hidT h H).get? b=some o :=
 W.hideAll_get _ e fun hm=>by
  have q:(H b).isSome=true:=(List.mem_filter.mp hm).2;rw[n] at q;simp at q
def jCl{h:Heap}{H:Hp}{b:Addr}{o:Obj}(e:(hidT h H).get? b=some o):h.get? b=some o/\H b=none:=by
 have e':h.get? b=some o:=W.of_hideAll (trk h H) e;refine⟨e',?_⟩
 cases q:H b with
 | none=>rfl
 | some x =>
  have hm:b∈trk h H:=List.mem_filter.mpr ⟨List.mem_range.mpr (zbv e'),by simp[q]⟩;have z:(hidT h H).get? b=none:=W.hideAll_none (trk h H) hm;rw[z] at e;cases e
def jAx(g h:Heap)(L:Addr):qb:=(List.range h.objs.size).filterMap fun a=>if a=L\/(g.get? a).isSome=true then none else (h.get? a).map fun o=>(a,o)
def rest(g h:Heap)(L d:Addr):qb:=(jAx g h L).filter fun p=>decide (p.1≠d)
structure Mod(K:W.Frag)(mg:qa)(base:Heap):Prop where
 kin:K.In base
 glob:base.Ns mainGlobals mg
 blt:∃ mb,base.Ns builtinsNs mb/\∀ x:Str,x≠"__name__"->mb x=bootBuiltins x
 nolimit:base.NoLimit
structure Cx where
 prog:Program
 w:World
 K:W.Frag
 mg:qa
 base:Heap
 A:Around
 N:List Str
 s₀:Shared
 Hz:Hp
 env:Env
 outer:List Env
 stack:List Env
 ex:List Addr
 fn:Str->Bool
 calm:Bool
 pn:qb
 xe:qc
def frs(l:List Env):List Addr:=l.filterMap (·.frame)
abbrev Cx.fs(X:Cx):List Addr:=frs X.outer
def Vis(sc:Scope)(x:Str):Prop:=sc.names.lookup x=some .local\/sc.names.lookup x=some .cell\/sc.names.lookup x=some .free
def Loc(sc:Scope)(x:Str):Prop:=sc.names.lookup x=some .local\/sc.names.lookup x=some .cell
def Look(env:Env)(h:Heap)(m:qa)(x:Str)(u:Value):Prop :=
 (env.kindOf x=some .local/\m x=some u)\/((env.kindOf x=some .cell\/env.kindOf x=some .free)/\∃ c,env.cells.lookup x=some c/\h.IsCell c (some u))
structure Cx.Ok(X:Cx):Prop where
 mod:Mod X.K X.mg X.base
 kind:X.env.scope.kind=.function
 glob:X.env.globals=mainGlobals
 blt:X.env.builtins=builtinsNs
 above:X.s₀.heap.objs.size<=X.env.locals
 inj:∀ x y c,X.env.cells.lookup x=some c->X.env.cells.lookup y=some c->x=y
 has:∀ x,(X.env.kindOf x=some .cell\/X.env.kindOf x=some .free)->∃ c,X.env.cells.lookup x=some c
 cab:∀ x c,X.fn x=true->X.env.cells.lookup x=some c->X.s₀.heap.objs.size<=c
 hd:X.calm=true->X.A.handled=none
 frames:X.A.frames=some X.stack
 stk:X.stack=X.outer\/(X.stack=X.env::X.outer/\X.env.frame=some X.env.locals)
 exf:∀ b∈X.ex,b≠X.env.locals/\∀ x c,X.env.cells.lookup x=some c->c≠b
 bs:∀ b o,X.base.get? b=some o->X.s₀.heap.get? b=some o/\X.Hz b=none
 bsz:X.base.objs.size<=X.s₀.heap.objs.size
 noex:∀ b o,X.base.get? b=some o->b∉X.ex
 exfs:∀ b∈X.ex,b∉X.fs
 funs:X.s₀.heap.FunFrames X.base X.outer
 frf:∀ b∈X.fs,X.Hz b=none
structure Inv(X:Cx)(U:qb)(Z:List (Option V))(H:Hp)(s:Shared):Prop where
 ok:X.Ok
 os:s.os=X.s₀.os
 bare:AllBare s.gens
 base:Un X.fs X.ex X.Hz H X.s₀.heap s.heap
 loc:∃ m,s.heap.Ns X.env.locals m/\∀ (i:Nat) (x:Str) (v:V),X.N[i]? = some x->Z[i]? = some (some v)->Vis X.env.scope x->∃ u,RelV v u/\Look X.env s.heap m x u
 cell:∀ x c,X.env.cells.lookup x=some c->∃ v,s.heap.IsCell c v
 free:H X.env.locals=none
 freeC:∀ x c,X.env.cells.lookup x=some c->H c=none
 pin:∀ p∈X.pn++U,s.heap.get? p.1=some p.2/\H p.1=none/\p.1≠X.env.locals/\p.1∉X.fs/\∀ v,p.2.data≠.cell v
 hok:HOk X.prog X.w H s.heap
 len:Z.length=X.N.length
section
variable {X:Cx}{U:qb}{Z:List (Option V)}{H H':Hp}{s:Shared}{h':Heap}
def Cx.Ok.nofr(ok:X.Ok){b:Addr}{o:Obj}(e:X.base.get? b=some o):b∉X.fs:=fun hb=>by
 have:=(ok.funs.mem hb).1;rw[e] at this;cases this
def Inv.bs(I:Inv X U Z H s):∀ b o,X.base.get? b=some o->s.heap.get? b=some o/\H b=none:=fun b o e =>
 ⟨I.base.keep b o (I.ok.bs b o e).1 (I.ok.bs b o e).2 (I.ok.nofr e) (I.ok.noex b o e),I.base.free b o (I.ok.bs b o e).1 (I.ok.bs b o e).2 (I.ok.noex b o e)⟩
def Inv.bk(I:Inv X U Z H s):∀ b o,X.base.get? b=some o->s.heap.get? b=some o:=fun b o e=>(I.bs b o e).1
def Inv.mod(I:Inv X U Z H s):Mod X.K X.mg X.base:=I.ok.mod
def Inv.kIn(I:Inv X U Z H s):X.K.In s.heap:=I.ok.mod.kin.keeps I.bk
def Inv.lt(I:Inv X U Z H s):X.env.locals<s.heap.objs.size:=let ⟨_,hn,_⟩:=I.loc;hn.lt
def Inv.sz(I:Inv X U Z H s):X.s₀.heap.objs.size<=s.heap.objs.size:=zdx I.ok.above (Nat.le_of_lt I.lt)
def Inv.nofs(I:Inv X U Z H s){a:Addr}(h:s.heap.objs.size<=a):a∉X.fs:=fun hb=>by
 obtain⟨_,o,ho,_⟩:=I.ok.funs.mem hb;exact absurd (zcx (zbv ho) (zdx I.sz h)) (Nat.lt_irrefl _)
def Inv.cne(I:Inv X U Z H s):∀ x c,X.env.cells.lookup x=some c->c≠X.env.locals:=fun x c e z=>by
 obtain⟨v,o,ho,hd⟩:=I.cell x c e;obtain⟨m,⟨o',es,ep,ho',hd',_⟩,_⟩:=I.loc;rw[z,ho'] at ho;cases ho;rw[hd'] at hd;cases hd
def Inv.funs(I:Inv X U Z H s):s.heap.FunFrames X.base X.outer:=by
 have all:∀ (l:List Env),(∀ b∈frs l,b∈X.fs)->X.s₀.heap.FunFrames X.base l->s.heap.FunFrames X.base l:=by
  intro l
  induction l with
  | nil=>intro _ _;trivial
  | cons env r ih =>
   intro hs hl;obtain⟨hk,⟨L,o,hf,hn,ho,hd⟩,hr⟩:=hl;have hL:L∈X.fs:=hs L (by unfold frs;rw[List.filterMap_cons,hf];exact zaa);obtain⟨sl,e⟩:=I.base.slot L o ho (I.ok.frf L hL) hL fun z=>I.ok.exfs L z hL
   exact⟨hk,⟨L,_,hf,hn,e,hd⟩,ih (fun b hb=>hs b (by unfold frs;rw[List.filterMap_cons,hf];exact zaw _ hb)) hr⟩
 exact all X.outer (fun _ hb=>hb) I.ok.funs
def Inv.stack(I:Inv X U Z H s):s.heap.FunFrames X.base X.stack:=by
 rcases I.ok.stk with e|⟨e,hf⟩
 ·rw[e];exact I.funs
 ·rw[e];obtain⟨m,hn,_⟩:=I.loc;refine .cons (by rw[I.ok.kind];decide) hf hn ?_ I.funs;exact Heap.get?_none_of_le (zdx I.ok.bsz I.ok.above)
def Inv.stkSub(I:Inv X U Z H s):∀ b∈frs X.stack,b∈X.env.locals::X.fs:=fun b hb=>by
 rcases I.ok.stk with e|⟨e,hf⟩
 ·rw[e] at hb;exact zaw _ hb
 ·rw[e] at hb;unfold frs at hb;rw[List.filterMap_cons,hf] at hb;exact hb
def Inv.stkFree(I:Inv X U Z H s):∀ b∈frs X.stack,H b=none:=fun b hb=>by
 rcases List.mem_cons.mp (I.stkSub b hb) with e|hb
 ·rw[e];exact I.free
 ·obtain⟨_,o,ho,_⟩:=I.ok.funs.mem hb;exact I.base.free b o ho (I.ok.frf b hb) fun z=>I.ok.exfs b z hb
def Inv.step{g':Array GenState}{t':Nat}{d':Drawn}{ch:List Addr}(I:Inv X U Z H s)
  (hch:∀ b∈ch,(b∈X.ex\/X.s₀.heap.objs.size<=b)/\b≠X.env.locals/\(∀ x c,X.env.cells.lookup x=some c->c≠b)/\∀ p∈X.pn++U,p.1≠b)
  (keep:∀ b o,b≠X.env.locals->b∉X.fs->b∉ch->s.heap.get? b=some o->H b=none->h'.get? b=some o)
  (slot:∀ b o,b≠X.env.locals->b∈X.fs->b∉ch->s.heap.get? b=some o->H b=none->∃ sl,h'.get? b=some { o with slots:=sl }) (free:∀ b o,b∉ch->s.heap.get? b=some o->H b=none->H' b=none)
  (there:∀ b o,b∉ch->s.heap.get? b=some o->∃ o',h'.get? b=some o')
  (tups:∀ b xs,H b=some (.tup xs)->H' b=some (.tup xs)) (frzs:∀ b o u,H b=some (.frz o u)->H' b=some (.frz o u)) (tbls:∀ b ps,H b=some (.tbl ps)->∃ more,H' b=some (.tbl (ps++more)))
  (ns:∀ m,s.heap.Ns X.env.locals m->h'.Ns X.env.locals m) (hok:HOk X.prog X.w H' h') (hg:AllBare g') :
  Inv X U Z H' { s with heap:=h',gens:=g',drawn:=d',toks:=t' }:=by
 have neL:∀ b o,X.s₀.heap.get? b=some o->b≠X.env.locals:=fun b o e=>zcv (zcx (zbv e) I.ok.above)
 have neC:∀ b o,X.s₀.heap.get? b=some o->b∉X.ex->b∉ch:=fun b o e hx hb=>by
  rcases (hch b hb).1 with z|z
  ·exact hx z
  ·exact absurd (zcx (zbv e) z) (Nat.lt_irrefl _)
 have cellK:∀ x c,X.env.cells.lookup x=some c->∀ v,s.heap.IsCell c v->h'.IsCell c v:=fun x c e v ⟨o,ho,hd⟩=>by
  have nch:c∉ch:=fun z=>(hch c z).2.2.1 x c e rfl
  by_cases hc:c∈X.fs
  ·obtain⟨sl,q⟩:=slot c o (I.cne x c e) hc nch ho (I.freeC x c e);exact⟨_,q,hd⟩
  ·exact⟨o,keep c o (I.cne x c e) hc nch ho (I.freeC x c e),hd⟩
 refine⟨I.ok,I.os,hg,⟨fun b o e n hb hx=>?_,fun b o e n hb hx=>?_,fun b o e n hx=>?_,fun b o e hx=>?_,fun b xs e=>tups b xs (I.base.tups b xs e),fun b o xs e=>frzs b o xs (I.base.frzs b o xs e),fun b ps e=>?_⟩,?_,fun x c e=>?_,?_,fun x c e=>?_,fun p hp=>?_,hok,I.len⟩
 ·exact keep b o (neL b o e) hb (neC b o e hx) (I.base.keep b o e n hb hx) (I.base.free b o e n hx)
 ·obtain⟨sl,e1⟩:=I.base.slot b o e n hb hx;obtain⟨sl',e2⟩:=slot b _ (neL b o e) hb (neC b o e hx) e1 (I.base.free b o e n hx);exact⟨sl',e2⟩
 ·obtain⟨o',e1⟩:=I.base.there b o e hx;exact free b o' (neC b o e hx) e1 (I.base.free b o e n hx)
 ·obtain⟨o',e1⟩:=I.base.there b o e hx;exact there b o' (neC b o e hx) e1
 ·obtain⟨m1,e1⟩:=I.base.tbls b ps e;obtain⟨m2,e2⟩:=tbls b _ e1;exact⟨m1++m2,by rw[e2,Array.append_assoc]⟩
 ·obtain⟨m,hn,hl⟩:=I.loc;refine⟨m,ns m hn,fun i x v e1 e2 e3=>?_⟩;obtain⟨u,r,l⟩:=hl i x v e1 e2 e3;refine⟨u,r,?_⟩;rcases l with l|⟨k,c,e,z⟩
  ·exact .inl l
  ·exact .inr ⟨k,c,e,cellK x c e _ z⟩
 ·obtain⟨v,z⟩:=I.cell x c e;exact⟨v,cellK x c e v z⟩
 ·obtain⟨m,⟨o,_,_,ho,_⟩,_⟩:=I.loc;exact free _ o (fun z=>(hch _ z).2.1 rfl) ho I.free
 ·obtain⟨v,o,ho,hd⟩:=I.cell x c e;exact free c o (fun z=>(hch c z).2.2.1 x c e rfl) ho (I.freeC x c e)
 ·obtain⟨e,n,ne,nf,d⟩:=I.pin p hp;have nch:p.1∉ch:=fun z=>(hch p.1 z).2.2.2 p hp rfl
  exact⟨keep p.1 p.2 ne nf nch e n,free p.1 p.2 nch e n,ne,nf,d⟩
def Inv.un{t':Nat}(I:Inv X U Z H s)(u:Un X.fs [] H H' s.heap h')(hok:HOk X.prog X.w H' h'):Inv X U Z H' { s with heap:=h',toks:=t' }:=by
 obtain⟨m,⟨o,es,ep,ho,r⟩,_⟩:=id I.loc;obtain⟨sl,hL⟩:=u.any ho I.free (by simp);exact I.step (g':=s.gens) (d':=s.drawn) (ch:=[]) (fun _ z=>nomatch z) (fun b o _ hb _ e n=>u.keep b o e n hb (by simp)) (fun b o _ hb _ e n=>u.slot b o e n hb (by simp)) (fun b o _ e n=>u.free b o e n (by simp)) (fun b o _ e=>u.there b o e (by simp)) u.tups u.frzs u.tbls (fun m' hm=>by
  obtain⟨o',es',ep',ho',r'⟩:=hm;rw[ho] at ho';cases ho'
  exact⟨_,es',ep',hL,r'⟩) hok I.bare
def Inv.call{g':Array GenState}{t':Nat}{d':Drawn}{ch:List Addr}(I:Inv X U Z H s)(u:Un (frs X.stack) ch H H' s.heap h')(hok:HOk X.prog X.w H' h')(hg:AllBare g')
  (hch:∀ b∈ch,(b∈X.ex\/X.s₀.heap.objs.size<=b)/\b≠X.env.locals/\(∀ x c,X.env.cells.lookup x=some c->c≠b)/\∀ p∈X.pn++U,p.1≠b) :
  Inv X U Z H' { s with heap:=h',gens:=g',drawn:=d',toks:=t' }:=by
 obtain⟨m,⟨o,es,ep,ho,r⟩,_⟩:=id I.loc;obtain⟨sl,hL⟩:=u.any ho I.free fun z=>(hch _ z).2.1 rfl
 exact I.step (ch:=ch) hch (fun b o hL hb hc e n=>u.keep b o e n (fun z=>(List.mem_cons.mp (I.stkSub b z)).elim hL hb) hc) (fun b o _ _ hc e n=>u.any e n hc) (fun b o hc e n=>u.free b o e n hc) (fun b o hc e=>u.there b o e hc) u.tups u.frzs u.tbls (fun m' hm=>by
  obtain⟨o',es',ep',ho',r'⟩:=hm;rw[ho] at ho';cases ho'
  exact⟨_,es',ep',hL,r'⟩) hok hg
def Inv.turned{t':Nat}{it:Addr}(I:Inv X U Z H s)(k:∀ b o,b≠it->s.heap.get? b=some o->h'.get? b=some o)(hn:H it=none)(hL:it≠X.env.locals)
  (h1:it∈X.ex\/X.s₀.heap.objs.size<=it) (h2:∀ x c,X.env.cells.lookup x=some c->c≠it) (h3:∀ p∈X.pn++U,p.1≠it):Inv X U Z H { s with heap:=h',toks:=t' }:=by
 have nit:∀ b u,H b=some u->b≠it:=fun b u e z=>by rw[z,hn] at e;cases e
 refine I.step (g':=s.gens) (d':=s.drawn) (ch:=[it]) (fun b hb=>?_) (fun b o _ _ hc e _=>k b o (fun z=>hc (by simp[z])) e) (fun b o _ _ hc e _=>⟨o.slots,k b o (fun z=>hc (by simp[z])) e⟩) (fun _ _ _ _ n=>n)
  (fun b o hc e=>⟨o,k b o (fun z=>hc (by simp[z])) e⟩) (fun _ _ e=>e) (fun _ _ _ e=>e) (fun b ps e=>⟨#[],by rw[e];simp⟩) (fun m hm=>?_) (fun b u e=>?_) I.bare
 ·have e:b=it:=by simpa using hb
  subst e;exact⟨h1,hL,h2,h3⟩
 ·obtain⟨o,es,ep,ho,r⟩:=hm;exact⟨o,es,ep,k _ o (Ne.symm hL) ho,r⟩
 ·refine (I.hok b u e).stay (fun c v hc q=>k c v ?_ q) (fun _ q=>q) fun _ _ q=>q
  rcases hc with z|z
  ·rw[z];exact nit b u e
  ·exact nit c _ z
def Inv.tok(I:Inv X U Z H s)(t:Nat):Inv X U Z H { s with toks:=t }:=I.un (h':=s.heap) (t':=t) Un.refl I.hok
def Inv.kept{t':Nat}(I:Inv X U Z H s)(k:∀ b u,s.heap.get? b=some u->h'.get? b=some u):Inv X U Z H { s with heap:=h',toks:=t' }:=I.un (Un.kept k) (I.hok.kept k)
def Inv.laid{a:Addr}{o:HO}{t':Nat}(I:Inv X U Z H s)(k:∀ b u,s.heap.get? b=some u->h'.get? b=some u)(hp:s.heap.objs.size<=a)(new:ObjOk X.prog X.w (upd H a o) h' a o) :
  Inv X U Z (upd H a o) { s with heap:=h',toks:=t' }:=I.un (Un.laid k hp (I.hok.fresh hp)) (I.hok.laid k hp new)
def Inv.write{x e:Addr}{o:HO}{t':Nat}(I:Inv X U Z H s)(mu:Mut (H x))(he:e=x\/H e=some (.own x))(k:∀ b u,b≠e->s.heap.get? b=some u->h'.get? b=some u)(heo:∃ u,h'.get? e=some u)
  (new:ObjOk X.prog X.w (upd H x o) h' x o):Inv X U Z (upd H x o) { s with heap:=h',toks:=t' }:=I.un (Un.write mu he k heo) (I.hok.write mu he k heo new)
def Inv.pins_of{pins':qb}(I:Inv X U Z H s)(h:∀ p∈pins',s.heap.get? p.1=some p.2/\H p.1=none/\p.1≠X.env.locals/\p.1∉X.fs/\∀ v,p.2.data≠.cell v):Inv X pins' Z H s :=
 ⟨I.ok,I.os,I.bare,I.base,I.loc,I.cell,I.free,I.freeC,fun p hp=>(List.mem_append.mp hp).elim (fun z=>I.pin p (List.mem_append_left _ z)) (h p),I.hok,I.len⟩
def jn7{N:List Str}(hN:N.Nodup){i j:Nat}{x:Str}(a:N[i]? = some x)(b:N[j]? = some x):i=j:=by
 obtain⟨h1,e1⟩:=zbb.mp a;obtain⟨h2,e2⟩:=zbb.mp b;exact (List.getElem_inj hN).mp (e1.trans e2.symm)
def jw0{M:Model}{A:Around}{E:qc}{i:Nat}{x:Str}{v:V}{u:Value}{Q:Unit->Shared->Prop}(I:Inv X U Z H s)(hN:X.N.Nodup)(hi:X.N[i]? = some x)(hx:Loc X.env.scope x)(r:RelV v u)
  (h:∀ s',Inv X U (Z.set i (some v)) H s'->(∃ a,Heap.SameBut a s.heap s'.heap/\(a=X.env.locals\/X.env.cells.lookup x=some a))->Q () s') (hf:X.fn x=true\/X.env.scope.names.lookup x=some .local:=by first|exact .inl rfl|exact .inr rfl|assumption):wpAny M A (storeName X.env x u) Q E s:=by
 obtain⟨m,hn,hl⟩:=id I.loc;have hcls:(X.env.scope.kind == .class || (X.env.scope.kind == .module&&X.env.locals != X.env.globals))=false:=by rw[I.ok.kind];rfl
 have hiZ:i<Z.length:=by rw[I.len];exact (zbb.mp hi).1
 have cne:=I.cne;have tracked:∀ {a:Addr} {h':Heap},(∃ o,s.heap.get? a=some o/\H a=none)->Heap.SameBut a s.heap h'->HOk X.prog X.w H h':=fun {a h'} ha hs b ob e=>by
  obtain⟨_,_,hfree⟩:=ha;refine (I.hok b ob e).stay (fun c w' hc q=>(hs.2 c ?_).trans q) (fun _ q=>q) fun _ _ q=>q
  rintro rfl;rcases hc with rfl|hc
  ·rw[hfree] at e;cases e
  ·rw[hfree] at hc;cases hc
 rcases hx with hk|hk
 ·refine wpAny_storeName_local hk hn (fun h' hn' hs=>?_) hcls;obtain⟨oL,_,_,hoL,_⟩:=id hn;refine h _ ⟨I.ok,I.os,I.bare,⟨fun b o e n hb hx=>?_,fun b o e n hb hx=>?_,I.base.free,fun b o e hx=>?_,I.base.tups,I.base.frzs,I.base.tbls⟩,⟨_,hn',fun j y v' e1 e2 e3=>?_⟩,fun y c e=>?_,I.free,I.freeC,fun p hp=>?_,tracked ⟨oL,hoL,I.free⟩ hs,by simpa using I.len⟩ ⟨_,hs,.inl rfl⟩
  ·exact (hs.2 b (zcv (zcx (zbv e) I.ok.above))).trans (I.base.keep b o e n hb hx)
  ·obtain⟨sl,e1⟩:=I.base.slot b o e n hb hx;exact⟨sl,(hs.2 b (zcv (zcx (zbv e) I.ok.above))).trans e1⟩
  ·obtain⟨o',e1⟩:=I.base.there b o e hx;exact⟨o',(hs.2 b (zcv (zcx (zbv e) I.ok.above))).trans e1⟩
  ·by_cases hj:j=i
   ·subst hj;rw[hi] at e1;cases e1
    rw[zcz hiZ] at e2;cases e2;exact⟨u,r,.inl ⟨hk,by simp⟩⟩
   ·rw[zbw (Ne.symm hj)] at e2;obtain⟨u',r',q⟩:=hl j y v' e1 e2 e3;refine⟨u',r',?_⟩;rcases q with ⟨k,e⟩|⟨k,c,e,z⟩
    ·refine .inl ⟨k,?_⟩;have:y≠x:=fun e=>hj (jn7 hN e1 (e ▸ hi))
     simp[this,e]
    ·exact .inr ⟨k,c,e,z.sameBut hs (cne y c e)⟩
  ·obtain⟨w',z⟩:=I.cell y c e;exact⟨w',z.sameBut hs (cne y c e)⟩
  ·obtain⟨e,n,ne,nf,d⟩:=I.pin p hp;exact⟨(hs.2 p.1 ne).trans e,n,ne,nf,d⟩
 ·have hfn:X.fn x=true:=by
   rcases hf with z|z
   ·exact z
   ·rw[z] at hk;cases hk
  obtain⟨c,hc⟩:=I.ok.has x (.inl hk);obtain⟨w',z⟩:=I.cell x c hc;refine wpAny_storeName_cell I.ok.kind hk hc z (fun h' hc' hs=>?_);obtain⟨oc,hoc,hocd⟩:=id z;refine h { s with heap:=h' } ⟨I.ok,I.os,I.bare,⟨fun b o e n hb hx=>?_,fun b o e n hb hx=>?_,I.base.free,fun b o e hx=>?_,I.base.tups,I.base.frzs,I.base.tbls⟩,⟨m,hn.sameBut hs (Ne.symm (cne x c hc)),fun j y v' e1 e2 e3=>?_⟩,fun y c' e=>?_,I.free,I.freeC,fun p hp=>?_,tracked ⟨oc,hoc,I.freeC x c hc⟩ hs,by simpa using I.len⟩ ⟨c,hs,.inr hc⟩
  ·exact (hs.2 b (zcv (zcx (zbv e) (I.ok.cab x c hfn hc)))).trans (I.base.keep b o e n hb hx)
  ·obtain⟨sl,e1⟩:=I.base.slot b o e n hb hx;exact⟨sl,(hs.2 b (zcv (zcx (zbv e) (I.ok.cab x c hfn hc)))).trans e1⟩
  ·obtain⟨o',e1⟩:=I.base.there b o e hx;exact⟨o',(hs.2 b (zcv (zcx (zbv e) (I.ok.cab x c hfn hc)))).trans e1⟩
  ·by_cases hj:j=i
   ·subst hj;rw[hi] at e1;cases e1
    rw[zcz hiZ] at e2;cases e2;exact⟨u,r,.inr ⟨.inl hk,c,hc,hc'⟩⟩
   ·rw[zbw (Ne.symm hj)] at e2;obtain⟨u',r',q⟩:=hl j y v' e1 e2 e3;refine⟨u',r',?_⟩;rcases q with q|⟨k,c',e,z'⟩
    ·exact .inl q
    ·refine .inr ⟨k,c',e,z'.sameBut hs ?_⟩;rintro rfl;exact hj (jn7 hN e1 (I.ok.inj _ _ _ e hc ▸ hi))
  ·by_cases hcc:c'=c
   ·subst hcc;exact⟨_,hc'⟩
   ·obtain⟨w2,z2⟩:=I.cell y c' e;exact⟨w2,z2.sameBut hs hcc⟩
  ·obtain⟨e,n,ne,nf,d⟩:=I.pin p hp;refine⟨(hs.2 p.1 ?_).trans e,n,ne,nf,d⟩;intro q;rw[q,hoc] at e;have q':oc=p.2:=zby e;exact d w' (by rw[<- q'];exact hocd)
def jjm{M:Model}{A:Around}{E:qc}{i:Nat}{x:Str}{v:V}{u:Value}{Q:Unit->Shared->Prop}(I:Inv X U Z H s)(hN:X.N.Nodup)(hi:X.N[i]? = some x)(hx:Loc X.env.scope x)(r:RelV v u)
  (h:∀ s',Inv X U (Z.set i (some v)) H s'->Q () s') (hf:X.fn x=true\/X.env.scope.names.lookup x=some .local:=by first|exact .inl rfl|exact .inr rfl|assumption):wpAny M A (storeName X.env x u) Q E s :=
 jw0 I hN hi hx r (fun s' I' _=>h s' I') hf
def Inv.call'{s':Shared}{ch:List Addr}(I:Inv X U Z H s)(ho:s'.os=s.os)(u:Un (frs X.stack) ch H H' s.heap s'.heap)(hok:HOk X.prog X.w H' s'.heap)(hg:AllBare s'.gens)
  (hch:∀ b∈ch,(b∈X.ex\/X.s₀.heap.objs.size<=b)/\b≠X.env.locals/\(∀ x c,X.env.cells.lookup x=some c->c≠b)/\∀ p∈X.pn++U,p.1≠b):Inv X U Z H' s':=by
 obtain⟨h',g',d',t',o'⟩:=s';have e:o'=s.os:=ho;subst e;exact I.call (g':=g') (t':=t') (d':=d') u hok hg hch
end
abbrev XK:=Value->Option Addr->Hp->Prop
abbrev St:=List (Option V)
abbrev VK:=V->Hp->Prop
abbrev TE:=St->Hp->VK->Prop
abbrev TT:=St->Hp->(Bool->Hp->Prop)->Prop
abbrev TA:=St->Hp->(List V->Hp->Prop)->Prop
structure Ends where
 nx:St->Hp->Prop
 rt:VK
 bk:St->Hp->Prop:=fun _ _=>False
 ct:St->Hp->Prop:=fun _ _=>False
abbrev TS:=Ends->St->Hp->Prop
inductive EP(X:Cx)(U:qb)(Z:St)(Q:VK)(u:Value)(s':Shared):Prop
 | mk (v:V) (H':Hp) (h0:Inv X U Z H' s') (h1:RelV v u) (h2:Q v H')
inductive TP(X:Cx)(U:qb)(Z:St)(Q:Bool->Hp->Prop)(b:Bool)(s':Shared):Prop
 | mk (H':Hp) (h0:Inv X U Z H' s') (h1:Q b H')
inductive AP(X:Cx)(U:qb)(Z:St)(Q:List V->Hp->Prop)(us:List Value)(s':Shared):Prop
 | mk (vs:List V) (H':Hp) (h0:Inv X U Z H' s') (h1:Vals vs us) (h2:Q vs H')
inductive SN(X:Cx)(U:qb)(Q:St->Hp->Prop)(s':Shared):Prop
 | mk (Z':St) (H':Hp) (hI:Inv X U Z' H' s') (hq:Q Z' H')
inductive SR(X:Cx)(U:qb)(R:VK)(u:Value)(s':Shared):Prop
 | mk (v:V) (Z':St) (H':Hp) (hI:Inv X U Z' H' s') (hr:RelV v u) (hq:R v H')
def SP(X:Cx)(U:qb)(D:Ends)(f:Flow)(s':Shared):Prop :=
 match f with
 | .next=>SN X U D.nx s'
 | .brk=>SN X U D.bk s'
 | .cont=>SN X U D.ct s'
 | .ret u=>SR X U D.rt u s'
def PE(X:Cx)(e:Expr)(t:TE):Prop :=
 ∀ (U:qb) (s:Shared) (Z:St) (H:Hp) (Q:VK),Inv X U Z H s->t Z H Q->wpAny (model X.prog X.w) X.A (eval e X.env) (EP X U Z Q) X.xe s
def PT(X:Cx)(e:Expr)(t:TT):Prop :=
 ∀ (U:qb) (s:Shared) (Z:St) (H:Hp) (Q:Bool->Hp->Prop),Inv X U Z H s->t Z H Q->wpAny (model X.prog X.w) X.A (isTrue e X.env (eval e X.env)) (TP X U Z Q) X.xe s
def PW(X:Cx)(e:Expr)(t:TT):Prop :=
 ∀ (whole:Sem Value) (U:qb) (s:Shared) (Z:St) (H:Hp) (Q:Bool->Hp->Prop),Inv X U Z H s->t Z H Q->wpAny (model X.prog X.w) X.A (isTrue e X.env whole) (TP X U Z Q) X.xe s
def PW.pt{X:Cx}{e:Expr}{t:TT}(h:PW X e t):PT X e t:=h _
def PA(X:Cx)(es:List Expr)(t:TA):Prop :=
 ∀ (pos:Pos) (U:qb) (s:Shared) (Z:St) (H:Hp) (Q:List V->Hp->Prop),Inv X U Z H s->t Z H Q->wpAny (model X.prog X.w) X.A (spliced (backTo pos (starEach es X.env))) (AP X U Z Q) X.xe s
def PS(X:Cx)(st:Stmt)(t:TS):Prop :=
 ∀ (U:qb) (s:Shared) (Z:St) (H:Hp) (D:Ends),Inv X U Z H s->t D Z H->wpAny (model X.prog X.w) X.A (exec st X.env) (SP X U D) X.xe s
def PSs(X:Cx)(st:List Stmt)(t:TS):Prop :=
 ∀ (U:qb) (s:Shared) (Z:St) (H:Hp) (D:Ends),Inv X U Z H s->t D Z H->wpAny (model X.prog X.w) X.A (execs st X.env) (SP X U D) X.xe s
def thn{α:Type}{t:Sem α}{Q Q':α->Shared->Prop}{M:Model}{A:Around}{E:qc}{s:Shared}(h:wpAny M A t Q E s)(hQ:∀ a s,Q a s->Q' a s):wpAny M A t Q' E s:=wpAny_mono h hQ fun _ _ x=>x
section
variable {X:Cx}
def bin{a b:Expr}{ta tb:TE}(ha:PE X a ta)(hb:PE X b tb){U:qb}{s:Shared}{Z:St}{H:Hp}{R:V->V->Hp->Prop}(I:Inv X U Z H s)(h:ta Z H fun x H1=>tb Z H1 fun y H2=>R x y H2)
  {α:Type} {Q:α->Shared->Prop} {f:Value->Value->Sem α}
  (hf:∀ v u s2 x y H2,Inv X U Z H2 s2->RelV x v->RelV y u->R x y H2->wpAny (model X.prog X.w) X.A (f v u) Q X.xe s2) :
  wpAny (model X.prog X.w) X.A (eval a X.env) (fun v s₁=>wpAny (model X.prog X.w) X.A (eval b X.env) (fun u s₂=>wpAny (model X.prog X.w) X.A (f v u) Q X.xe s₂) X.xe s₁) X.xe s:=by
 refine thn (ha U s Z H _ I h) fun v s1 hzz=>?_
 obtain⟨x,H1,I1,r1,q1⟩:=hzz;refine thn (hb U s1 Z H1 _ I1 q1) fun u s2 hzz=>?_
 obtain⟨y,H2,I2,r2,q2⟩:=hzz;exact hf v u s2 x y H2 I2 r1 r2 q2
def tVar(i:Nat):TE:=fun Z H Q=>∃ v,Z[i]? = some (some v)/\Q v H
def tC(v:V):TE:=fun _ H Q=>Q v H
def jmu{i:Nat}{x:Str}{pos:Pos}(hN:X.N[i]? = some x)(hv:Vis X.env.scope x)(hd:(x == ("__debug__":Str))=false:=by decide)(hcd:(x == ("__classdict__":Str))=false:=by decide):PE X (.Name x pos) (tVar i):=by
 intro U s Z H Q I h;obtain⟨v,e,h⟩:=h;obtain⟨m,hn,hl⟩:=I.loc;obtain⟨u,r,l⟩:=hl i x v hN e hv;have fin:EP X U Z Q u s:=⟨v,H,I,r,h⟩
 rcases l with ⟨hk,hm⟩|⟨hk,c,hc,hcell⟩
 ·exact wpAny_Name (wpAny_loadName_local I.ok.kind hk hn hm fin) hd
 ·rcases hk with hk|hk
  ·exact wpAny_Name (wpAny_loadName_cell I.ok.kind hk hc hcell fin) hd
  ·exact wpAny_Name (wpAny_loadName_free I.ok.kind hk hc hcell fin hcd) hd
def jF0{i j pos}:PE X (.Constant (.int i) j pos) (tC (.int i)):=fun _ _ _ H _ I h=>wpAny_Constant_int ⟨.int i,H,I.tok _,⟨_,rfl⟩,h⟩
def jIj{b j pos}:PE X (.Constant (.bool b) j pos) (tC (.bl b)):=fun _ _ _ H _ I h=>Constant_bool ⟨.bl b,H,I,rfl,h⟩
def jF2{j pos}:PE X (.Constant .none j pos) (tC .non):=fun _ _ _ H _ I h=>Constant_none ⟨.non,H,I,rfl,h⟩
def jF4{x j pos}:PE X (.Constant (.str x) j pos) (tC (.str x)):=fun _ _ _ H _ I h=>Calls.Constant_str ⟨.str x,H,I.tok _,⟨_,rfl⟩,h⟩
def Gl(X:Cx)(x:Str):Prop:=X.env.kindOf x=some .globalImplicit
def jju{E:qc}{U:qb}{s:Shared}{Z:St}{H:Hp}{x:Str}{u:Value}{pos:Pos}{Q:qc}(I:Inv X U Z H s)(hg:Gl X x)(hm:X.mg x=some u)(h:Q u s)
  (hd:(x == ("__debug__":Str))=false:=by decide):wpAny (model X.prog X.w) X.A (eval (.Name x pos) X.env) Q E s :=
 Calls.Name_function_global I.ok.kind hg (Calls.loadGlobal_global (by rw[I.ok.glob];exact I.mod.glob.keeps I.bk) hm h) hd
def jmp{E:qc}{U:qb}{s:Shared}{Z:St}{H:Hp}{x:Str}{u:Value}{pos:Pos}{Q:qc}(I:Inv X U Z H s)(hg:Gl X x)(hm:X.mg x=none)(hv:bootBuiltins x=some u)(h:Q u s)
  (hn:x≠"__name__":=by decide) (hd:(x == ("__debug__":Str))=false:=by decide):wpAny (model X.prog X.w) X.A (eval (.Name x pos) X.env) Q E s:=by
 obtain⟨mb,h1,h2⟩:=I.mod.blt;exact Calls.Name_function_global I.ok.kind hg (Calls.loadGlobal_builtin (by rw[I.ok.glob];exact I.mod.glob.keeps I.bk) hm (by rw[I.ok.blt];exact h1.keeps I.bk) ((h2 x hn).trans hv) h) hd
def joa{x:Str}{v:V}{u:Value}{pos:Pos}(hg:Gl X x)(hm:X.mg x=some u)(r:RelV v u)(hd:(x == ("__debug__":Str))=false:=by decide):PE X (.Name x pos) (tC v) :=
 fun _ _ _ H _ I h=>jju I hg hm ⟨v,H,I,r,h⟩ hd
def jvy{x:Str}{v:V}{u:Value}{pos:Pos}(hg:Gl X x)(hm:X.mg x=none)(hv:bootBuiltins x=some u)(r:RelV v u)(hn:x≠"__name__":=by decide)(hd:(x == ("__debug__":Str))=false:=by decide):PE X (.Name x pos) (tC v) :=
 fun _ _ _ H _ I h=>jmp I hg hm hv ⟨v,H,I,r,h⟩ hn hd
variable {a b:Expr}{ta tb:TE}{pos:Pos}
def tB(t:TE):TT:=fun Z H Q=>t Z H fun x H1=>∃ c,x=.bl c/\Q c H1
variable {tA tB':TT}{rest:List Expr}
def tAnd(t u:TT):TT:=fun Z H Q=>t Z H fun c H1=>if c=true then u Z H1 Q else Q false H1
def tOr(t u:TT):TT:=fun Z H Q=>t Z H fun c H1=>if c=true then Q true H1 else u Z H1 Q
def tNot(t:TT):TT:=fun Z H Q=>t Z H fun c H1=>Q (!c) H1
def jC3(ha:PT X a tA):PW X (.BoolOp .And [a] pos) tA:=by
 intro wh U s Z H Q I h;refine isTrue_and (thn (ha U s Z H Q I h) fun c s1 e=>?_)
 cases c with
 | true=>exact isTrue_and_nil e
 | false=>exact e
def jAg(ha:PT X a tA):PW X (.BoolOp .Or [a] pos) tA:=by
 intro wh U s Z H Q I h;refine isTrue_or (thn (ha U s Z H Q I h) fun c s1 e=>?_)
 cases c with
 | false=>exact isTrue_or_nil e
 | true=>exact e
def jGc(ha:PT X a tA)(hb:PW X (.BoolOp .And (b::rest) pos) tB'):PW X (.BoolOp .And (a::b::rest) pos) (tAnd tA tB'):=by
 intro wh U s Z H Q I h;refine isTrue_and (thn (ha U s Z H _ I h) fun c s1 hzz=>?_);obtain⟨H1,I1,q1⟩:=hzz
 cases c with
 | true=>exact hb wh U s1 Z H1 Q I1 q1
 | false=>exact⟨H1,I1,q1⟩
def jGd(ha:PT X a tA)(hb:PW X (.BoolOp .Or (b::rest) pos) tB'):PW X (.BoolOp .Or (a::b::rest) pos) (tOr tA tB'):=by
 intro wh U s Z H Q I h;refine isTrue_or (thn (ha U s Z H _ I h) fun c s1 hzz=>?_);obtain⟨H1,I1,q1⟩:=hzz
 cases c with
 | true=>exact⟨H1,I1,q1⟩
 | false=>exact hb wh U s1 Z H1 Q I1 q1
def jAf(ha:PT X a tA):PT X (.UnaryOp .Not a pos) (tNot tA):=by
 intro U s Z H Q I h;exact isTrue_not (thn (ha U s Z H (fun c H1=>Q (!c) H1) I h) fun c s1 z=>z.casesOn fun H1 I1 q1=>⟨H1,I1,q1⟩)
def jIz(ta tb:TE):TE:=fun Z H Q=>ta Z H fun x H1=>∃ c,x=.bl c/\if c=true then tb Z H1 Q else Q (.bl false) H1
def tOrV(ta tb:TE):TE:=fun Z H Q=>ta Z H fun x H1=>∃ c,x=.bl c/\if c=true then Q (.bl true) H1 else tb Z H1 Q
def jI5(ta:TE):TE:=fun Z H Q=>ta Z H fun x H1=>∃ c,x=.bl c/\Q (.bl (!c)) H1
def jAb{op}{t:TE}(h:PE X a t):PE X (.BoolOp op [a] pos) t:=fun U s Z H Q I hw=>BoolOp_one (h U s Z H Q I hw)
def jz9(ha:PE X a ta)(hb:PE X (.BoolOp .And (b::rest) pos) tb):PE X (.BoolOp .And (a::b::rest) pos) (jIz ta tb):=by
 intro U s Z H Q I h;refine BoolOp_and (thn (ha U s Z H _ I h) fun v s1 hzz=>?_);obtain⟨x,H1,I1,r1,q1⟩:=hzz;obtain⟨c,rfl,q1⟩:=q1;cases r1;refine wpAny_truthy_bool ?_
 cases c with
 | true=>exact hb U s1 Z H1 Q I1 q1
 | false=>exact⟨.bl false,H1,I1,rfl,q1⟩
def jIk(ha:PE X a ta)(hb:PE X (.BoolOp .Or (b::rest) pos) tb):PE X (.BoolOp .Or (a::b::rest) pos) (tOrV ta tb):=by
 intro U s Z H Q I h;refine BoolOp_or (thn (ha U s Z H _ I h) fun v s1 hzz=>?_);obtain⟨x,H1,I1,r1,q1⟩:=hzz;obtain⟨c,rfl,q1⟩:=q1;cases r1;refine wpAny_truthy_bool ?_
 cases c with
 | false=>exact hb U s1 Z H1 Q I1 q1
 | true=>exact⟨.bl true,H1,I1,rfl,q1⟩
def jAa(ha:PE X a ta):PE X (.UnaryOp .Not a pos) (jI5 ta):=by
 intro U s Z H Q I h;refine UnaryOp_ (thn (ha U s Z H _ I h) fun v s1 hzz=>?_);obtain⟨x,H1,I1,r1,q1⟩:=hzz;obtain⟨c,rfl,q1⟩:=q1;cases r1;exact not_of (wpAny_truthy_bool ⟨.bl (!c),H1,I1,rfl,q1⟩)
def tIf(t:TT)(ta tb:TE):TE:=fun Z H Q=>t Z H fun c H1=>if c=true then ta Z H1 Q else tb Z H1 Q
def jyi{c:Expr}(hc:PT X c tA)(ha:PE X a ta)(hb:PE X b tb):PE X (.IfExp c a b pos) (tIf tA ta tb):=by
 intro U s Z H Q I h;refine wpAny_IfExp (thn (hc U s Z H _ I h) fun d s1 hzz=>?_);obtain⟨H1,I1,q1⟩:=hzz
 cases d with
 | true=>exact ha U s1 Z H1 Q I1 q1
 | false=>exact hb U s1 Z H1 Q I1 q1
end
def SqL(K:W.Frag)(H:Hp)(a:Addr)(xs:List V):Prop :=
 Rd H a (.lst xs) \/
  ∃ (o:Obj) (its:Array Value) (n:Nat),K.lookup a=some o/\o.cls=.type "list"/\o.dict=none/\o.data=.seq its n/\its.size<=sizeLine/\Vals xs its.toList
def SqT(K:W.Frag)(H:Hp)(a:Addr)(xs:List V):Prop :=
 Rd H a (.tup xs) \/
  ∃ (o:Obj) (its:Array Value) (n:Nat),K.lookup a=some o/\o.cls=.type "tuple"/\o.data=.seq its n/\its.size<=sizeLine/\Vals xs its.toList
def absV:Value->Option V
 | .none=>some .non
 | .bool b=>some (.bl b)
 | .int i _=>some (.int i)
 | .str x _=>some (.str x)
 | .ref a=>some (.ref a)
 | .type n=>some (.ty n)
 | _=>none
def RelV.abs{x:V}{u:Value}(r:RelV x u):absV u=some x:=by
 cases x with
 | non=>cases r;rfl
 | bl _=>cases r;rfl
 | int _=>obtain⟨t,rfl⟩:=r;rfl
 | str _=>obtain⟨t,rfl⟩:=r;rfl
 | ref _=>cases r;rfl
 | ty _=>cases r;rfl
def RelV.inj{x y:V}{u:Value}(r:RelV x u)(q:RelV y u):x=y:=zby (r.abs.symm.trans q.abs)
theorem Vals.inj:∀ {xs ys:List V} {us:List Value},Vals xs us->Vals ys us->xs=ys
 | _,_,_,.nil,.nil=>rfl
 | _,_,_,.cons r t,.cons r' t'=>by rw[r.inj r',Vals.inj t t']
section
variable {X:Cx}{U:qb}{Z:St}{H:Hp}{s:Shared}{a:Addr}{xs ys:List V}
def SqL.of{K:W.Frag}(h:H a=some (.lst xs)):SqL K H a xs:=.inl (.inl h)
def SqT.of{K:W.Frag}(h:H a=some (.tup xs)):SqT K H a xs:=.inl (.inl h)
def Inv.list(I:Inv X U Z H s)(h:SqL X.K H a xs):∃ its:List Value,Vals xs its/\PlainL s.heap a its.toArray/\xs.length<=sizeLine:=by
 rcases h with h|⟨o,its,n,hk,hc,hd,hs,hz,r⟩
 ·obtain⟨z,its,n,r,e⟩:=h.ok I.hok;exact⟨its,r,⟨_,n,e,rfl,rfl,rfl⟩,z⟩
 ·refine⟨its.toList,r,⟨o,n,I.kIn a o hk,hc,hd,by simpa using hs⟩,?_⟩;have e:=r.length;simp only[Array.length_toList] at e;omega
def Inv.tuple(I:Inv X U Z H s)(h:SqT X.K H a xs):∃ its:List Value,Vals xs its/\IsTup s.heap a its.toArray/\xs.length<=sizeLine:=by
 rcases h with h|⟨o,its,n,hk,hc,hs,hz,r⟩
 ·obtain⟨z,its,r,p⟩:=h.ok I.hok;exact⟨its,r,p,z⟩
 ·refine⟨its.toList,r,⟨o,I.kIn a o hk,hc,n,by simpa using hs⟩,?_⟩;have e:=r.length;simp only[Array.length_toList] at e;omega
def Inv.list_inj(I:Inv X U Z H s)(h:SqL X.K H a xs)(h':SqL X.K H a ys):xs=ys:=by
 obtain⟨its,r,⟨o,n,e,_,_,d⟩,_⟩:=I.list h;obtain⟨its',r',⟨o',n',e',_,_,d'⟩,_⟩:=I.list h';rw[e] at e';cases e'
 rw[d] at d';injection d' with d1 _
 have:its=its':=by simpa using congrArg Array.toList d1
 subst this;exact r.inj r'
def Inv.tuple_inj(I:Inv X U Z H s)(h:SqT X.K H a xs)(h':SqT X.K H a ys):xs=ys:=by
 obtain⟨its,r,⟨o,e,_,n,d⟩,_⟩:=I.tuple h;obtain⟨its',r',⟨o',e',_,n',d'⟩,_⟩:=I.tuple h';rw[e] at e';cases e'
 rw[d] at d';injection d' with d1 _
 have:its=its':=by simpa using congrArg Array.toList d1
 subst this;exact r.inj r'
end
abbrev Cx.wish(X:Cx)(E:qc):Cx:={ X with xe:=E }
abbrev Cx.nox(X:Cx):Cx:=X.wish fun _ _=>False
def Cx.Ok.wish{X:Cx}(ok:X.Ok)(E:qc):(X.wish E).Ok :=
 ⟨ok.mod,ok.kind,ok.glob,ok.blt,ok.above,ok.inj,ok.has,ok.cab,ok.hd,ok.frames,ok.stk,ok.exf,ok.bs,ok.bsz,ok.noex,ok.exfs,ok.funs,ok.frf⟩
def Cx.Ok.unwish{X:Cx}{E:qc}(ok:(X.wish E).Ok):X.Ok :=
 ⟨ok.mod,ok.kind,ok.glob,ok.blt,ok.above,ok.inj,ok.has,ok.cab,ok.hd,ok.frames,ok.stk,ok.exf,ok.bs,ok.bsz,ok.noex,ok.exfs,ok.funs,ok.frf⟩
section
variable {X:Cx}{U:qb}{Z:St}{H:Hp}{s:Shared}{E:qc}
def Inv.wish(I:Inv X U Z H s)(E:qc):Inv (X.wish E) U Z H s:=⟨I.ok.wish E,I.os,I.bare,I.base,I.loc,I.cell,I.free,I.freeC,I.pin,I.hok,I.len⟩
def Inv.unwish(I:Inv (X.wish E) U Z H s):Inv X U Z H s:=⟨I.ok.unwish,I.os,I.bare,I.base,I.loc,I.cell,I.free,I.freeC,I.pin,I.hok,I.len⟩
theorem SP.unwish{D:Ends}{f:Flow}{s':Shared}(h:SP (X.wish E) U D f s'):SP X U D f s':=by
 cases f with
 | next=>obtain⟨Z',H',I,q⟩:=h;exact⟨Z',H',I.unwish,q⟩
 | brk=>obtain⟨Z',H',I,q⟩:=h;exact⟨Z',H',I.unwish,q⟩
 | cont=>obtain⟨Z',H',I,q⟩:=h;exact⟨Z',H',I.unwish,q⟩
 | ret u=>obtain⟨v,Z',H',I,r,q⟩:=h;exact⟨v,Z',H',I.unwish,r,q⟩
def PSs.nox{st:List Stmt}{t:TS}(h:PSs X.nox st t):PSs X st t:=fun U s Z H D I hw =>
 wpAny_mono (h U s Z H D (I.wish _) hw) (fun _ _ q=>q.unwish) fun _ _ z=>False.elim z
end
section
variable {X:Cx}{st:Stmt}{rest:List Stmt}{t u:TS}{e:Expr}{te:TE}{pos:Pos}
def jI4:TS:=fun D Z H=>D.nx Z H
def tSeq(t u:TS):TS:=fun D Z H=>t { D with nx:=u D } Z H
def jwa:PSs X [] jI4:=fun _ _ Z H _ I h=>wpAny_execs_nil ⟨Z,H,I,h⟩
def jod(h1:PS X st t)(h2:PSs X rest u):PSs X (st::rest) (tSeq t u):=by
 intro U s Z H D I h;refine wpAny_execs_cons (thn (h1 U s Z H { D with nx:=u D } I h) fun f s1 q=>?_)
 cases f with
 | next =>
  obtain⟨Z',H',I',q⟩:=q;exact h2 U s1 Z' H' D I' q
 | ret v=>exact q
 | brk=>exact q
 | cont=>exact q
def joe(h1:PS X st t):PSs X [st] t:=by
 intro U s Z H D I h;refine wpAny_execs_cons (thn (h1 U s Z H D I h) fun f s1 q=>?_)
 cases f with
 | next=>exact wpAny_execs_nil q
 | ret v=>exact q
 | brk=>exact q
 | cont=>exact q
def Inv.quiet{U:qb}{Z:St}{H:Hp}{s:Shared}(I:Inv X U Z H s):interactive X.env=false:=by simp[interactive,I.ok.kind]
def jI2(te:TE):TS:=fun D Z H=>te Z H fun _ H1=>D.nx Z H1
def joc(he:PE X e te)(hs:swapsWith e none pos.line X.env=pure false:=by rfl):PS X (.Expr e pos) (jI2 te):=by
 intro U s Z H D I h;exact wpAny_Expr_any (thn (he U s Z H _ I h) fun v s1 ⟨x,H1,I1,r1,q1⟩=>⟨Z,H1,I1,q1⟩) I.quiet hs
def tRet(te:TE):TS:=fun D Z H=>te Z H D.rt
def jv9(he:PE X e te):PS X (.Return (some e) pos) (tRet te):=by
 intro U s Z H D I h;exact wpAny_Return_some (thn (he U s Z H _ I h) fun v s1 ⟨x,H1,I1,r1,q1⟩=>⟨x,Z,H1,I1,r1,q1⟩)
def tIfS(c:TT)(t u:TS):TS:=fun D Z H=>c Z H fun b H1=>if b=true then t D Z H1 else u D Z H1
def jCz{c:Expr}{a b:List Stmt}{tc:TT}(hc:PT X c tc)(ha:PSs X a t)(hb:PSs X b u):PS X (.If c a b pos) (tIfS tc t u):=by
 intro U s Z H D I h;refine wpAny_If (thn (hc U s Z H _ I h) fun d s1 hzz=>?_);obtain⟨H1,I1,q1⟩:=hzz
 cases d with
 | true=>exact ha U s1 Z H1 D I1 q1
 | false=>exact hb U s1 Z H1 D I1 q1
end
abbrev TG:=V->St->Hp->(St->Hp->Prop)->Prop
abbrev TGs:=List V->St->Hp->(St->Hp->Prop)->Prop
def PG(X:Cx)(target:Expr)(t:TG):Prop :=
 ∀ (U:qb) (s:Shared) (Z:St) (H:Hp) (v:V) (u:Value) (Q:St->Hp->Prop),Inv X U Z H s->RelV v u->t v Z H Q ->
  wpAny (model X.prog X.w) X.A (assign target X.env u) (fun _ s'=>SN X U Q s') X.xe s
def PGs(X:Cx)(ts:List Expr)(t:TGs):Prop :=
 ∀ (U:qb) (s:Shared) (Z:St) (H:Hp) (vs:List V) (us:List Value) (Q:St->Hp->Prop),Inv X U Z H s->Vals vs us->t vs Z H Q ->
  wpAny (model X.prog X.w) X.A (assignInOrder ((assignEach ts X.env).map (·.2)) us) (fun _ s'=>SN X U Q s') X.xe s
abbrev TSet:=V->V->V->Hp->(Hp->Prop)->Prop
abbrev TIp:=V->V->Hp->VK->Prop
def PIp(X:Cx)(op:Operator)(t:TIp):Prop :=
 ∀ (U:qb) (s:Shared) (Z:St) (H:Hp) (x y:V) (v u:Value) (Q:VK),Inv X U Z H s->RelV x v->RelV y u->t x y H Q ->
  wpAny (model X.prog X.w) X.A (inplaceOp op v u) (EP X U Z Q) X.xe s
section
variable {X:Cx}{pos:Pos}
def gName(i:Nat):TG:=fun v Z H Q=>Q (Z.set i (some v)) H
def jjy{i:Nat}{x:Str}(hN:X.N.Nodup)(hi:X.N[i]? = some x)(hx:Loc X.env.scope x)(hf:X.fn x=true\/X.env.scope.names.lookup x=some .local:=by first|exact .inl rfl|exact .inr rfl|assumption):PG X (.Name x pos) (gName i):=by
 intro U s Z H v u Q I r h;exact wpAny_assign_Name (jjm I hN hi hx r (fun s' I'=>⟨_,H,I',h⟩) hf)
def gNil:TGs:=fun vs Z H Q=>vs=[]/\Q Z H
def jH3(t:TG)(u:TGs):TGs:=fun vs Z H Q=>∃ v r,vs=v::r/\t v Z H fun Z' H'=>u r Z' H' Q
def jv2:PGs X [] gNil:=by
 intro U s Z H vs us Q I r h;obtain⟨e,h⟩:=h;subst e;cases r;exact assignInOrder_nil ⟨Z,H,I,h⟩
def jjj{e:Expr}{es:List Expr}{t:TG}{u:TGs}(h1:PG X e t)(h2:PGs X es u)
  (hs:(assignEach (e::es) X.env).map (·.2)=assign e X.env::(assignEach es X.env).map (·.2):=by rfl):PGs X (e::es) (jH3 t u):=by
 intro U s Z H vs us Q I r h;obtain⟨v,vr,e1,h⟩:=h;subst e1
 cases r with
 | cons r rr =>
  rw[hs];refine assignInOrder_cons (thn (h1 U s Z H _ _ _ I r h) fun _ s1 hzz=>?_);obtain⟨Z1,H1,I1,q1⟩:=hzz;exact h2 U s1 Z1 H1 _ _ Q I1 rr q1
def gTup(K:W.Frag)(n:Nat)(t:TGs):TG:=fun v Z H Q=>∃ a xs,v=.ref a/\SqT K H a xs/\xs.length=n/\t xs Z H Q
def jAd{es:List Expr}{k:Nat}{t:TGs}{n:Nat}(hc:X.calm=true)(h:PGs X es t)
  (hn:(assignEach es X.env).length=n:=by rfl) (hst:(assignEach es X.env).findIdx? (·.1)=none:=by rfl):PG X (.Tuple es k pos) (gTup X.K n t):=by
 intro U s Z H v u Q I r hw;obtain⟨a,xs,e1,hq,hl,hw⟩:=hw;subst e1;cases r;obtain⟨its,rv,ht,hz⟩:=I.tuple hq;refine assign_Tuple_tuple (I.ok.hd hc) ht (by simp[hn,<- hl,rv.length]) hst fun h' hx=>?_
 have I1:Inv X U Z H { s with heap:=h' }:=I.kept (t':=s.toks) fun b o e=>hx b o (zcv (zbv e)) e
 exact h U _ Z H xs _ Q I1 (by simpa using rv) hw
def gSub(to ti:TE)(t:TSet):TG:=fun v Z H Q=>to Z H fun o H1=>ti Z H1 fun i H2=>t o i v H2 fun H3=>Q Z H3
def tAsg(te:TE)(g:TG):TS:=fun D Z H=>te Z H fun x H1=>g x Z H1 D.nx
def jF9{tg e:Expr}{te:TE}{g:TG}(he:PE X e te)(hg:PG X tg g)(hs:swapsWithSole [tg] e pos.line X.env=pure false:=by rfl)(hw:swappedStores [tg] e X.env=pure none:=by rfl)
  (h1:(assignEach [tg] X.env).map (·.2)=[assign tg X.env]:=by rfl):PS X (.Assign [tg] e pos) (tAsg te g):=by
 intro U s Z H D I h;refine wpAny_Assign_stores (thn (he U s Z H _ I h) fun v s1 hzz=>?_) hs hw;obtain⟨x,H1,I1,r1,q1⟩:=hzz;rw[h1];exact thn (hg U s1 Z H1 x v _ I1 r1 q1) fun _ s2 q=>q
def jlq{i:Nat}{x:Str}{e:Expr}{te:TE}{pos':Pos}(hN:X.N.Nodup)(hi:X.N[i]? = some x)(hx:Loc X.env.scope x)(he:PE X e te)(hs:swapsWith e (some (.Name x pos')) pos.line X.env=pure false:=by rfl)(hf:X.fn x=true\/X.env.scope.names.lookup x=some .local:=by first|exact .inl rfl|exact .inr rfl|assumption) :
  PS X (.Assign [.Name x pos'] e pos) (tAsg te (gName i)):=by
 intro U s Z H D I h;refine wpAny_Assign_Name (thn (he U s Z H _ I h) fun v s1 hzz=>?_) hs;obtain⟨y,H1,I1,r1,q1⟩:=hzz;exact jjm I1 hN hi hx r1 (fun s2 I2=>⟨_,H1,I2,q1⟩) hf
def tAug(i:Nat)(te:TE)(ti:TIp):TS:=fun D Z H=>∃ x,Z[i]? = some (some x)/\te Z H fun y H1=>ti x y H1 fun z H2=>D.nx (Z.set i (some z)) H2
def jGa{i:Nat}{x:Str}{e:Expr}{te:TE}{op:Operator}{ti:TIp}{pos':Pos}(hN:X.N.Nodup)(hi:X.N[i]? = some x)(hx:Loc X.env.scope x)(he:PE X e te)(ho:PIp X op ti)(hf:X.fn x=true\/X.env.scope.names.lookup x=some .local:=by first|exact .inl rfl|exact .inr rfl|assumption) :
  PS X (.AugAssign (.Name x pos') op e pos) (tAug i te ti):=by
 intro U s Z H D I h;obtain⟨v,e1,h⟩:=h;obtain⟨m,hn,hl⟩:=I.loc;have vis:Vis X.env.scope x:=by rcases hx with k|k;exact .inl k;exact .inr (.inl k)
 obtain⟨u,r,l⟩:=hl i x v hi e1 vis;refine wpAny_AugAssign_Name ?_;have go:wpAny (model X.prog X.w) X.A (eval e X.env) (fun w s₂=>wpAny (model X.prog X.w) X.A (inplaceOp op u w) (fun r s₃=>wpAny (model X.prog X.w) X.A (storeName X.env x r) (fun _=>SP X U D .next) X.xe s₃) X.xe s₂) X.xe s:=by
  refine thn (he U s Z H _ I h) fun w s1 hzz=>?_
  obtain⟨y,H1,I1,r1,q1⟩:=hzz;refine thn (ho U s1 Z H1 v y u w _ I1 r r1 q1) fun z s2 hzz=>?_
  obtain⟨zv,H2,I2,r2,q2⟩:=hzz;exact jjm I2 hN hi hx r2 (fun s3 I3=>⟨_,H2,I3,q2⟩) hf
 rcases l with ⟨hk,hm⟩|⟨hk,c,hc,hcell⟩
 ·exact wpAny_loadName_local I.ok.kind hk hn hm go
 ·rcases hk with hk|hk
  ·exact wpAny_loadName_cell I.ok.kind hk hc hcell go
  ·rcases hx with k|k
   ·have:X.env.scope.names.lookup x=some .free:=hk;rw[k] at this;cases this
   ·have:X.env.scope.names.lookup x=some .free:=hk;rw[k] at this;cases this
end
section
variable {X:Cx}{pos:Pos}
def jGz(c:TT)(tb:TS):TS:=fun D Z H=>∃ W:Nat->St->Hp->Prop,(∃ m,W m Z H)/\∀ m Z H,W m Z H ->
 c Z H fun b H1=>if b=true then ∃ N:St->Hp->Prop,(∀ Z' H',N Z' H'->∃ m',m'<m/\W m' Z' H')/\tb { D with nx:=N,ct:=N,bk:=D.nx } Z H1 else D.nx Z H1
def jsf{c:Expr}{body:List Stmt}{tc:TT}{tb:TS}(hp:PassesOwn (model X.prog X.w) X.A X.env X.xe)(hc:PT X c tc)(hb:PSs X body tb):PS X (.While c body [] pos) (jGz tc tb):=by
 intro U s Z H D I h;obtain⟨W,⟨m0,w0⟩,turn⟩:=h;refine wpAny_While (codeAny_whileLoop (fun n s'=>∃ Z' H',Inv X U Z' H' s'/\W n Z' H') ?_ m0 ⟨Z,H,I,w0⟩);rintro n s1 ⟨Z1,H1,I1,w1⟩;refine wpAny_passesOwn hp (thn (hc U s1 Z1 H1 _ I1 (turn n Z1 H1 w1)) fun b s2 hzz=>?_);obtain⟨H2,I2,q2⟩:=hzz
 cases b with
 | true =>
  obtain⟨N,hN,q2⟩:=q2;rw[if_pos rfl];refine wpAny_passesOwn hp (thn (hb U s2 Z1 H2 _ I2 q2) fun f s3 q3=>?_)
  cases f with
  | next =>
   obtain⟨Z3,H3,I3,n3⟩:=q3;obtain⟨m',hm,w3⟩:=hN Z3 H3 n3;exact⟨m',hm,Z3,H3,I3,w3⟩
  | cont =>
   obtain⟨Z3,H3,I3,n3⟩:=q3;obtain⟨m',hm,w3⟩:=hN Z3 H3 n3;exact⟨m',hm,Z3,H3,I3,w3⟩
  | brk=>exact q3
  | ret v=>exact q3
 | false =>
  rw[if_neg Bool.false_ne_true];exact wpAny_execs_nil ⟨Z1,H2,I2,q2⟩
end
structure It where
 go:Nat->Hp->Prop
 yld:Nat->Hp->V->Hp->Prop
 stop:Nat->Hp->Prop
def FpOk(X:Cx)(U:qb)(H:Hp)(b:Addr):Prop :=
 H b=none/\b≠X.env.locals/\b∉X.fs/\(b∈X.ex\/X.s₀.heap.objs.size<=b)/\(∀ x c,X.env.cells.lookup x=some c->c≠b)/\∀ p∈X.pn++U,p.1≠b
def Inv.fpOk{X:Cx}{U:qb}{Z:St}{H H':Hp}{s:Shared}{b:Addr}(I:Inv X U Z H s)(hb:s.heap.objs.size<=b)(hn:H' b=none):FpOk X U H' b:=by
 refine⟨hn,Nat.ne_of_gt (zcx I.lt hb),I.nofs hb,.inr (zdx I.sz hb),fun x c e z=>?_,fun p hp z=>?_⟩
 ·obtain⟨v,q⟩:=I.cell x c e;exact absurd (zcx q.lt (by rw[z];exact hb)) (Nat.lt_irrefl _)
 ·exact absurd (zcx (zbv (I.pin p hp).1) (by rw[z];exact hb)) (Nat.lt_irrefl _)
inductive TIt(X:Cx)(U:qb)(Z:St)(Jq:It)(fp:List Addr)(tn:Nat->Heap->Prop)(i:Nat)(H:Hp)(u:Value)(s2:Shared):Prop
 | mk (x:V) (H':Hp) (h1:Inv X U Z H' s2) (h2:RelV x u) (h3:Jq.yld i H x H') (h4:tn (i+1) s2.heap) (h5:∀ b∈fp,H' b=none)
structure Turn(P:Program)(w:World)(K:W.Frag)(tg:Expr)(Jq:It)(fp:List Addr)(it:Addr)(tn:Nat->Heap->Prop):Prop where
 mem:it∈fp
 obj:∀ i h,tn i h->∀ b∈fp,∃ o,h.get? b=some o/\∀ v,o.data≠.cell v
 keep:∀ i h h',tn i h->(∀ b∈fp,∀ o,h.get? b=some o->h'.get? b=some o)->tn i h'
 item:∀ (X:Cx),X.prog=P->X.w=w->X.K=K->X.calm=true->∀ (i:Nat) (U:qb) (s:Shared) (Z:St) (H:Hp) (E:qc),Inv X U Z H s->(∀ b∈fp,FpOk X U H b)->tn i s.heap->Jq.go i H ->
  wpAny (model P w) X.A (pyNext (.ref it)) (fun r s1=>∃ u,r=some u /\
   wpAny (model P w) X.A (letOwnedTupleGo tg (.ref it) u) (fun _ s2=>TIt X U Z Jq fp tn i H u s2) E s1) E s
 done:∀ (X:Cx),X.prog=P->X.w=w->X.K=K->X.calm=true->∀ (i:Nat) (U:qb) (s:Shared) (Z:St) (H:Hp) (E:qc),Inv X U Z H s->(∀ b∈fp,FpOk X U H b)->tn i s.heap->Jq.stop i H ->
  wpAny (model P w) X.A (pyNext (.ref it)) (fun r s1=>r=none/\Inv X U Z H s1) E s
 self:∀ (A:Around) (i:Nat) (s:Shared) (Q:qc) (E:qc),tn i s.heap->Q (.ref it) s->wpAny (model P w) A (pyIter (.ref it)) Q E s
abbrev TI:=St->Hp->(It->Hp->Prop)->Prop
inductive PIE(X:Cx)(U:qb)(Z:St)(tg:Expr)(R:It->Hp->Prop)(itv:Value)(s2:Shared):Prop
 | mk (it:Addr) (fp:List Addr) (tn:Nat->Heap->Prop) (Jq:It) (H':Hp) (h1:itv=.ref it) (h2:Inv X U Z H' s2) (h3:Turn X.prog X.w X.K tg Jq fp it tn) (h4:tn 0 s2.heap) (h5:∀ b∈fp,FpOk X U H' b) (h6:R Jq H')
def PI(X:Cx)(tg iter:Expr)(wi:TI):Prop :=
 ∀ (U:qb) (s:Shared) (Z:St) (H:Hp) (R:It->Hp->Prop),Inv X U Z H s->wi Z H R ->
  wpAny (model X.prog X.w) X.A (eval iter X.env) (fun v s1=>wpAny (model X.prog X.w) X.A (pyIter v) (PIE X U Z tg R) X.xe s1) X.xe s
def go_of{M:Model}{A:Around}{E:qc}{s:Shared}{tg:Expr}{it:Addr}{u:Value}{o:Obj}{n:String}{vs:Array Value}{Q:Unit->Shared->Prop}(ho:s.heap.get? it=some o)(hc:o.cls=.type n)(hd:o.data=.fields vs)
    (hn:["enumerate","zip","dict_itemiterator","dict_reverseitemiterator","odict_iterator","itertools.zip_longest","itertools.pairwise"].contains n=false) (hQ:Q () s):wpAny M A (letOwnedTupleGo tg (.ref it) u) Q E s:=by
  unfold letOwnedTupleGo;cases tg<;>first
    | exact zab hQ
    | (cases u<;>first
        | exact zab hQ
        | (refine zay (wpAny_load ho ?_)
           rw[hc,hd];show wpAny M A (if (["enumerate","zip","dict_itemiterator","dict_reverseitemiterator","odict_iterator","itertools.zip_longest","itertools.pairwise"].contains n&&vs[0]? == some (rawInt _))=true then _ else _) Q E s;rw[if_neg (by intro h;rw[hn,Bool.false_and] at h;cases h)];exact zab hQ))
def Itl(K:W.Frag)(a:Addr):It :=
 ⟨fun i H=>∃ xs x,SqL K H a xs/\xs[i]? = some x,fun i H x H'=>H'=H/\∀ xs,SqL K H a xs->xs[i]? = some x,fun i H=>∃ xs,SqL K H a xs/\xs.length<=i⟩
def Itt(K:W.Frag)(a:Addr):It :=
 ⟨fun i H=>∃ xs x,SqT K H a xs/\xs[i]? = some x,fun i H x H'=>H'=H/\∀ xs,SqT K H a xs->xs[i]? = some x,fun i H=>∃ xs,SqT K H a xs/\xs.length<=i⟩
def jw3{P:Program}{w:World}{K:W.Frag}{tg:Expr}(a it:Addr):Turn P w K tg (Itl K a) [it] it (fun i h=>h.IsListIter it a i) where
 mem:=by simp
 obj:=fun i h st b hb=>by
  have e:b=it:=by simpa using hb
  subst e;obtain⟨o,e,c,d⟩:=st;exact⟨o,e,fun v z=>by rw[d] at z;cases z⟩
 keep:=fun i h h' st k=>st.at fun o e=>k it (by simp) o e
 item:=by
  intro X hP hw hK hc i U s Z H E I hf st hg;subst hP hw hK;obtain⟨xs,x,hq,hx⟩:=hg;obtain⟨its,rv,p,hz⟩:=I.list hq;obtain⟨u,hu,ru⟩:=rv.get hx;obtain⟨f0,f1,f2,f3,f4,f5⟩:=hf it (by simp);refine wpAny_pyNext_list_item st p.isList (x:=u) (by simpa using hu) fun h' st' sb=>?_
  have I1:Inv X U Z H { s with heap:=h' }:=I.turned (t':=s.toks) (fun b o hb e=>(sb.2 b hb).trans e) f0 f1 f3 f4 f5;obtain⟨o,e,c,d⟩:=id st';exact⟨u,rfl,go_of (s:={ s with heap:=h' }) e c d (by decide) ⟨x,H,I1,ru,⟨rfl,fun ys hy=>by rw[I.list_inj hy hq];exact hx⟩,st',fun b hb=>(hf b hb).1⟩⟩
 done:=by
  intro X hP hw hK hc i U s Z H E I hf st hg;subst hP hw hK;obtain⟨xs,hq,hx⟩:=hg;obtain⟨its,rv,p,hz⟩:=I.list hq;obtain⟨f0,f1,f2,f3,f4,f5⟩:=hf it (by simp);have hl:=rv.length;exact wpAny_pyNext_list_end (I.ok.hd hc) st p.isList (by simp;omega) fun h' eb=>⟨rfl,I.turned (t':=s.toks) (fun b o hb e=>eb b o hb e) f0 f1 f3 f4 f5⟩
 self:=fun _ _ _ _ _ st h=>wpAny_pyIter_listiter st h
def jty{P:Program}{w:World}{K:W.Frag}{tg:Expr}(a it:Addr):Turn P w K tg (Itt K a) [it] it (fun i h=>h.IsTupleIter it a i) where
 mem:=by simp
 obj:=fun i h st b hb=>by
  have e:b=it:=by simpa using hb
  subst e;obtain⟨o,e,c,d⟩:=st;exact⟨o,e,fun v z=>by rw[d] at z;cases z⟩
 keep:=fun i h h' st k=>st.at fun o e=>k it (by simp) o e
 item:=by
  intro X hP hw hK hc i U s Z H E I hf st hg;subst hP hw hK;obtain⟨xs,x,hq,hx⟩:=hg;obtain⟨its,rv,p,hz⟩:=I.tuple hq;obtain⟨u,hu,ru⟩:=rv.get hx;obtain⟨f0,f1,f2,f3,f4,f5⟩:=hf it (by simp);refine wpAny_pyNext_tuple_item st (show s.heap.IsTuple a its.toArray from p) (x:=u) (by simpa using hu) fun h' st' sb=>?_
  have I1:Inv X U Z H { s with heap:=h' }:=I.turned (t':=s.toks) (fun b o hb e=>(sb.2 b hb).trans e) f0 f1 f3 f4 f5;obtain⟨o,e,c,d⟩:=id st';exact⟨u,rfl,go_of (s:={ s with heap:=h' }) e c d (by decide) ⟨x,H,I1,ru,⟨rfl,fun ys hy=>by rw[I.tuple_inj hy hq];exact hx⟩,st',fun b hb=>(hf b hb).1⟩⟩
 done:=by
  intro X hP hw hK hc i U s Z H E I hf st hg;subst hP hw hK;obtain⟨xs,hq,hx⟩:=hg;obtain⟨its,rv,p,hz⟩:=I.tuple hq;obtain⟨f0,f1,f2,f3,f4,f5⟩:=hf it (by simp);have hl:=rv.length;exact wpAny_pyNext_tuple_end (I.ok.hd hc) st (show s.heap.IsTuple a its.toArray from p) (by simp;omega) fun h' eb=>⟨rfl,I.turned (t':=s.toks) (fun b o hb e=>eb b o hb e) f0 f1 f3 f4 f5⟩
 self:=fun _ _ _ _ _ st h=>wpAny_pyIter_tupleiter st h
section
variable {X:Cx}{tg:Expr}
def tFor(wi:TI)(g:TG)(tb:TS):TS:=fun D Z H=>wi Z H fun Jq H1=>∃ W:Nat->Nat->St->Hp->Prop,(∃ m,W 0 m Z H1)/\∀ i m Z H,W i m Z H ->
 (Jq.stop i H/\D.nx Z H)\/(Jq.go i H/\∃ N:St->Hp->Prop,(∀ Z' H',N Z' H'->∃ m',m'<m/\W (i+1) m' Z' H')/\∀ x H',Jq.yld i H x H'->g x Z H' fun Z2 H2=>tb { D with nx:=N,ct:=N,bk:=D.nx } Z2 H2)
def jps(fp:List Addr)(h:Heap):qb:=fp.filterMap fun b=>(h.get? b).map fun o=>(b,o)
def jhx{fp:List Addr}{h:Heap}{b:Addr}{o:Obj}(hb:b∈fp)(e:h.get? b=some o):(b,o)∈jps fp h:=List.mem_filterMap.mpr ⟨b,hb,by rw[e];rfl⟩
def jvq{fp:List Addr}{h:Heap}{p:Addr×Obj}(hp:p∈jps fp h):p.1∈fp/\h.get? p.1=some p.2:=by
 obtain⟨b,hb,e⟩:=List.mem_filterMap.mp hp
 cases q:h.get? b with
 | none=>rw[q] at e;cases e
 | some o =>
  rw[q] at e;have e':(b,o)=p:=zby e;subst e';exact⟨hb,q⟩
def Inv.pinned{U:qb}{Z:St}{H:Hp}{s:Shared}{fp:List Addr}(I:Inv X U Z H s)(hf:∀ b∈fp,FpOk X U H b)(ho:∀ b∈fp,∃ o,s.heap.get? b=some o/\∀ v,o.data≠.cell v):Inv X (U++jps fp s.heap) Z H s :=
 I.pins_of fun p hp=>(List.mem_append.mp hp).elim (fun z=>I.pin p (zcy _ z)) fun z=>by
  obtain⟨hb,e⟩:=jvq z;obtain⟨f0,f1,f2,_⟩:=hf p.1 hb;obtain⟨o,e',d⟩:=ho p.1 hb;rw[e] at e';cases e'
  exact⟨e,f0,f1,f2,d⟩
def Inv.unpinned{U pl:qb}{Z:St}{H:Hp}{s:Shared}(I:Inv X (U++pl) Z H s):Inv X U Z H s:=I.pins_of fun p hp=>I.pin p (zcy _ (List.mem_append_left _ hp))
def jv8{iter:Expr}{body:List Stmt}{wi:TI}{g:TG}{tb:TS}{pos:Pos}(hp:PassesOwn (model X.prog X.w) X.A X.env X.xe)(hc:X.calm=true)(hi:PI X tg iter wi)(hg:PG X tg g)(hb:PSs X body tb)
  (hs:∀ x,foldedSetIterable iter X.env x=pure x:=by intro _;rfl):PS X (.For tg iter body [] pos) (tFor wi g tb):=by
 intro U s Z H D I h;refine wpAny_For (thn (hi U s Z H _ I h) fun v s1 h1=>thn h1 fun itv s2 h2=>?_) hs;obtain⟨it,fp,tn,Jq,H2,e,I2,T,st2,f2,W,⟨m0,w0⟩,turn⟩:=h2;subst e;have stat:∀ {H':Hp},(∀ b∈fp,H' b=none)->∀ b∈fp,FpOk X U H' b:=fun hn b hb=>⟨hn b hb,(f2 b hb).2⟩
 refine codeAny_forLoop_any (fun n s'=>∃ i Z' H',Inv X U Z' H' s'/\tn i s'.heap/\(∀ b∈fp,H' b=none)/\W i n Z' H') ?_ m0 ⟨0,Z,H2,I2,st2,fun b hb=>(f2 b hb).1,w0⟩;rintro n s3 ⟨i,Z3,H3,I3,st3,fr3,w3⟩;rcases turn i n Z3 H3 w3 with ⟨stop,qn⟩|⟨go,N,hN,step⟩
 ·refine wpAny_passesOwn hp (thn (T.done X rfl rfl rfl hc i U s3 Z3 H3 X.xe I3 (stat fr3) st3 stop) fun r s4 hzz=>?_);obtain⟨hr,I4⟩:=hzz;subst hr;exact wpAny_execs_nil ⟨Z3,H3,I4,qn⟩
 ·refine wpAny_passesOwn hp (thn (T.item X rfl rfl rfl hc i U s3 Z3 H3 X.xe I3 (stat fr3) st3 go) fun r s4 hzz=>?_);obtain⟨u,hr,h4⟩:=hzz;subst hr;refine wpAny_passesOwn hp (thn h4 fun _ s5 hzz=>?_);obtain⟨x,H5,I5,r5,y5,st5,fr5⟩:=hzz;have I5':=I5.pinned (stat fr5) (T.obj _ _ st5);refine wpAny_passesOwn hp (thn (hg _ s5 Z3 H5 x u _ I5' r5 (step x H5 y5)) fun _ s6 hzz=>?_);obtain⟨Z6,H6,I6,q6⟩:=hzz;refine wpAny_passesOwn hp (thn (hb _ s6 Z6 H6 _ I6 q6) fun f s7 q7=>?_);have again:∀ {Z7:St} {H7:Hp},Inv X (U++jps fp s5.heap) Z7 H7 s7->N Z7 H7->∃ m,m<n/\∃ i Z' H',Inv X U Z' H' s7/\tn i s7.heap/\(∀ b∈fp,H' b=none)/\W i m Z' H':=fun {Z7 H7} I7 n7=>by
   obtain⟨m',hm,w7⟩:=hN Z7 H7 n7;refine⟨m',hm,i+1,Z7,H7,I7.unpinned,T.keep _ _ _ st5 fun b hb o e=>(I7.pin (b,o) (zcy _ (zcy _ (jhx hb e)))).1,fun b hb=>?_,w7⟩;obtain⟨o,e,d⟩:=T.obj _ _ st5 b hb;exact (I7.pin (b,o) (zcy _ (zcy _ (jhx hb e)))).2.1
  cases f with
  | next=>obtain⟨Z7,H7,I7,n7⟩:=q7;exact again I7 n7
  | cont=>obtain⟨Z7,H7,I7,n7⟩:=q7;exact again I7 n7
  | brk=>obtain⟨Z7,H7,I7,q7⟩:=q7;exact⟨Z7,H7,I7.unpinned,q7⟩
  | ret v=>obtain⟨x7,Z7,H7,I7,r7,q7⟩:=q7;exact⟨x7,Z7,H7,I7.unpinned,r7,q7⟩
end
abbrev R2:=V->V->Hp->VK->Prop
def OpR(X:Cx)(f:Value->Value->Sem Value)(r:R2):Prop :=
 ∀ (U:qb) (s:Shared) (Z:St) (H:Hp) (x y:V) (v u:Value) (Q:VK),Inv X U Z H s->RelV x v->RelV y u->r x y H Q ->
  wpAny (model X.prog X.w) X.A (f v u) (EP X U Z Q) X.xe s
def UnR(X:Cx)(f:Value->Sem Value)(r:V->Hp->VK->Prop):Prop :=
 ∀ (U:qb) (s:Shared) (Z:St) (H:Hp) (x:V) (v:Value) (Q:VK),Inv X U Z H s->RelV x v->r x H Q ->
  wpAny (model X.prog X.w) X.A (f v) (EP X U Z Q) X.xe s
def CallR(X:Cx)(f:Value)(r:List V->Hp->VK->Prop):Prop :=
 ∀ (U:qb) (s:Shared) (Z:St) (H:Hp) (xs:List V) (us:List Value) (Q:VK),Inv X U Z H s->Vals xs us->r xs H Q ->
  wpAny (model X.prog X.w) X.A (call f us) (EP X U Z Q) X.xe s
def TruR(X:Cx)(r:V->Hp->(Bool->Hp->Prop)->Prop):Prop :=
 ∀ (U:qb) (s:Shared) (Z:St) (H:Hp) (x:V) (v:Value) (Q:Bool->Hp->Prop),Inv X U Z H s->RelV x v->r x H Q ->
  wpAny (model X.prog X.w) X.A (truthy v) (TP X U Z Q) X.xe s
def tOp(r:R2)(ta tb:TE):TE:=fun Z H Q=>ta Z H fun x H1=>tb Z H1 fun y H2=>r x y H2 Q
def tUn(r:V->Hp->VK->Prop)(ta:TE):TE:=fun Z H Q=>ta Z H fun x H1=>r x H1 Q
def rI(C:Int->Int->Prop)(g:Int->Int->V):R2:=fun x y H Q=>∃ i j,x=.int i/\y=.int j/\C i j/\Q (g i j) H
def rI0(g:Int->Int->V):R2:=fun x y H Q=>∃ i j,x=.int i/\y=.int j/\Q (g i j) H
def rU(g:Int->V):V->Hp->VK->Prop:=fun x H Q=>∃ i,x=.int i/\Q (g i) H
section
variable {X:Cx}{a b:Expr}{ta tb:TE}{pos:Pos}
def binT(ha:PE X a ta)(hb:PE X b tb){U:qb}{s:Shared}{Z:St}{H:Hp}{R:V->V->Hp->Prop}(I:Inv X U Z H s)
  (h:ta Z H fun x H1=>tb Z H1 fun y H2=>R x y H2) {Q:qc} {f:Value->Value->Sem Value}
  (hf:∀ v u s2 x y H2,Inv X U Z H2 s2->RelV x v->RelV y u->R x y H2->wpAny (model X.prog X.w) X.A (f v u) Q X.xe s2) :
  wpAny (model X.prog X.w) X.A (eval a X.env) (fun v s₁=>wpAny (model X.prog X.w) X.A (eval b X.env) (fun u s₂=>wpAny (model X.prog X.w) X.A (f v u) Q X.xe s₂) X.xe s₁) X.xe s:=by
 refine thn (ha U s Z H _ I h) fun v s1 hzz=>?_
 obtain⟨x,H1,I1,r1,q1⟩:=hzz;refine thn (hb U s1 Z H1 _ I1 q1) fun u s2 hzz=>?_
 obtain⟨y,H2,I2,r2,q2⟩:=hzz;exact hf v u s2 x y H2 I2 r1 r2 q2
def jF3{op:Operator}{r:R2}(ho:OpR X (binaryOp op) r)(ha:PE X a ta)(hb:PE X b tb):PE X (.BinOp a op b pos) (tOp r ta tb):=by
 intro U s Z H Q I h;exact wpAny_BinOp (binT ha hb I h fun v u s2 x y H2 I2 rx ry q=>ho U s2 Z H2 x y v u Q I2 rx ry q)
def jIl{op:UnaryOp}{r:V->Hp->VK->Prop}(ho:UnR X (unaryOp op) r)(ha:PE X a ta):PE X (.UnaryOp op a pos) (tUn r ta):=by
 intro U s Z H Q I h;exact UnaryOp_ (thn (ha U s Z H _ I h) fun v s1 ⟨x,H1,I1,r1,q1⟩=>ho U s1 Z H1 x v Q I1 r1 q1)
def opI{f:Value->Value->Sem Value}{C:Int->Int->Prop}{g:Int->Int->Int}
  (rule:∀ (i j:Int) (t u:Tok) (s:Shared) (Q:qc) (E:qc),C i j->Q (.int (g i j) s.toks) { s with toks:=s.toks+1 }->wpAny (model X.prog X.w) X.A (f (.int i t) (.int j u)) Q E s) :
  OpR X f (rI C fun i j=>.int (g i j)):=by
 intro U s Z H x y v u Q I rx ry h;obtain⟨i,j,rfl,rfl,hc,q⟩:=h;obtain⟨t,rfl⟩:=rx;obtain⟨t',rfl⟩:=ry;exact rule i j t t' s _ _ hc ⟨.int (g i j),H,I.tok _,⟨_,rfl⟩,q⟩
def opI0{f:Value->Value->Sem Value}{g:Int->Int->Int}
  (rule:∀ (i j:Int) (t u:Tok) (s:Shared) (Q:qc) (E:qc),Q (.int (g i j) s.toks) { s with toks:=s.toks+1 }->wpAny (model X.prog X.w) X.A (f (.int i t) (.int j u)) Q E s) :
  OpR X f (rI0 fun i j=>.int (g i j)):=by
 intro U s Z H x y v u Q I rx ry h;obtain⟨i,j,rfl,rfl,q⟩:=h;obtain⟨t,rfl⟩:=rx;obtain⟨t',rfl⟩:=ry;exact rule i j t t' s _ _ ⟨.int (g i j),H,I.tok _,⟨_,rfl⟩,q⟩
def opB0{f:Value->Value->Sem Value}{g:Int->Int->Bool}
  (rule:∀ (i j:Int) (t u:Tok) (s:Shared) (Q:qc) (E:qc),Q (.bool (g i j)) s->wpAny (model X.prog X.w) X.A (f (.int i t) (.int j u)) Q E s) :
  OpR X f (rI0 fun i j=>.bl (g i j)):=by
 intro U s Z H x y v u Q I rx ry h;obtain⟨i,j,rfl,rfl,q⟩:=h;obtain⟨t,rfl⟩:=rx;obtain⟨t',rfl⟩:=ry;exact rule i j t t' s _ _ ⟨.bl (g i j),H,I,rfl,q⟩
def CPow(i j:Int):Prop:=0<=j/\j<=1000000/\i.natAbs<2 ^ 64
def op_add:OpR X (binaryOp .Add) (rI0 fun i j=>.int (i+j)):=opI0 fun _ _ _ _ _ _ _ q=>add_int q
def jms:OpR X (binaryOp .Sub) (rI0 fun i j=>.int (i-j)):=opI0 fun _ _ _ _ _ _ _ q=>sub_int q
def jc3:OpR X (binaryOp .Mod) (rI (fun _ j=>0<j) fun i j=>.int (i % j)):=opI fun i j _ _ _ _ _ hc q=>by
 have h1:(0:Int)<j:=hc;exact mod_int' (by omega) (by rw[Int.fmod_eq_emod_of_nonneg i (by omega)];exact q)
def jFv:OpR X (binaryOp .Pow) (rI CPow fun i j=>.int (i ^ j.toNat)):=opI fun _ _ _ _ _ _ _ hc q=>pow_int_small hc.1 hc.2.1 hc.2.2 q
def iop_add:OpR X (inplaceOp .Add) (rI0 fun i j=>.int (i+j)):=opI0 fun _ _ _ _ _ _ _ q=>iadd_int q
def unI{f:Value->Sem Value}{g:Int->Int}
  (rule:∀ (i:Int) (t:Tok) (s:Shared) (Q:qc) (E:qc),Q (.int (g i) s.toks) { s with toks:=s.toks+1 }->wpAny (model X.prog X.w) X.A (f (.int i t)) Q E s) :
  UnR X f (rU fun i=>.int (g i)):=by
 intro U s Z H x v Q I rx h;obtain⟨i,rfl,q⟩:=h;obtain⟨t,rfl⟩:=rx;exact rule i t s _ _ ⟨.int (g i),H,I.tok _,⟨_,rfl⟩,q⟩
def jmz:UnR X (unaryOp .USub) (rU fun i=>.int (-i)):=unI fun _ _ _ _ _ q=>neg_int q
end
section
variable {X:Cx}{a b c:Expr}{ta tb tc:TE}{pos:Pos}
def jus{U:qb}{Z:St}{H:Hp}{s:Shared}{Q:VK}{k k':Bool}(I:Inv X U Z H s)(q:Q (.bl k) H)(e:k=k'):EP X U Z Q (.bool k') s:=by
 subst e;exact⟨.bl k,H,I,rfl,q⟩
def op_lt:OpR X (compareOp .Lt) (rI0 fun i j=>.bl (decide (i<j))):=opB0 fun _ _ _ _ _ _ _ q=>lt_int q
def op_le:OpR X (compareOp .LtE) (rI0 fun i j=>.bl (decide (i<=j))):=opB0 fun _ _ _ _ _ _ _ q=>le_int q
def op_gt:OpR X (compareOp .Gt) (rI0 fun i j=>.bl (decide (j<i))):=opB0 fun _ _ _ _ _ _ _ q=>gt_int q
def jvs:OpR X (compareOp .Lt) (fun x y H Q=>∃ i j,x=.str i/\y=.str j/\Q (.bl (decide (i.cps.toList<j.cps.toList))) H):=by
 intro U s Z H x y v u Q I rx ry h;obtain⟨i,j,rfl,rfl,q⟩:=h;obtain⟨t,rfl⟩:=rx;obtain⟨t',rfl⟩:=ry;exact lt_str (jus I q rfl)
def jhi:OpR X (compareOp .In) (fun x y H Q=>∃ i j,x=.str i/\y=.str j/\Q (.bl (!(Builtin.Str.occurrences j i 0 j.length 1).isEmpty)) H):=by
 intro U s Z H x y v u Q I rx ry h;obtain⟨i,j,rfl,rfl,q⟩:=h;obtain⟨t,rfl⟩:=rx;obtain⟨t',rfl⟩:=ry;exact in_str (jus I q rfl)
def jz7:OpR X (compareOp .Is) (fun x y H Q=>y=.non/\Q (.bl (decide (x=.non))) H):=by
 intro U s Z H x y v u Q I rx ry h;obtain⟨rfl,q⟩:=h;cases ry;refine is_none_gen (jus I q ?_);cases x<;>first
  | (cases rx;rfl)
  | (obtain⟨t,rfl⟩:=rx;rfl)
def OpR.or{f:Value->Value->Sem Value}{r r':R2}(h:OpR X f r)(h':OpR X f r'):OpR X f (fun x y H Q=>r x y H Q\/r' x y H Q):=by
 intro U s Z H x y v u Q I rx ry q;rcases q with q|q
 ·exact h U s Z H x y v u Q I rx ry q
 ·exact h' U s Z H x y v u Q I rx ry q
def jap(b:Expr){op:CmpOp}(h:op≠.In:=by decide)(h2:op≠.NotIn:=by decide):behindInMarks op b=false:=by
 have e1:(op == CmpOp.In)=false:=by cases op<;>first|rfl|exact absurd rfl h
 have e2:(op == CmpOp.NotIn)=false:=by cases op<;>first|rfl|exact absurd rfl h2
 cases b<;>simp[behindInMarks,e1,e2]
def jv0{op:CmpOp}{r:R2}(ho:OpR X (compareOp op) r)(ha:PE X a ta)(hb:PE X b tb)(hm:behindInMarks op b=false):PE X (.Compare a [op] [b] pos) (tOp r ta tb):=by
 intro U s Z H Q I h;exact wpAny_Compare1 (binT ha hb I h fun v u s2 x y H2 I2 rx ry q=>ho U s2 Z H2 x y v u Q I2 rx ry q) hm
def jI8(t:TE):TT:=fun Z H Q=>t Z H fun x H'=>∃ k,x=.bl k/\Q k H'
def jwb{op:CmpOp}{r:R2}(ho:OpR X (compareOp op) r)(ha:PE X a ta)(hb:PE X b tb)(hm:behindInMarks op b=false):PT X (.Compare a [op] [b] pos) (jI8 (tOp r ta tb)):=by
 intro U s Z H Q I h;refine wpAny_isTrue_Compare1 (thn (ha U s Z H _ I h) fun v s1 ⟨x,H1,I1,r1,q1⟩=>thn (hb U s1 Z H1 _ I1 q1) fun u s2 ⟨y,H2,I2,r2,q2⟩ =>
  thn (ho U s2 Z H2 x y v u _ I2 r1 r2 q2) fun c s3 ⟨z,H3,I3,r3,k,e,q3⟩=>?_) hm
 subst e;cases r3;exact wpAny_truthy_bool ⟨H3,I3,q3⟩
def jGy(r r':R2)(ta tb tc:TE):TE:=fun Z H Q=>ta Z H fun x H1=>tb Z H1 fun y H2=>r x y H2 fun z H3=>∃ k,z=.bl k /\
 (if k=true then tc Z H3 fun w' H4=>r' y w' H4 Q else Q (.bl false) H3)
def jyh{op op':CmpOp}{r r':R2}(ho:OpR X (compareOp op) r)(ho':OpR X (compareOp op') r')(ha:PE X a ta)(hb:PE X b tb)(hc:PE X c tc)
  (hm:lastMarks [op,op'] [b,c]=false:=by with_unfolding_all rfl):PE X (.Compare a [op,op'] [b,c] pos) (jGy r r' ta tb tc):=by
 intro U s Z H Q I h;refine Compare_chain (thn (ha U s Z H _ I h) fun v s1 ⟨x,H1,I1,r1,q1⟩=>chain_link (thn (hb U s1 Z H1 _ I1 q1) fun u s2 ⟨y,H2,I2,r2,q2⟩ =>
  thn (ho U s2 Z H2 x y v u _ I2 r1 r2 q2) fun d s3 ⟨z,H3,I3,r3,k,e,q3⟩=>?_)) hm
 subst e;cases r3;refine wpAny_truthy_bool ?_
 cases k with
 | false=>exact ite_ff ⟨.bl false,H3,I3,rfl,q3⟩
 | true=>exact ite_tt (chain_last (thn (hc U s3 Z H3 _ I3 q3) fun w' s4 ⟨z',H4,I4,r4,q4⟩=>ho' U s4 Z H4 y z' u w' Q I4 r2 r4 q4))
def TruV(K:W.Frag)(x:V)(H:Hp)(k:Bool):Prop :=
 match x with
 | .non=>k=false
 | .bl b=>k=b
 | .int i=>k=(i != 0)
 | .str y=>y.length<=sizeLine/\k=((y.length:Int) != 0)
 | .ref p=>(∃ xs,SqL K H p xs/\k=!xs.isEmpty)\/(∃ xs,SqT K H p xs/\k=!xs.isEmpty)\/∃ kvs,H p=some (.dK kvs)/\k=!kvs.isEmpty
 | _=>False
def jtf{κ:Type}{kvs:List (κ×V)}{vs:List (κ×Value)}(r:KV kvs vs):(!vs.isEmpty)=!kvs.isEmpty:=by
 cases r<;>rfl
def jmo{xs:List V}{its:List Value}(r:Vals xs its):(!its.toArray.isEmpty)=!xs.isEmpty:=by
 cases r<;>simp
def jmq:(sizeLine:Nat)<2 ^ 63:=by rw[sizeLine_eq];decide
def jG3:TruR X (fun x H Q=>∃ k,TruV X.K x H k/\Q k H):=by
 intro U s Z H x v Q I rx h;obtain⟨k,e,q⟩:=h;have hl:=jmq;have hs:sizeLine=16777216:=sizeLine_eq
 cases x with
 | non =>
  cases rx;have e':k=false:=e;subst e';exact truthy_none ⟨H,I,q⟩
 | bl b =>
  cases rx;have e':k=b:=e;subst e';exact wpAny_truthy_bool ⟨H,I,q⟩
 | int i =>
  obtain⟨t,rfl⟩:=rx;have e':k=(i != 0):=e;subst e';exact PySem.P.truthy_int ⟨H,I,q⟩
 | str y =>
  obtain⟨t,rfl⟩:=rx;obtain⟨hy,e'⟩:y.length<=sizeLine/\k=((y.length:Int) != 0):=e;subst e';exact PySem.P.truthy_str (by omega) ⟨H,I.tok _,q⟩
 | ref p =>
  cases rx;have e':(∃ xs,SqL X.K H p xs/\k=!xs.isEmpty)\/(∃ xs,SqT X.K H p xs/\k=!xs.isEmpty)\/∃ kvs,H p=some (.dK kvs)/\k=!kvs.isEmpty:=e;rcases e' with ⟨xs,hx,e'⟩|⟨xs,hx,e'⟩|⟨kvs,hx,e'⟩
  ·subst e';obtain⟨its,r,pl,hz⟩:=I.list hx;have hlen:=r.length;exact wpAny_truthy_list pl.isList (by simp only[zbx];omega) ⟨H,I.tok _,by rw[jmo r];exact q⟩
  ·subst e';obtain⟨its,r,pl,hz⟩:=I.tuple hx;have hlen:=r.length;exact truthy_tuple pl (by simp only[zbx];omega) ⟨H,I.tok _,by rw[jmo r];exact q⟩
  ·subst e';obtain⟨hz,hS,vs,r,m⟩:kvs.length<=sizeLine/\(p == sysModules)=false/\∃ vs,KV kvs vs/\s.heap.DictOf (jqv X.prog X.w) p vs:=I.hok p _ hx;have hlen:kvs.length=vs.length:=Paired.length r;exact wpAny_truthy_dict hS m (by omega) ⟨H,I.tok _,by rw[jtf r];exact q⟩
 | _=>exact (show False from e).elim
def jsg(ha:PE X a ta)(he:∀ whole,isTrue a X.env whole=(do let v <- whole;standAt a.pos;holding [v] (truthy v))) :
  PT X a (fun Z H Q=>ta Z H fun x H'=>∃ k,TruV X.K x H' k/\Q k H'):=by
 intro U s Z H Q I h;exact isTrue_plain (thn (ha U s Z H _ I h) fun v s1 ⟨x,H1,I1,r1,q1⟩=>jG3 U s1 Z H1 x v Q I1 r1 q1) (he _)
def jtm:OpR X (binaryOp .Add) (fun x y H Q=>∃ i j,x=.str i/\y=.str j/\i.length+j.length<=sizeLine/\Q (.str (i++j)) H):=by
 intro U s Z H x y v u Q I rx ry h;obtain⟨i,j,rfl,rfl,hz,q⟩:=h;obtain⟨t,rfl⟩:=rx;obtain⟨t',rfl⟩:=ry;exact add_str (fun t' tk=>⟨.str (i++j),H,I.tok _,⟨_,rfl⟩,q⟩) hz
def jio:OpR X (inplaceOp .Add) (fun x y H Q=>∃ i j,x=.str i/\y=.str j/\i.length+j.length<=sizeLine/\Q (.str (i++j)) H):=by
 intro U s Z H x y v u Q I rx ry h;obtain⟨i,j,rfl,rfl,hz,q⟩:=h;obtain⟨t,rfl⟩:=rx;obtain⟨t',rfl⟩:=ry;exact iadd_str (fun t' tk=>⟨.str (i++j),H,I.tok _,⟨_,rfl⟩,q⟩) hz
def jtz{x:V}{us:List Value}(r:Vals [x] us):∃ u,us=[u]/\RelV x u:=by
 cases r with
 | cons r1 r2=>cases r2;exact⟨_,rfl,r1⟩
def call_int1:CallR X (.type "int") (fun xs H Q=>(∃ i,xs=[.int i]/\Q (.int i) H)\/∃ k,xs=[.bl k]/\Q (.int (if k then 1 else 0)) H):=by
 intro U s Z H xs us Q I r h;rcases h with ⟨i,rfl,q⟩|⟨k,rfl,q⟩
 ·obtain⟨u,rfl,t,rfl⟩:=jtz r;exact call_int_int ⟨.int i,H,I,⟨_,rfl⟩,q⟩
 ·obtain⟨u,rfl,r1⟩:=jtz r;cases r1;exact call_int_bool ⟨.int (if k then 1 else 0),H,I.tok _,⟨_,rfl⟩,q⟩
def jg3:CallR X (.type "str") (fun xs H Q=>∃ i,xs=[.int i]/\i.natAbs.log2<1920/\Q (.str (toString i)) H):=by
 intro U s Z H xs us Q I r h;obtain⟨i,rfl,hz,q⟩:=h;obtain⟨u,rfl,t,rfl⟩:=jtz r;exact PySem.P.str_of_int hz ⟨.str _,H,I.tok _,⟨_,rfl⟩,q⟩
end
structure ObjM(h:Heap)(x dx C:Addr)(mA:qa):Prop where
 obj:h.get? x=some (W.instObj C dx)
 ns:h.Ns1 dx mA
 ne:dx≠x
def jpd{h:Heap}{dx:Addr}{mA:qa}(n:h.Ns1 dx mA):∃ od,h.get? dx=some od/\∀ name,W.lookIn name od=some (mA name):=by
 obtain⟨o,es,ep,ho,hd,hk,_,hm⟩:=n;refine⟨o,ho,fun name=>?_⟩;have e:=hm name;unfold nsFind findBy at e;rw[<- Array.find?_toList] at e;unfold W.lookIn;rw[hd];dsimp only
 split
 ·rename_i y q;rw[q] at e;exact congrArg some e
 ·rename_i q;rw[q] at e;have a:es.toList.any (·.refKey)=false:=by
   rw[List.any_eq_false];intro y hy;obtain⟨z,t,hkey⟩:=hk y (Array.mem_toList_iff.mp hy);simp[DictEntry.refKey,hkey]
  have a':¬ es.toList.any (·.refKey)=true:=by rw[a];exact Bool.false_ne_true
  rw[if_neg a'];exact congrArg some e
def ObjM.look{h:Heap}{x dx C:Addr}{mA:qa}(I:ObjM h x dx C mA):∃ od,W.InstAt h x (W.instObj C dx) C (some od)/\∀ name,W.lookIn name od=some (mA name) :=
 let ⟨od,ho,hl⟩:=jpd I.ns
 ⟨od,⟨I.obj,rfl,rfl,ho⟩,hl⟩
section
variable {prog:Program}{w:World}{A:Around}{E:qc}{s:Shared}{K:W.Frag}{x dx C f:Addr}{mA:qa}{name:Str}{v:Value}
def jBv{expr:Bool}{Q:qc}(X:K.In s.heap)(I:ObjM s.heap x dx C mA)(hg:W.plainGet K C name=true)(hh:W.hasDictIn K C=true)
  (ha:W.findIn K (.ref C) name=some none) (hv:mA name=some v) (hv':W.handedIn v=true) (h:Q v { s with toks:=s.toks+1 }) :
  wpAny (model prog w) A (getAttr (.ref x) name expr) Q E s:=by
 obtain⟨od,Jq,hl⟩:=I.look;exact W.get_value X Jq (W.plainGet_of hg).1 (W.findObj_own hh ha rfl (by rw[hl,hv])) hv' h
def jxq{pl:Sem Bool}{Q:Value×List Value->Shared->Prop}(X:K.In s.heap)(I:ObjM s.heap x dx C mA)(hg:W.plainGet K C name=true)
  (hf:W.findIn K (.ref C) name=some (some (.ref f))) (ht:W.isFn K (.ref f)=true) (hv:mA name=none) (h:Q (.ref f,[.ref x]) s) :
  wpAny (model prog w) A (getMethod (.ref x) name pl) Q E s:=by
 obtain⟨od,Jq,hl⟩:=I.look;exact W.method_fn X Jq (W.plainGet_of hg).1 (W.plainGet_of hg).2 hf (beq_iff_eq.mp ht) (by show (W.lookIn name od).map (·.isSome)=some false;rw[hl,hv];rfl) h
def jDe{ns:List Str}{Q:Unit->Shared->Prop}(X:K.In s.heap)(I:ObjM s.heap x dx C mA)
  (hs:W.findIn K (.ref C) "__setattr__"=some (some (.builtin "object.__setattr__"))) (hp:W.plainOver K C=true) (ht:W.takerIn K C name=some none) (hh:W.hasDictIn K C=true)
  (hw:PySem.Within mA ns) (hsz:ns.length<=sizeLine)
  (h:∀ h',ObjM h' x dx C (fun y=>if y=name then some v else mA y)->Heap.SameBut dx s.heap h'->Q () { s with heap:=h',toks:=s.toks+2 }) :
  wpAny (model prog w) A (setAttr (.ref x) name v) Q E s:=by
 obtain⟨od,Jq,hl⟩:=I.look;refine W.set_plain X Jq hs (W.osa_open (s:={ s with toks:=s.toks+1 }) (r:=none) X Jq hp ht fun b=>?_);obtain⟨cd,hc,hd'⟩:=W.any_some hh;have hx:s.heap.get? x=some ⟨.ref C,some dx,.plain,#[]⟩:=I.obj;refine zay (zab (zay (zay (wpAny_loadPart hx (zay (W.Looks.here (s:={ s with toks:=s.toks+1 }) (W.looks_clsIn X hc) ?_))))));rw[hd'];refine zab (a:=some dx) (zay (zab (zay ?_)));refine wpAny_nsSet1 (s:={ s with toks:=s.toks+1 }) I.ns fun h' hn2 hs2=>?_
 obtain⟨oD,esD,epD,hoD,hdD,hcD⟩:=hn2.count (PySem.Within.cons name v hw);refine zay (wpAny_lookBehind hoD (by rw[hdD];exact pastItsLine_dict (zdx hcD (by rw[List.length_cons];omega))) ?_);exact zab (h _ ⟨(hs2.2 _ (Ne.symm I.ne)).trans I.obj,hn2,I.ne⟩ hs2)
def jx6{R:Result->Shared->Prop}{vs:List Value}{kw:List (Str×Value)}(X:K.In s.heap)(hm:W.makesIn K C=true)
  (hi:W.findIn K (.ref C) "__init__"=some (some (.ref f))) (hf:W.typeIn K (.ref f)=some (.type "function"))
  (h:codeAny (model prog w) (A.under (.builtin "type.__call__" ⟨.ref C::vs,kw⟩)) (.call (.ref f) ⟨.ref (s.heap.objs.size+1)::vs,kw⟩) (W.InitBack (s.heap.objs.size+1) R)
   { s with heap:=(s.heap.push W.emptyDict).push (W.instObj C s.heap.objs.size) }) :
  codeAny (model prog w) A (.call (.ref C) ⟨vs,kw⟩) R s:=by
 obtain⟨hh,g,d,t,os⟩:=s;exact W.make_core (W.makes_of X hm) (W.looks_findIn X hi) (fun self=>W.bind_fn X self hf) (.inl rfl) h
end
def putF(f:Str)(v:V):List (Str×V)->List (Str×V)
 | []=>[(f,v)]
 | (g,x)::r=>if g=f then (g,v)::r else (g,x)::putF f v r
theorem jiq(f g:Str)(v:V):∀ fs:List (Str×V),(putF f v fs).lookup g=if g=f then some v else fs.lookup g
 | []=>by
  show List.lookup g [(f,v)]=_
  by_cases h:g=f
  ·have hb:(g == f)=true:=beq_iff_eq.mpr h;simp only[List.lookup,hb,if_pos h]
  ·have hb:(g == f)=false:=beq_eq_false_iff_ne.mpr h;simp only[List.lookup,hb,if_neg h]
 | (k,x)::r=>by
  have ih:=jiq f g v r;rw[show putF f v ((k,x)::r)=(if k=f then (k,v)::r else (k,x)::putF f v r) from rfl]
  by_cases hk:k=f
  ·rw[if_pos hk]
   by_cases h:g=k
   ·have hb:(g == k)=true:=beq_iff_eq.mpr h;simp only[List.lookup,hb,if_pos (h.trans hk)]
   ·have hb:(g == k)=false:=beq_eq_false_iff_ne.mpr h;simp only[List.lookup,hb,if_neg (fun e:g=f=>h (e.trans hk.symm))]
  ·rw[if_neg hk]
   by_cases h:g=k
   ·have hb:(g == k)=true:=beq_iff_eq.mpr h;simp only[List.lookup,hb,if_neg (fun e:g=f=>hk (h.symm.trans e))]
   ·have hb:(g == k)=false:=beq_eq_false_iff_ne.mpr h;simp only[List.lookup,hb];exact ih
theorem jhb(f:Str)(v:V):∀ fs:List (Str×V),f∈(putF f v fs).map (·.1)/\∀ g,g∈fs.map (·.1)->g∈(putF f v fs).map (·.1)
 | []=>⟨by simp[putF],fun g h=>by simp at h⟩
 | (k,x)::r=>by
  obtain⟨i1,i2⟩:=jhb f v r;rw[show putF f v ((k,x)::r)=(if k=f then (k,v)::r else (k,x)::putF f v r) from rfl]
  by_cases hk:k=f
  ·rw[if_pos hk];subst hk;exact⟨by simp,fun g h=>by simpa using h⟩
  ·rw[if_neg hk];refine⟨?_,fun g h=>?_⟩
   ·rw[List.map_cons];exact zaw _ i1
   ·rw[List.map_cons] at h |-
    rcases List.mem_cons.mp h with e|e
    ·exact List.mem_cons.mpr (.inl e)
    ·exact zaw _ (i2 g e)
theorem jip(f:Str)(v:V):∀ fs:List (Str×V),(putF f v fs).length<=fs.length+1
 | []=>by simp[putF]
 | (k,x)::r=>by
  have ih:=jip f v r;rw[show putF f v ((k,x)::r)=(if k=f then (k,v)::r else (k,x)::putF f v r) from rfl]
  by_cases hk:k=f
  ·rw[if_pos hk,List.length_cons,List.length_cons];omega
  ·rw[if_neg hk,List.length_cons,List.length_cons];omega
def RelO.some_of{v:V}{o:Option Value}(r:RelO (some v) o):∃ u,o=some u/\RelV v u:=by
 cases o with
 | none=>exact (show False from r).elim
 | some u=>exact⟨u,rfl,r⟩
def RelO.none_of{o:Option Value}(r:RelO none o):o=none:=by
 cases o with
 | none=>rfl
 | some u=>exact (show False from r).elim
def jpa{v:V}{u:Value}(r:RelV v u):W.handedIn u=true:=by
 cases v with
 | non=>cases (show u=Value.none from r);rfl
 | bl b=>cases (show u=Value.bool b from r);rfl
 | int i=>obtain⟨t,e⟩:=(show ∃ t,u=Value.int i t from r);cases e;rfl
 | str x=>obtain⟨t,e⟩:=(show ∃ t,u=Value.str x t from r);cases e;rfl
 | ref a=>cases (show u=Value.ref a from r);rfl
 | ty n=>cases (show u=Value.type n from r);rfl
section
variable {P:Program}{w:World}{H:Hp}{h:Heap}{a C dx:Addr}{fs:List (Str×V)}
def jqn(hok:HOk P w H h)(e:H a=some (.ins C dx fs)):∃ mA,ObjM h a dx C mA/\(∀ f,RelO (fs.lookup f) (mA f))/\PySem.Within mA (fs.map (·.1))/\fs.length<=1000/\H dx=some (.own a):=by
 obtain⟨d,z,ne,ob,mA,n,r,q⟩:=(show ObjOk P w H h a (.ins C dx fs) from hok a _ e)
 exact⟨mA,⟨ob,n,ne⟩,r,q,z,d⟩
end
structure Cls(K:W.Frag)(C:Addr):Prop where
 pg:W.plainGet K C Str.empty=true
 hd:W.hasDictIn K C=true
 po:W.plainOver K C=true
 sa:W.findIn K (.ref C) "__setattr__"=some (some (.builtin "object.__setattr__"))
def Cls.get{K:W.Frag}{C:Addr}(c:Cls K C)(f:Str):W.plainGet K C f=true:=c.pg
def NoAttr(K:W.Frag)(C:Addr)(f:Str):Prop:=W.findIn K (.ref C) f=some none
def NoAttr.taker{K:W.Frag}{C:Addr}{f:Str}(n:NoAttr K C f):W.takerIn K C f=some none:=by
 unfold W.takerIn;rw[show W.findIn K (.ref C) f=some none from n];rfl
structure Meth(K:W.Frag)(C:Addr)(m:Str)(f:Addr):Prop where
 at_:W.findIn K (.ref C) m=some (some (.ref f))
 fn:W.isFn K (.ref f)=true
 kp:W.keepIn K (.ref f)=true
section
variable {X:Cx}{U:qb}{Z:St}{H:Hp}{s:Shared}{a C dx:Addr}{fs:List (Str×V)}{f:Str}{v:V}{A:Around}{E:qc}
def jtd{b:Bool}{Q:qc}(I:Inv X U Z H s)(e:H a=some (.ins C dx fs))(c:Cls X.K C)(n:NoAttr X.K C f)(l:fs.lookup f=some v)
  (h:∀ u s',Inv X U Z H s'->RelV v u->Q u s'):wpAny (model X.prog X.w) A (getAttr (.ref a) f b) Q E s:=by
 obtain⟨mA,O,r,_,_,_⟩:=jqn I.hok e;obtain⟨u,hu,ru⟩:=RelO.some_of (v:=v) (o:=mA f) (by rw[<- l];exact r f);exact jBv I.kIn O (c.get f) c.hd n hu (jpa ru) (h u _ (I.tok _) ru)
def jmn{m:Str}{g:Addr}{pl:Sem Bool}{Q:Value×List Value->Shared->Prop}(I:Inv X U Z H s)(e:H a=some (.ins C dx fs))(c:Cls X.K C)(k:Meth X.K C m g)(l:fs.lookup m=none)
  (h:Q (.ref g,[.ref a]) s):wpAny (model X.prog X.w) A (getMethod (.ref a) m pl) Q E s:=by
 obtain⟨mA,O,r,_,_,_⟩:=jqn I.hok e;have hn:mA m=none:=RelO.none_of (by rw[<- l];exact r m);exact jxq I.kIn O (c.get m) k.at_ k.fn hn h
def jts{y:V}{u:Value}{Q:Unit->Shared->Prop}(I:Inv X U Z H s)(e:H a=some (.ins C dx fs))(c:Cls X.K C)(n:NoAttr X.K C f)(hl:fs.length<1000)(ry:RelV y u)
  (h:∀ s',Inv X U Z (upd H a (.ins C dx (putF f y fs))) s'->Q () s'):wpAny (model X.prog X.w) A (setAttr (.ref a) f u) Q E s:=by
 obtain⟨mA,O,r,wi,_,ho⟩:=jqn I.hok e;have hz:(fs.map (·.1)).length<=sizeLine:=by rw[zav,sizeLine_eq];omega
 refine jDe I.kIn O c.sa c.po n.taker c.hd wi hz fun h' O' sb=>h _ ?_
 have hd:∃ o,h'.get? dx=some o:=let ⟨o,_,_,e',_⟩:=O'.ns;⟨o,e'⟩
 refine I.write (x:=a) (e:=dx) (by rw[e];exact True.intro) (.inr ho) (fun b q hb z=>(sb.2 b hb).trans z) hd ?_;refine⟨by rw[jal O.ne];exact ho,?_,O.ne,O'.obj,_,O'.ns,fun g=>?_,fun g hg=>?_⟩
 ·have:=jip f y fs;omega
 ·show RelO ((putF f y fs).lookup g) (if g=f then some u else mA g);rw[jiq]
  by_cases q:g=f
  ·rw[if_pos q,if_pos q];exact ry
  ·rw[if_neg q,if_neg q];exact r g
 ·by_cases q:g=f
  ·rw[q];exact (jhb f y fs).1
  ·refine (jhb f y fs).2 g (wi g fun z=>hg ?_);show (if g=f then some u else mA g)=none;rw[if_neg q];exact z
def Inv.made(I:Inv X U Z H s):Inv X U Z (upd (upd H s.heap.objs.size (.own (s.heap.objs.size+1))) (s.heap.objs.size+1) (.ins C s.heap.objs.size []))
  { s with heap:=(s.heap.push W.emptyDict).push (W.instObj C s.heap.objs.size) }:=by
 have e1:(s.heap.push W.emptyDict).get? s.heap.objs.size=some W.emptyDict:=zbz s.heap rfl;have e2:((s.heap.push W.emptyDict).push (W.instObj C s.heap.objs.size)).get? (s.heap.objs.size+1)=some (W.instObj C s.heap.objs.size):=by
  have:=zbz (s.heap.push W.emptyDict) (o:=W.instObj C s.heap.objs.size) rfl
  rwa [Heap.size_push] at this
 have e3:(s.heap.push W.emptyDict).Ns s.heap.objs.size (fun _=>none):=⟨W.emptyDict,#[],_,e1,rfl,(fun e he=>absurd he (by simp)),fun _=>rfl⟩
 have I1:=I.laid (a:=s.heap.objs.size) (o:=.own (s.heap.objs.size+1)) (h':=s.heap.push W.emptyDict) (t':=s.toks) (fun b u q=>zaz _ q) (zac _) ⟨_,e1⟩;refine I1.laid (a:=s.heap.objs.size+1) (o:=.ins C s.heap.objs.size []) (t':=s.toks) (fun b u q=>zaz _ q) (Nat.le_of_eq (Heap.size_push _ _)) ?_;have ne:s.heap.objs.size≠s.heap.objs.size+1:=zcv (Nat.lt_succ_self _);refine⟨by rw[jal ne,jaq],Nat.zero_le _,ne,e2,fun _=>none,(Heap.Ns1.of_empty e3).at fun o q=>zaz _ q,fun _=>True.intro,fun y hy=>absurd rfl hy⟩
def jt6{prog:Program}{w:World}{env:Env}{e:Expr}{f:Str}{pos:Pos}{s:Shared}{Q:qc}(hb:attributeBase e f env (eval e env)=eval e env)
  (h:wpAny (model prog w) A (eval e env) (fun o s₁=>wpAny (model prog w) A (getAttr o f true) Q E s₁) E s):wpAny (model prog w) A (eval (.Attribute e f pos) env) Q E s :=
 Attribute_any_ h (by rw[arm_eval_Attribute,hb])
end
inductive FldP(K:W.Frag)(f:Str)(Q:VK)(x:V)(H1:Hp):Prop
 | mk (a C dx:Addr) (fs:List (Str×V)) (v:V) (h1:x=.ref a) (h2:H1 a=some (.ins C dx fs)) (h3:Cls K C) (h4:NoAttr K C f) (h5:fs.lookup f=some v) (h6:Q v H1)
def tFld(K:W.Frag)(ta:TE)(f:Str):TE:=fun Z H Q=>ta Z H (FldP K f Q)
def sFld(K:W.Frag)(ta tv:TE)(f:Str):TS:=fun D Z H=>tv Z H fun y H1=>ta Z H1 fun x H2=>∃ a C dx fs,x=.ref a/\H2 a=some (.ins C dx fs)/\Cls K C/\NoAttr K C f/\fs.length<1000 /\
 D.nx Z (upd H2 a (.ins C dx (putF f y fs)))
section
variable {X:Cx}{o e value:Expr}{f:Str}{pos pos':Pos}{ta tv:TE}
def jFz(he:PE X e ta)(hb:attributeBase e f X.env (eval e X.env)=eval e X.env):PE X (.Attribute e f pos) (tFld X.K ta f):=by
 intro U s Z H Q I h;refine jt6 hb (thn (he U s Z H _ I h) fun u s1 hzz=>?_);obtain⟨x,H1,I1,rx,a,C,dx,fs,v,ex,ea,c,n,l,q⟩:=hzz;subst ex;obtain rfl:u=Value.ref a:=rx;exact jtd I1 ea c n l fun u' s2 I2 ru=>⟨v,H1,I2,ru,q⟩
def jAe(ha:PE X o ta)(hv:PE X value tv)(hs:swapsWith value (some (.Attribute o f pos')) pos.line X.env=pure false):PS X (.Assign [.Attribute o f pos'] value pos) (sFld X.K ta tv f):=by
 intro U s Z H D I h;refine plainObj_wpAny_Assign_Attribute (thn (hv U s Z H _ I h) fun u s1 ⟨y,H1,I1,ry,q⟩=>thn (ha U s1 Z H1 _ I1 q) fun ov s2 hzz=>?_) hs;obtain⟨x,H2,I2,rx,a,C,dx,fs,ex,ea,c,n,l,q2⟩:=hzz;subst ex;obtain rfl:ov=Value.ref a:=rx;exact jts I2 ea c n l ry fun s3 I3=>⟨Z,_,I3,q2⟩
end
section
end
structure Room(k:Nat)(A:Around):Prop where
 hd:A.handled=none
 dp:A.depth+3*k+5<recursionLimit
 un:A.units+16*k+200<cLine
def Room.mono{j k:Nat}{A:Around}(r:Room k A)(h:j<=k):Room j A:=⟨r.hd,by have:=r.dp;omega,by have:=r.un;omega⟩
def Room.m{j k:Nat}{A:Around}(r:Room k A)(h:Nat.ble j k=true):Room j A:=r.mono (Nat.le_of_ble_eq_true h)
def Room.deeper{k:Nat}{A:Around}(r:Room (k+1) A)(env:Env):Room k (A.deeper env) :=
 ⟨r.hd,by have:=r.dp;show A.depth+1+3*k+5<_;omega,by have:=r.un;show A.units+3+16*k+200<_;omega⟩
def jth{A:Around}{C:Addr}{us:List Value}{kw:List (Str×Value)}:(A.under (.builtin "type.__call__" ⟨.ref C::us,kw⟩)).depth=A.depth+1:=by
 first|rfl|simp[Around.under,Code.weight,Code.isCreation,Code.isGuard,Code.isCaller,Code.frames,Code.isFrame,guardIds]
def jti{A:Around}{C:Addr}{us:List Value}{kw:List (Str×Value)}:(A.under (.builtin "type.__call__" ⟨.ref C::us,kw⟩)).units=A.units+1:=by
 first|rfl|simp[Around.under,Code.cUnits,Code.frames,Code.isFrame]
def Room.make{k:Nat}{A:Around}(r:Room (k+1) A)(C:Addr)(us:List Value)(kw:List (Str×Value)):Room k (A.under (.builtin "type.__call__" ⟨.ref C::us,kw⟩)) :=
 ⟨r.hd,by have:=r.dp;rw[jth];omega,by have:=r.un;rw[jti];omega⟩
def Room.depth{k:Nat}{A:Around}(r:Room k A):A.depth<recursionLimit:=by have:=r.dp;omega
def Room.units{k:Nat}{A:Around}(r:Room k A):A.units+64<cLine:=by have:=r.un;omega
def tNil:TA:=fun _ H Q=>Q [] H
def jI1(ta:TE)(tr:TA):TA:=fun Z H Q=>ta Z H fun x H1=>tr Z H1 fun xs H2=>Q (x::xs) H2
section
variable {X:Cx}{e:Expr}{es:List Expr}{te:TE}{t:TA}{pos:Pos}
def jlo:PA X [] tNil:=fun _ _ _ _ H Q I h=>Calls.spliced_nil ⟨[],H,I,.nil,h⟩
def je2(ha:PE X e te)(hr:PA X es t)(hs:zsE e es X.env:=by rfl):PA X (e::es) (jI1 te t):=by
 intro pos U s Z H Q I h;rw[hs];show wpAny _ _ (spliced ((false,eval e X.env)::backTo pos (starEach es X.env))) _ _ s;refine Calls.spliced_cons (thn (ha U s Z H _ I h) fun u s1 hzz=>?_);obtain⟨x,H1,I1,r1,q1⟩:=hzz;exact thn (hr pos U s1 Z H1 _ I1 q1) fun us s2 ⟨xs,H2,I2,r2,q2⟩=>⟨x::xs,H2,I2,.cons r1 r2,q2⟩
def tTup(t:TA):TE:=fun Z H Q=>t Z H fun xs H1=>xs.length<=sizeLine/\∀ p,H1 p=none->Q (.ref p) (upd H1 p (.tup xs))
def tLst(t:TA):TE:=fun Z H Q=>t Z H fun xs H1=>xs.length<=sizeLine/\∀ p,H1 p=none->Q (.ref p) (upd H1 p (.lst xs))
def jAc{x1}(h:PA X es t):PE X (.Tuple es x1 pos) (tTup t):=by
 intro U s Z H Q I hq;refine wpAny_Tuple_spliced (thn (h pos U s Z H _ I hq) fun us s1 ⟨xs,H1,I1,r,z,q⟩=>⟨by rw[<- r.length];exact z,?_⟩);have hf:H1 s1.heap.objs.size=none:=I1.hok.fresh (zac _);refine⟨.ref s1.heap.objs.size,upd H1 s1.heap.objs.size (.tup xs),I1.laid (t':=s1.toks) (fun b u e=>zaz _ e) (zac _) ?_,rfl,q _ hf⟩;exact⟨z,us,r,⟨_,zbz _ rfl,rfl,_,rfl⟩⟩
def jsc(h:PA X es t):PE X (.List es pos) (tLst t):=by
 intro U s Z H Q I hq;refine wpAny_List_spliced (thn (h pos U s Z H _ I hq) fun us s1 ⟨xs,H1,I1,r,z,q⟩=>⟨by rw[<- r.length];exact z,?_⟩);have hf:H1 s1.heap.objs.size=none:=I1.hok.fresh (zac _);refine⟨.ref s1.heap.objs.size,upd H1 s1.heap.objs.size (.lst xs),I1.laid (t':=s1.toks) (fun b u e=>zaz _ e) (zac _) ?_,rfl,q _ hf⟩;exact⟨z,us,0,r,zbz _ rfl⟩
end
abbrev Sp:=List V->Hp->VK->XK->Prop
abbrev CXT:=List Env->Hp->Shared->XK->qc
structure Env0(P:Program)(w:World)(K:W.Frag)(mg:qa)(base:Heap)(A:Around)(outer:List Env)(s:Shared)(H:Hp):Prop where
 frames:A.frames=some outer
 mod:Mod K mg base
 bs:∀ b o,base.get? b=some o->s.heap.get? b=some o/\H b=none
 bsz:base.objs.size<=s.heap.objs.size
 funs:s.heap.FunFrames base outer
 frf:∀ b∈frs outer,H b=none
 hok:HOk P w H s.heap
 bare:AllBare s.gens
def CE(outer:List Env)(P:Program)(w:World)(H:Hp)(s:Shared)(Q:VK)(u:Value)(s':Shared):Prop :=
 ∃ v H',s'.os=s.os/\AllBare s'.gens/\Un (frs outer) [] H H' s.heap s'.heap/\HOk P w H' s'.heap/\RelV v u/\Q v H'
def CR(CX:CXT)(outer:List Env)(P:Program)(w:World)(H:Hp)(s:Shared)(Q:VK)(E:XK)(r:Result)(s':Shared):Prop :=
 match r with
 | .ok (.ret u)=>CE outer P w H s Q u s'
 | .ok _=>False
 | .error e=>CX outer H s E e s'
structure FnOk(P:Program)(w:World)(K:W.Frag)(mg:qa)(base:Heap)(CX:CXT)(k:Nat)(f:Addr)(fd:FuncData)(ps:List Str)(sp:Sp):Prop where
 len:∀ vs H Q E,sp vs H Q E->vs.length=ps.length
 run:∀ (A:Around) (outer:List Env) (s:Shared) (H:Hp) (args:Args) (us:List Value) (vs:List V) (Q:VK) (E:XK),Room k A->Env0 P w K mg base A outer s H->BindsTo s fd args (ps.zip us)->Vals vs us->sp vs H Q E ->
  codeAny (model P w) A (.call (.ref f) args) (CR CX outer P w H s Q E) s
def FnOk.imp{P:Program}{w:World}{K:W.Frag}{mg:qa}{base:Heap}{CX:CXT}{k:Nat}{f:Addr}{fd:FuncData}{ps:List Str}{sp sp':Sp}(F:FnOk P w K mg base CX k f fd ps sp)
  (h:∀ vs H Q E,sp' vs H Q E->sp vs H Q E):FnOk P w K mg base CX k f fd ps sp' :=
 ⟨fun vs H Q E q=>F.len vs H Q E (h _ _ _ _ q),fun A outer s H args us vs Q E hr he hb hv hs=>F.run A outer s H args us vs Q E hr he hb hv (h _ _ _ _ hs)⟩
def Env0.make{P:Program}{w:World}{K:W.Frag}{mg:qa}{base:Heap}{A:Around}{outer:List Env}{s:Shared}{H:Hp}(e:Env0 P w K mg base A outer s H)(C:Addr)(us:List Value)(kw:List (Str×Value)) :
  Env0 P w K mg base (A.under (.builtin "type.__call__" ⟨.ref C::us,kw⟩)) outer s H:=⟨by first|exact e.frames|(simpa[Around.under,Code.envs,Code.isFrame,pushEnvs] using e.frames),e.mod,e.bs,e.bsz,e.funs,e.frf,e.hok,e.bare⟩
section
variable {X:Cx}{U:qb}{Z:St}{H:Hp}{s s':Shared}
def Inv.env0(I:Inv X U Z H s):Env0 X.prog X.w X.K X.mg X.base X.A X.stack s H :=
 ⟨I.ok.frames,I.ok.mod,I.bs,zdx I.ok.bsz I.sz,I.stack,I.stkFree,I.hok,I.bare⟩
def Inv.after{Q:VK}{u:Value}(I:Inv X U Z H s)(h:CE X.stack X.prog X.w H s Q u s'):EP X U Z Q u s':=by
 obtain⟨v,H',os,bare,un,hok,r,q⟩:=h;obtain⟨hh,g,d,t,os'⟩:=s';obtain rfl:os'=s.os:=os;exact⟨v,H',I.call (h':=hh) (g':=g) (d':=d) (t':=t) (ch:=[]) un hok bare (fun b z=>absurd z (by simp)),r,q⟩
end
def jy8(sp:Sp)(dvs:List V)(E:XK)(t:TA):TE:=fun Z H Q=>t Z H fun vs H1=>sp (vs++dvs) H1 Q E
def jDk(C:Addr)(m:Str)(sp:Sp)(dvs:List V)(E:XK)(ta:TE)(t:TA):TE:=fun Z H Q=>ta Z H fun x H1=>∃ a dx fs,x=.ref a/\H1 a=some (.ins C dx fs)/\fs.lookup m=none /\
 t Z H1 fun vs H2=>sp (x::(vs++dvs)) H2 Q E
def jI3(C:Addr)(sp:Sp)(dvs:List V)(E:XK)(t:TA):TE:=fun Z H Q=>t Z H fun vs H1=>∀ x dx,H1 x=none->H1 dx=none->dx≠x ->
 sp (.ref x::(vs++dvs)) (upd (upd H1 dx (.own x)) x (.ins C dx [])) (fun v H2=>v=.non/\Q (.ref x) H2) E
def Binds(K:W.Frag)(fd:FuncData)(ps:List Str)(ds:List Value):Prop :=
 ∀ (s:Shared) (us:List Value),K.In s.heap->(us++ds).length=ps.length->BindsTo s fd ⟨us,[]⟩ (ps.zip (us++ds))
def Binds.all{K:W.Frag}{fd:FuncData}{ps:List Str}(h:∀ us:List Value,us.length=ps.length->bindArgs fd ⟨us,[]⟩=pure (ps.zip us)):Binds K fd ps []:=fun s us _ hl=>by
 rw[List.append_nil] at hl |-
 exact .of_eq (h us hl)
def jj6(CX:CXT)(X:Cx)(E:XK):Prop:=∀ (U:qb) (Z:St) (H:Hp) (s:Shared) (e:Value) (s':Shared),Inv X U Z H s->CX X.stack H s E e s'->X.xe e s'
section
variable {X:Cx}{CX:CXT}{k:Nat}{f C:Addr}{fd:FuncData}{ps:List Str}{sp:Sp}{dvs:List V}{ds:List Value}{E:XK}{x m:Str}{p pos apos:Pos}{e o:Expr}{es:List Expr}{ta:TE}{t:TA}
def jwk{U:qb}{Z:St}{H:Hp}{s:Shared}{Q:VK}{us:List Value}{vs:List V}(F:FnOk X.prog X.w X.K X.mg X.base CX k f fd ps sp)(hr:Room k X.A)(hb:Binds X.K fd ps ds)(hd:Vals dvs ds)(hx:jj6 CX X E)
  (I:Inv X U Z H s) (r:Vals vs us) (h:sp (vs++dvs) H Q E):wpAny (model X.prog X.w) X.A (call (.ref f) us) (EP X U Z Q) X.xe s:=by
 have r2:Vals (vs++dvs) (us++ds):=r.append hd;have hl:(us++ds).length=ps.length:=by rw[<- r2.length];exact F.len _ _ _ _ h
 refine wpAny_call (codeAny_mono (F.run X.A X.stack s H ⟨us,[]⟩ (us++ds) (vs++dvs) Q E hr I.env0 (hb s us I.kIn hl) r2 h) fun r s' hq=>?_)
 cases r with
 | error e=>exact hx U Z H s e s' I hq
 | ok fl =>
  cases fl with
  | ret u=>exact I.after hq
  | next=>exact False.elim hq
  | brk=>exact False.elim hq
  | cont=>exact False.elim hq
def jn9(F:FnOk X.prog X.w X.K X.mg X.base CX k f fd ps sp)(hr:Room k X.A)(hg:Gl X x)(hm:X.mg x=some (.ref f))(hk:W.keepIn X.K (.ref f)=true)(hb:Binds X.K fd ps ds)(hd:Vals dvs ds)(hx:jj6 CX X E)
  (ha:PA X (e::es) t) (hdb:(x == ("__debug__":Str))=false:=by decide) (he:zsE e es X.env:=by rfl) (hpl:zbT pos es X.env:=by rfl) :
  PE X (.Call (.Name x p) (e::es) [] pos) (jy8 sp dvs E t):=by
 intro U s Z H Q I h;refine wpAny_Call_Name_kw (jju I hg hm ?_ hdb);refine W.callWith_K (h₀:=X.base) I.ok.mod.kin hk (thn (ha pos U s Z H _ I h) fun us s1 ⟨vs,H1,I1,r,q⟩=>⟨I1.kIn,?_⟩) he hpl;exact jwk F hr hb hd hx I1 r q
def jv1{pl:Sem Bool}(he:PE X o ta)(c:Cls X.K C)(hm:Meth X.K C m f)(F:FnOk X.prog X.w X.K X.mg X.base CX k f fd ps sp)(hr:Room k X.A)(hb:Binds X.K fd ps ds)(hd:Vals dvs ds)(hx:jj6 CX X E)(ha:PA X (e::es) t)
  (hst:zsE e es X.env:=by rfl) (hpl:zbT pos es X.env:=by rfl)
  (ht:eval (.Call (.Attribute o m apos) (e::es) [] pos) X.env=(do
   let ov <- eval o X.env
   standAt apos.atName
   let (f,first) <- holding [ov] (getMethod ov m pl)
   callWith pos f first (backTo pos (starEach (e::es) X.env)) (backToKw pos (keywordEach [] X.env))):=by rfl) :
  PE X (.Call (.Attribute o m apos) (e::es) [] pos) (jDk C m sp dvs E ta t):=by
 intro U s Z H Q I h;refine W.methodCall_KW (pl:=pl) (thn (he U s Z H _ I h) fun u s1 hzz=>?_) ht;obtain⟨x,H1,I1,rx,a,dx,fs,ex,ea,l,q⟩:=hzz;subst ex;obtain rfl:u=Value.ref a:=rx;refine jmn I1 ea c hm l ?_;refine W.callWith_K (first:=[.ref a]) (h₀:=X.base) I.ok.mod.kin hm.kp (thn (ha pos U s1 Z H1 _ I1 q) fun us s2 ⟨vs,H2,I2,r,q2⟩=>⟨I2.kIn,?_⟩) hst hpl;exact jwk (us:=.ref a::us) (vs:=.ref a::vs) F hr hb hd hx I2 (.cons rfl r) q2
def jyj{pl:Sem Bool}(he:PE X o ta)(c:Cls X.K C)(hm:Meth X.K C m f)(F:FnOk X.prog X.w X.K X.mg X.base CX k f fd ps sp)(hr:Room k X.A)(hb:Binds X.K fd ps ds)(hd:Vals dvs ds)(hx:jj6 CX X E)
  (ht:eval (.Call (.Attribute o m apos) [] [] pos) X.env=(do
   let ov <- eval o X.env
   standAt apos.atName
   let (f,first) <- holding [ov] (getMethod ov m pl)
   callWith pos f first (backTo pos (starEach [] X.env)) (backToKw pos (keywordEach [] X.env))):=by rfl) :
  PE X (.Call (.Attribute o m apos) [] [] pos) (jDk C m sp dvs E ta tNil):=by
 intro U s Z H Q I h;refine W.methodCall_KW (pl:=pl) (thn (he U s Z H _ I h) fun u s1 hzz=>?_) ht;obtain⟨x,H1,I1,rx,a,dx,fs,ex,ea,l,q⟩:=hzz;subst ex;obtain rfl:u=Value.ref a:=rx;refine jmn I1 ea c hm l ?_;exact W.callWith_K0 (first:=[.ref a]) I1.kIn hm.kp (jwk (us:=[.ref a]) (vs:=[.ref a]) F hr hb hd hx I1 (.cons rfl .nil) q)
structure Mk(K:W.Frag)(C f:Addr):Prop where
 makes:W.makesIn K C=true
 init:W.findIn K (.ref C) "__init__"=some (some (.ref f))
 fn:W.isFn K (.ref f)=true
 kp:W.keepIn K (.ref C)=true
def jyz{U:qb}{Z:St}{H:Hp}{s:Shared}{Q:VK}{us:List Value}{vs:List V}(M:Mk X.K C f)(F:FnOk X.prog X.w X.K X.mg X.base CX k f fd ps sp)(hr:Room (k+1) X.A)(hb:Binds X.K fd ps ds)(hd:Vals dvs ds)
  (hx:jj6 CX X E) (I:Inv X U Z H s) (r:Vals vs us)
  (h:∀ x dx,H x=none->H dx=none->dx≠x->sp (.ref x::(vs++dvs)) (upd (upd H dx (.own x)) x (.ins C dx [])) (fun v H2=>v=.non/\Q (.ref x) H2) E) :
  wpAny (model X.prog X.w) X.A (call (.ref C) us) (EP X U Z Q) X.xe s:=by
 have hq:=h (s.heap.objs.size+1) s.heap.objs.size (I.hok.fresh (Nat.le_succ _)) (I.hok.fresh (zac _)) (zcv (Nat.lt_succ_self _));have I2:=Inv.made (C:=C) I;have r2:Vals (V.ref (s.heap.objs.size+1)::(vs++dvs)) (Value.ref (s.heap.objs.size+1)::(us++ds)):=.cons rfl (r.append hd);have hl:(Value.ref (s.heap.objs.size+1)::us++ds).length=ps.length:=by
  have e:=r2.length;rw[F.len _ _ _ _ hq] at e;exact e.symm
 refine wpAny_call (jx6 (f:=f) I.kIn M.makes M.init (beq_iff_eq.mp M.fn) (codeAny_mono (F.run _ X.stack _ _ ⟨Value.ref (s.heap.objs.size+1)::us,[]⟩ (Value.ref (s.heap.objs.size+1)::(us++ds)) _ _ E (hr.make C us [])
  (I2.env0.make C us []) (hb _ (Value.ref (s.heap.objs.size+1)::us) I2.kIn hl) r2 hq) fun r s' hq'=>?_))
 cases r with
 | error e=>exact hx U Z _ _ e s' I2 hq'
 | ok fl =>
  cases fl with
  | ret u =>
   obtain⟨v,H',I3,rv,ev,q3⟩:=I2.after hq';subst ev;exact⟨rv,⟨V.ref (s.heap.objs.size+1),H',I3,rfl,q3⟩⟩
  | next=>exact False.elim hq'
  | brk=>exact False.elim hq'
  | cont=>exact False.elim hq'
def jCt(M:Mk X.K C f)(F:FnOk X.prog X.w X.K X.mg X.base CX k f fd ps sp)(hr:Room (k+1) X.A)(hg:Gl X x)(hm:X.mg x=some (.ref C))(hb:Binds X.K fd ps ds)(hd:Vals dvs ds)(hx:jj6 CX X E)
  (ha:PA X (e::es) t) (hdb:(x == ("__debug__":Str))=false:=by decide) (he:zsE e es X.env:=by rfl) (hpl:zbT pos es X.env:=by rfl) :
  PE X (.Call (.Name x p) (e::es) [] pos) (jI3 C sp dvs E t):=by
 intro U s Z H Q I h;refine wpAny_Call_Name_kw (jju I hg hm ?_ hdb);refine W.callWith_K (h₀:=X.base) I.ok.mod.kin M.kp (thn (ha pos U s Z H _ I h) fun us s1 ⟨vs,H1,I1,r,q⟩=>⟨I1.kIn,?_⟩) he hpl;exact jyz M F hr hb hd hx I1 r q
end
section
end
structure FnScope(N P:List Str)(sc:Scope):Prop where
 kind:sc.kind=.function
 co:sc.isCoroutine=false
 gen:sc.isGenerator=false
 nd:N.Nodup
 pre:N.take P.length=P
 par:∀ x∈P,sc.names.lookup x=some .local\/sc.names.lookup x=some .cell
 nofree:∀ y∈sc.names,y.2≠.free
def FnScope.m{N P:List Str}{c:Scope}(a:c.kind=.function)(b:c.isCoroutine=false)(d:c.isGenerator=false)(e:N.take P.length=P)(h:N.Nodup/\(∀ x∈P,c.names.lookup x=some .local\/c.names.lookup x=some .cell)/\∀ y∈c.names,y.2≠.free):FnScope N P c:=⟨a,b,d,h.1,e,h.2.1,h.2.2⟩
theorem jov{kindOf:Str->Option NameKind}{x:Str}:∀ {binds:List (Str×Value)} {m:qa},(∀ v,(x,v)∉binds)->bindL kindOf binds m x=m x
 | [],_,_=>rfl
 | (n,v)::r,m,h=>by
  unfold bindL;rw[jov fun w hw=>h w (zaw _ hw)]
  split
  ·have:x≠n:=by rintro rfl;exact h v zaa
   simp[this]
  ·rfl
theorem jot{kindOf:Str->Option NameKind}{x:Str}:∀ {binds:List (Str×Value)} {m:qa},(∀ v,(x,v)∉binds)->bindC kindOf binds m x=m x
 | [],_,_=>rfl
 | (n,v)::r,m,h=>by
  unfold bindC;rw[jot fun w hw=>h w (zaw _ hw)]
  split
  ·rfl
  ·have:x≠n:=by rintro rfl;exact h v zaa
   simp[this]
theorem jou{kindOf:Str->Option NameKind}{x:Str}{v:Value}:∀ {P:List Str} {vs:List Value} {i:Nat} {m:qa},P.Nodup->P[i]? = some x->vs[i]? = some v->kindOf x=some .local ->
  bindL kindOf (P.zip vs) m x=some v
 | [],_,_,_,_,h,_,_=>by simp at h
 | _::_,[],_,_,_,_,h,_=>by simp at h
 | p::P,w::vs,0,m,nd,h1,h2,hk=>by
  simp at h1 h2;subst h1;subst h2
  show bindL kindOf ((p,w)::P.zip vs) m p=_;unfold bindL;rw[jov fun v hv=>(List.nodup_cons.mp nd).1 (List.of_mem_zip hv).1,if_pos hk];simp
 | p::P,w::vs,i+1,m,nd,h1,h2,hk=>by
  show bindL kindOf ((p,w)::P.zip vs) m x=_;unfold bindL;exact jou (i:=i) (List.nodup_cons.mp nd).2 (by simpa using h1) (by simpa using h2) hk
theorem jos{kindOf:Str->Option NameKind}{x:Str}{v:Value}:∀ {P:List Str} {vs:List Value} {i:Nat} {m:qa},P.Nodup->P[i]? = some x->vs[i]? = some v->kindOf x≠some .local ->
  bindC kindOf (P.zip vs) m x=some v
 | [],_,_,_,_,h,_,_=>by simp at h
 | _::_,[],_,_,_,_,h,_=>by simp at h
 | p::P,w::vs,0,m,nd,h1,h2,hk=>by
  simp at h1 h2;subst h1;subst h2
  show bindC kindOf ((p,w)::P.zip vs) m p=_;unfold bindC;rw[jot fun v hv=>(List.nodup_cons.mp nd).1 (List.of_mem_zip hv).1,if_neg hk];simp
 | p::P,w::vs,i+1,m,nd,h1,h2,hk=>by
  show bindC kindOf ((p,w)::P.zip vs) m x=_;unfold bindC;exact jos (i:=i) (List.nodup_cons.mp nd).2 (by simpa using h1) (by simpa using h2) hk
def start(N:List Str)(vs:List V):St:=vs.map some++List.replicate (N.length-vs.length) none
def cxOf(CX:CXT)(P:Program)(w:World)(K:W.Frag)(mg:qa)(base:Heap)(N:List Str)(qual:Str)(scope:Scope)(f:Addr)(cd:Value)(A:Around)(outer:List Env)(s:Shared)(H:Hp)(E:XK):Cx where
 prog:=P
 w:=w
 K:=K
 mg:=mg
 base:=base
 A:=A.deeper (envOfC qual scope s.heap.objs.size f cd)
 N:=N
 s₀:=s
 Hz:=H
 env:=envOfC qual scope s.heap.objs.size f cd
 outer:=outer
 stack:=envOfC qual scope s.heap.objs.size f cd::outer
 ex:=[]
 calm:=true
 fn:=fun _=>true
 pn:=[]
 xe:=fun e s'=>wpAny (model P w) (A.deeper (envOfC qual scope s.heap.objs.size f cd)) (leaving (envOfC qual scope s.heap.objs.size f cd) e) (fun _ s''=>CX outer H s E e s'') (fun e' s''=>CX outer H s E e' s'') s'
def jrn{sc:Scope}{n:Nat}{x:Str}(h:sc.names.lookup x=some .cell):∃ c,(cellsFrom n sc.names []).lookup x=some c:=by
 have q:=W.cellsFrom_some sc.names n [] (.inl h);exact Option.isSome_iff_exists.mp q
def ju3{CX:CXT}{P:Program}{w:World}{K:W.Frag}{mg:qa}{base:Heap}{N ps:List Str}{qual:Str}{scope:Scope}{f:Addr}{cd:Value}{A:Around}{outer:List Env}{s s1:Shared}{H:Hp}{E:XK}{us:List Value}{vs:List V}
  (S:FnScope N ps scope) (hd:A.handled=none) (e0:Env0 P w K mg base A outer s H) (hl:vs.length=ps.length) (r:Vals vs us)
  (x:InCallC s s.heap.objs.size (bindL (envOfC qual scope s.heap.objs.size f cd).kindOf (ps.zip us) fun _=>none) (cellsFrom (s.heap.objs.size+1) scope.names []) (bindC (envOfC qual scope s.heap.objs.size f cd).kindOf (ps.zip us) fun _=>none) s1) :
  Inv (cxOf CX P w K mg base N qual scope f cd A outer s H E) [] (start N vs) H s1:=by
 have hpl:ps.length<=N.length:=by have:=congrArg List.length S.pre;rw[List.length_take] at this;omega
 obtain⟨h1,tk,rfl,hk⟩:=x.done;have noA:∀ b:Addr,b∉(cxOf CX P w K mg base N qual scope f cd A outer s H E).ex:=fun b z=>absurd (show b∈([]:List Addr) from z) (by simp)
 refine⟨⟨e0.mod,S.kind,rfl,rfl,zac _,fun y z c h1 h2=>?_,fun y hy=>?_,fun y c _ h=>?_,fun _=>hd,Around.frames_deeper e0.frames,.inr ⟨rfl,rfl⟩,fun b z=>absurd z (noA b),e0.bs,e0.bsz,fun b _ _=>noA b,fun b z=>absurd z (noA b),e0.funs,e0.frf⟩,
  rfl,e0.bare,Un.kept hk,⟨_,x.toInCall.ns,fun i y v h1 h2 h3=>?_⟩,fun y c h=>⟨_,x.cell y c h⟩,e0.hok.fresh (zac _),fun y c h=>?_,fun p hp=>absurd (show p∈([]:qb) from hp) (by simp),e0.hok.kept hk,?_⟩
 ·exact name_of_addr x.apart (PySem.mem_of_lookup h1) (PySem.mem_of_lookup h2)
 ·have hy:scope.names.lookup y=some .cell\/scope.names.lookup y=some .free:=hy;rcases hy with hy|hy
  ·exact jrn hy
  ·exact absurd rfl (S.nofree _ (PySem.mem_of_lookup hy))
 ·exact Nat.le_of_lt (x.above y c (PySem.mem_of_lookup h))
 ·have hi:i<vs.length:=by
   unfold start at h2
   by_cases hi:i<vs.length
   ·exact hi
   ·rw[List.getElem?_append_right (by simpa using hi)] at h2;rw[List.getElem?_replicate] at h2
    split at h2<;>cases h2
  have ha:vs[i]? = some v:=by
   unfold start at h2;rw[List.getElem?_append_left (by simpa using hi),zba] at h2
   cases e:vs[i]? with
   | none=>rw[e] at h2;cases h2
   | some a=>rw[e] at h2;cases h2;rfl
  obtain⟨u,hu,rv⟩:=r.get ha;have hp:ps[i]? = some y:=by
   rw[<- S.pre,List.getElem?_take_of_lt (by omega)];exact h1
  have ndP:ps.Nodup:=by rw[<- S.pre];exact S.nd.sublist (List.take_sublist _ _)
  refine⟨u,rv,?_⟩;rcases S.par y (List.mem_of_getElem? hp) with k|k
  ·exact .inl ⟨k,jou ndP hp hu k⟩
  ·obtain⟨c,e⟩:=jrn (n:=s.heap.objs.size+1) k;refine .inr ⟨.inl k,c,e,?_⟩;have q:=x.cell y c e;rw[jos ndP hp hu (by show scope.names.lookup y≠_;rw[k];decide)] at q;exact q
 ·exact e0.hok.fresh (Nat.le_of_lt (x.above y c (PySem.mem_of_lookup h)))
 ·unfold start;show _=N.length;rw[zcb,zav,List.length_replicate];omega
def jEr{CX:CXT}{P:Program}{w:World}{K:W.Frag}{mg:qa}{base:Heap}{k:Nat}{f:Addr}{name qual:Str}{params:Arguments}{body:List Stmt}{scope:Scope}{dV kV doc pm cdv ct oc:Value}{an od:Option Addr}
  {osl:qe} {N ps:List Str} {sp:Sp} (lk:K.lookup f=some ⟨oc,od,.func (W.fnOf name qual params body scope dV kV doc pm an cdv ct),osl⟩) (hcd:W.codeIn K cdv qual=true) (S:FnScope N ps scope)
  (len:∀ vs H Q E,sp vs H Q E->vs.length=ps.length)
  (hbody:∀ (A:Around) (outer:List Env) (s:Shared) (H:Hp) (vs:List V) (Q:VK) (E:XK),Room k (A.deeper (envOfC qual scope s.heap.objs.size f cdv))->sp vs H Q E ->
   ∃ t,PSs (cxOf CX P w K mg base N qual scope f cdv A outer s H E) body t/\t { nx:=fun _ H'=>Q .non H',rt:=Q } (start N vs) H) :
  FnOk P w K mg base CX (k+1) f (W.fnOf name qual params body scope dV kV doc pm an cdv ct) ps sp:=by
 refine⟨len,fun A outer s H args us vs Q E hr e0 hb r hsp=>?_⟩;have hl:=len _ _ _ _ hsp;have KX:K.In s.heap:=e0.mod.kin.keeps fun b o e=>(e0.bs b o e).1
 have lim:s.heap.NoLimit:=e0.mod.nolimit.keeps fun b o e=>(e0.bs b o e).1
 have hkind:∀ y∈ps.zip us,scope.names.lookup y.1=some .local\/(scope.names.lookup y.1=some .cell/\((cellsFrom (s.heap.objs.size+1) scope.names []).lookup y.1).isSome=true):=fun ⟨n,v⟩ hy=>by
  rcases S.par n (List.of_mem_zip hy).1 with q|q
  ·exact .inl q
  ·exact .inr ⟨q,W.cellsFrom_some _ _ _ (.inl q)⟩
 refine codeAny_call_function hr.depth (KX _ _ lk) rfl S.co S.gen rfl (W.codeRec_of KX hcd) (hb _ _ _ _ ?_);refine wpAny_newFunctionEnv_cells S.kind hkind fun env he s1 x=>?_
 subst he;refine⟨lim.keeps x.toInCall.keep,codeAny_func ?_⟩;obtain⟨t,ht,hq⟩:=hbody A outer s H vs Q E (hr.deeper _) hsp;have I:Inv (cxOf CX P w K mg base N qual scope f cdv A outer s H E) [] (start N vs) H s1:=ju3 S hr.hd e0 hl r x;refine wpAny_mono (ht [] s1 (start N vs) H _ I hq) (fun fl s' hs=>?_) fun e s' hs=>hs
 have fin:∀ {Z':St} {H':Hp} {v:V} {u:Value},Inv (cxOf CX P w K mg base N qual scope f cdv A outer s H E) [] Z' H' s'->RelV v u->Q v H'->CE outer P w H s Q u s' :=
  fun {Z' H' v u} Jq rv q=>⟨v,H',Jq.os,Jq.bare,Jq.base,Jq.hok,rv,q⟩
 cases fl with
 | ret u =>
  obtain⟨v,Z',H',Jq,rv,q⟩:=hs;exact fin Jq rv q
 | next =>
  obtain⟨Z',H',Jq,q⟩:=hs;exact fin (v:=V.non) (u:=Value.none) Jq rfl q
 | brk =>
  obtain⟨_,_,_,q⟩:=hs;exact False.elim q
 | cont =>
  obtain⟨_,_,_,q⟩:=hs;exact False.elim q
section
variable {X:Cx}{x:Str}{p pos:Pos}{e:Expr}{es:List Expr}{t:TA}{id T:String}{r:List V->Hp->VK->Prop}
def tCB(r:List V->Hp->VK->Prop)(t:TA):TE:=fun Z H Q=>t Z H fun vs H1=>r vs H1 Q
def jkr(hc:CallR X (.builtin id) r)(hg:Gl X x)(hm:X.mg x=none)(hv:bootBuiltins x=some (.builtin id))(ha:PA X (e::es) t)(hn:x≠"__name__":=by decide)(hdb:(x == ("__debug__":Str))=false:=by decide)
  (he:zsE e es X.env:=by rfl) (hpl:zbT pos es X.env:=by rfl):PE X (.Call (.Name x p) (e::es) [] pos) (tCB r t):=by
 intro U s Z H Q I h;refine wpAny_Call_Name_kw (jmp I hg hm hv ?_ hn hdb);exact PyProof.Rows.callWith_builtin1 (thn (ha pos U s Z H _ I h) fun us s1 ⟨vs,H1,I1,r1,q1⟩=>hc U s1 Z H1 vs us Q I1 r1 q1) he hpl
def jvz(hc:CallR X (.type T) r)(hg:Gl X x)(hm:X.mg x=none)(hv:bootBuiltins x=some (.type T))(ha:PA X (e::es) t)(hn:x≠"__name__":=by decide)(hdb:(x == ("__debug__":Str))=false:=by decide)
  (he:zsE e es X.env:=by rfl) (hpl:zbT pos es X.env:=by rfl):PE X (.Call (.Name x p) (e::es) [] pos) (tCB r t):=by
 intro U s Z H Q I h;refine wpAny_Call_Name_kw (jmp I hg hm hv ?_ hn hdb);exact PyProof.Rows.callWith_type1 (thn (ha pos U s Z H _ I h) fun us s1 ⟨vs,H1,I1,r1,q1⟩=>hc U s1 Z H1 vs us Q I1 r1 q1) he hpl
end
end L2
namespace HT
open PySem PyProof.Rows
def lexLt:List Int->List Int->Bool
 | [],[]=>false
 | [],_::_=>true
 | _::_,[]=>false
 | x::xs,y::ys=>if x=y then lexLt xs ys else decide (x<y)
section
open PySem.SeqAt
open PySem.AutoSeq1 (wpAny_loadPart')
open PySem.MeetsSeq PySem.MeetsSeq2 PySem.MeetsSeq3
end
section
variable {prog:Program}{w:World}{A:Around}{E:qc}{s:Shared}
def cat_tup{t b:Addr}{vs ws:List Value}{Q:qc}(ht:IsTup s.heap t vs.toArray)(hb:IsTup s.heap b ws.toArray)(hv:vs≠[])
  (h1:ws=[]->Q (.ref t) s) (h2:ws≠[]->Q (.ref s.heap.objs.size) { s with heap:=s.heap.push { cls:=.type "tuple",data:=.seq (vs++ws).toArray } })
  (hsz:vs.length+ws.length<=sizeLine):wpAny (model prog w) A (binaryOp .Add (.ref t) (.ref b)) Q E s:=by
 obtain⟨⟨cls,dd,data,sl⟩,ho,hc,n,hd⟩:=id ht;obtain⟨⟨cls2,dd2,data2,sl2⟩,ho2,hc2,n2,hd2⟩:=id hb;simp only at hc hd hc2 hd2;subst hc hd hc2 hd2;have e:vs.toArray++ws.toArray=(vs++ws).toArray:=by simp
 by_cases hw:ws=[]
 ·exact concat_meets ⟨_,ho,rfl⟩ ⟨_,ho2,rfl⟩ noFill_tuple_add seq_tuple_add PySem.F.slot_tuple_add PySem.F.entry_tuple_add (PySem.F.args_tuple_add_2 _ _)
   (tuple_addW1 t b vs.toArray ws.toArray n n2 dd dd2 sl sl2 (by simpa using hv) (by simp[hw])) ⟨ho,ho2,h1 hw⟩
 ·refine concat_meets ⟨_,ho,rfl⟩ ⟨_,ho2,rfl⟩ noFill_tuple_add seq_tuple_add PySem.F.slot_tuple_add PySem.F.entry_tuple_add (PySem.F.args_tuple_add_2 _ _)
   (tuple_addW2 t b vs.toArray ws.toArray n n2 dd dd2 sl sl2 (by simpa using hv) (by simpa using hw) (by rw[zbx,zbx];exact hsz)) ⟨ho,ho2,?_⟩
  rw[e];exact h2 hw
def sIx(n d:Nat):Option Int->Nat
 | none=>d
 | some v=>if v<0 then (v+(n:Int)).toNat else min v.toNat n
def jGj(n d:Nat)(hd:d<=n)(o:Option Int):sIx n d o<=n:=by
 cases o with
 | none=>exact hd
 | some v =>
  show (if v<0 then (v+(n:Int)).toNat else min v.toNat n)<=n
  by_cases hv:v<0
  ·rw[if_pos hv];omega
  ·rw[if_neg hv];exact Nat.min_le_right _ _
def juh(v:Int)(n d:Nat):(if v<0 then max (v+(n:Int)) 0 else min v (n:Int))=((sIx n d (some v):Nat):Int):=by
 show (if v<0 then max (v+(n:Int)) 0 else min v (n:Int))=(((if v<0 then (v+(n:Int)).toNat else min v.toNat n):Nat):Int)
 by_cases hv:v<0
 ·simp only[if_pos hv];omega
 ·simp only[if_neg hv];omega
def js2(lo hi:Option Int)(n:Nat):Builtin.Slice.sliceAdjust lo hi 1 (n:Int)=(((sIx n 0 lo:Nat):Int),((sIx n n hi:Nat):Int)):=by
 have h1:¬ ((1:Int)<0):=by omega
 unfold Builtin.Slice.sliceAdjust;simp only[h1,if_false];refine Prod.ext ?_ ?_
 ·cases lo with
  | none=>rfl
  | some v=>exact juh v n 0
 ·cases hi with
  | none=>rfl
  | some v=>exact juh v n n
def jtn(i j:Nat):Builtin.Slice.slicePlaces (i:Int) (j:Int) 1=j-i:=by
 unfold Builtin.Slice.slicePlaces;have h1:(1:Int) > 0:=by omega
 simp only[h1,if_true,Int.ediv_one]
 split<;>omega
def jmw{v:Value}{o:Option Int}{Q:Option Int->Shared->Prop}(p:IsPart v o)(h:Q o s):wpAny (model prog w) A (Builtin.Slice.slicePartIndex v) Q E s:=by
 cases p with
 | none=>exact slicePart_none h
 | int i t=>exact slicePart_int h
def jkl{sl:Addr}{vl vu:Value}{lo hi:Option Int}{n:Nat}{Q:Int×Int×Nat->Shared->Prop}(hs:s.heap.IsSliceOf sl vl vu .none)(pl:IsPart vl lo)(pu:IsPart vu hi)
  (h:Q (((sIx n 0 lo:Nat):Int),1,sIx n n hi-sIx n 0 lo) s):wpAny (model prog w) A (Builtin.Slice.sliceApplied (.ref sl) (pure (n:Int))) Q E s:=by
 obtain⟨os,hos,hcs,hds⟩:=id hs;unfold Builtin.Slice.sliceApplied Builtin.Slice.sliceFields;refine zay (zay (wpAny_field hos hds (x:=vl) rfl (zay (wpAny_field hos hds (x:=vu) rfl (zay (wpAny_field hos hds (x:=.none) rfl (zab ?_)))))));refine zay (slicePart_none ?_);show wpAny _ _ (if ((1:Int) == 0)=true then _ else _) _ _ s;rw[if_neg (by decide)];refine zay (jmw pl (zay (jmw pu (zay (zab ?_)))));show wpAny _ _ (match Builtin.Slice.sliceAdjust lo hi 1 (n:Int) with|(lo,hi)=>pure (lo,(1:Int),Builtin.Slice.slicePlaces lo hi 1)) _ _ s;rw[js2 lo hi n];show wpAny _ _ (pure (((sIx n 0 lo:Nat):Int),(1:Int),Builtin.Slice.slicePlaces ((sIx n 0 lo:Nat):Int) ((sIx n n hi:Nat):Int) 1)) _ _ s;rw[jtn];exact zab h
def jyn(xs:Array Value)(i k:Nat):((List.range k).filterMap fun (m:Nat)=>xs[((i:Int)+(m:Int)*1).toNat]?).toArray=((xs.toList.drop i).take k).toArray:=by
 have e:(fun (m:Nat)=>xs[((i:Int)+(m:Int)*1).toNat]?)=fun m=>xs[i+m]?:=by
  funext m
  have:((i:Int)+(m:Int)*1).toNat=i+m:=by omega
  rw[this]
 rw[e];have:=pick_run xs i k;rw[List.filterMap_map] at this;have e2:((fun x=>xs[x]?) ∘ fun x=>i+x)=fun m=>xs[i+m]?:=rfl
 rw[e2] at this;rw[this]
def getItem_tuple_cut{t sl:Addr}{items:Array Value}{vl vu:Value}{lo hi:Option Int}{Q:qc}(ht:IsTup s.heap t items)(hs:s.heap.IsSliceOf sl vl vu .none)(pl:IsPart vl lo)(pu:IsPart vu hi)
  (hw:¬ (sIx items.size 0 lo=0/\sIx items.size items.size hi=items.size))
  (h:Q (.ref s.heap.objs.size) { s with heap:=s.heap.push { cls:=.type "tuple",data:=.seq ((items.toList.drop (sIx items.size 0 lo)).take (sIx items.size items.size hi-sIx items.size 0 lo)).toArray } })
  (hsz:items.size<=sizeLine):wpAny (model prog w) A (getItem (.ref t) (.ref sl)) Q E s:=by
 have htake:sizeOk (.seq ((items.toList.drop (sIx items.size 0 lo)).take (sIx items.size items.size hi-sIx items.size 0 lo)).toArray):=by
  show ((items.toList.drop (sIx items.size 0 lo)).take (sIx items.size items.size hi-sIx items.size 0 lo)).toArray.size<=sizeLine;rw[zbx,List.length_take,List.length_drop,Array.length_toList];omega
 have hj:sIx items.size items.size hi<=items.size:=jGj _ _ (zac _) hi;obtain⟨os,hos,hcs,hds⟩:=id hs;have hTs:s.TypeIs (.ref sl) "slice":=⟨os,hos,hcs⟩
 unfold getItem
 try with_reducible refine wpAny_holding ?_
 first|refine zay (zab ?_)|skip
 refine zay (wpAny_sequenceKey ht.typeIs (by decide) ?_);refine zay (wpAny_callSpecial?_slot (name:=Str.ofString "__getitem__") ht.typeIs PyProof.Rows.slot_tuple_getitem
  (wpAny_call_entry PyProof.Rows.slot_tuple_getitem ht.typeIs entry_tuple_getitem ?_ (args_tuple_getitem _ _)))
 show wpAny _ _ (Builtin.Tuple.tupleItemsOf (.ref t) >>= _) _ _ s;refine zay (tupleItemsOf_ ht ?_);refine zay (wpAny_typeOf hTs ?_);rw[if_pos (by decide)];refine zay (jkl hs pl pu ?_);have hno:¬ ((((sIx items.size 0 lo:Nat):Int) == 0&&(1:Int) == 1&&(sIx items.size items.size hi-sIx items.size 0 lo) == items.size)=true):=by
  intro q;rw[Bool.and_eq_true,Bool.and_eq_true] at q;have q1:((sIx items.size 0 lo:Nat):Int)=0:=eq_of_beq q.1.1;have q2:sIx items.size items.size hi-sIx items.size 0 lo=items.size:=eq_of_beq q.2;exact hw ⟨by omega,by omega⟩
 show wpAny _ _ (if (((sIx items.size 0 lo:Nat):Int) == 0&&(1:Int) == 1&&(sIx items.size items.size hi-sIx items.size 0 lo) == items.size)=true then _ else _) _ _ s;rw[if_neg hno,jyn]
 first
  | exact zay (m:=Builtin.Tuple.tupleExact _) (wpAny_newObj_type (zab ⟨_,rfl,zab h⟩) htake)
  | exact zay (m:=Builtin.Tuple.tupleExact _) (wpAny_newObj_type (zay (zab (zab ⟨_,rfl,zab h⟩))) htake)
  | exact zay (zay (m:=Builtin.Tuple.tupleExact _) (wpAny_newObj_type (zab (zab ⟨_,rfl,zab h⟩)) htake))
  | exact zay (zay (m:=Builtin.Tuple.tupleExact _) (wpAny_newObj_type (zab ⟨_,rfl,zab h⟩) htake))
end
end HT
namespace L2
open PyProof.Rows
abbrev TO:=St->Hp->(Option Int->Hp->Prop)->Prop
def PO(X:Cx)(e:Option Expr)(t:TO):Prop :=
 ∀ (U:qb) (s:Shared) (Z:St) (H:Hp) (Q:Option Int->Hp->Prop),Inv X U Z H s->t Z H Q ->
  wpAny (model X.prog X.w) X.A (evalPart e X.env) (fun u s'=>∃ o H',Inv X U Z H' s'/\IsPart u o/\Q o H') X.xe s
def jDl:TO:=fun _ H Q=>Q none H
def jI6(t:TE):TO:=fun Z H Q=>t Z H fun x H1=>∃ i,x=.int i/\Q (some i) H1
section
variable {X:Cx}{e:Expr}{te:TE}{lo hi:Option Expr}{tl th:TO}{pos p2:Pos}
def jCv:PO X none jDl:=by
 intro U s Z H Q I h;rw[evalPart_none];exact zab ⟨none,H,I,.none,h⟩
def jCw(h:PE X e te):PO X (some e) (jI6 te):=by
 intro U s Z H Q I hw;rw[evalPart_some];refine thn (h U s Z H _ I hw) fun u s1 hzz=>?_
 obtain⟨x,H1,I1,r1,q1⟩:=hzz;obtain⟨i,rfl,q⟩:=q1;obtain⟨t,rfl⟩:=r1;exact⟨some i,H1,I1,.int i t,q⟩
def SlR(X:Cx)(r:V->Option Int->Option Int->Hp->VK->Prop):Prop :=
 ∀ (U:qb) (s:Shared) (Z:St) (H:Hp) (x:V) (v vl vu:Value) (lo hi:Option Int) (sl:Addr) (Q:VK),Inv X U Z H s->RelV x v->s.heap.IsSliceOf sl vl vu .none->IsPart vl lo->IsPart vu hi->r x lo hi H Q ->
  ∃ T id,typeLookup (.type T) "__getitem__"=pure (some (.builtin id))/\s.TypeIs v T/\wpAny (model X.prog X.w) X.A (getItem v (.ref sl)) (EP X U Z Q) X.xe s
def SlR.or{r r':V->Option Int->Option Int->Hp->VK->Prop}(h:SlR X r)(h':SlR X r'):SlR X (fun x lo hi H Q=>r x lo hi H Q\/r' x lo hi H Q):=by
 intro U s Z H x v vl vu lo hi sl Q I rx hs pl pu q;rcases q with q|q
 ·exact h U s Z H x v vl vu lo hi sl Q I rx hs pl pu q
 ·exact h' U s Z H x v vl vu lo hi sl Q I rx hs pl pu q
def tSl(r:V->Option Int->Option Int->Hp->VK->Prop)(te:TE)(tl th:TO):TE:=fun Z H Q=>te Z H fun x H1=>tl Z H1 fun l H2=>th Z H2 fun u H3=>r x l u H3 Q
def jyk{r:V->Option Int->Option Int->Hp->VK->Prop}(hr:SlR X r)(he:PE X e te)(hl:PO X lo tl)(hu:PO X hi th):PE X (.Subscript e (.Slice lo hi none p2) pos) (tSl r te tl th):=by
 intro U s Z H Q I h;refine Subscript_ (thn (he U s Z H _ I h) fun v s1 hzz=>?_);obtain⟨x,H1,I1,r1,q1⟩:=hzz;refine wpAny_Slice (thn (hl U s1 Z H1 _ I1 q1) fun vl s2 ⟨l,H2,I2,pl,q2⟩=>thn (hu U s2 Z H2 _ I2 q2) fun vu s3 hzz=>?_);obtain⟨u,H3,I3,pu,q3⟩:=hzz;rw[evalPart_none];refine zab ?_;have I4:Inv X U Z H3 { s3 with heap:=s3.heap.push { cls:=.type "slice",data:=.fields #[vl,vu,.none] } }:=I3.kept (t':=s3.toks) fun b ob q=>zaz _ q
 obtain⟨T,id,hT,ht,hg⟩:=hr U { s3 with heap:=s3.heap.push { cls:=.type "slice",data:=.fields #[vl,vu,.none] } } Z H3 x v vl vu l u s3.heap.objs.size Q I4 r1 (Heap.IsSliceOf.new ..) pl pu q3;show wpAny (model X.prog X.w) X.A (subscriptTail e (.Slice lo hi none p2) v (.ref s3.heap.objs.size)) (EP X U Z Q) X.xe { s3 with heap:=s3.heap.push { cls:=.type "slice",data:=.fields #[vl,vu,.none] } };exact tail_any (ops:=[.ref s3.heap.objs.size,v]) ht hT hg (by with_unfolding_all rfl)
def cutV(xs:List V)(lo hi:Option Int):List V:=(xs.drop (HT.sIx xs.length 0 lo)).take (HT.sIx xs.length xs.length hi-HT.sIx xs.length 0 lo)
def jkx(xs:List V)(lo hi:Option Int):(cutV xs lo hi).length<=xs.length:=by
 unfold cutV;rw[List.length_take,List.length_drop];omega
def rSlT(K:W.Frag):V->Option Int->Option Int->Hp->VK->Prop:=fun x lo hi H Q=>∃ a xs,x=.ref a/\SqT K H a xs /\
 ¬ (HT.sIx xs.length 0 lo=0/\HT.sIx xs.length xs.length hi=xs.length)/\∀ p,H p=none->Q (.ref p) (upd H p (.tup (cutV xs lo hi)))
def sl_tup:SlR X (rSlT X.K):=by
 intro U s Z H x v vl vu lo hi sl Q I rx hs pl pu h;obtain⟨a,xs,rfl,hx,hw,q⟩:=h;cases rx;obtain⟨its,r,ht,hz⟩:=I.tuple hx;have hlen:its.toArray.size=xs.length:=by rw[zbx];exact r.length.symm
 refine⟨"tuple",_,PyProof.Rows.slot_tuple_getitem.lookup,ht.typeIs,?_⟩;refine HT.getItem_tuple_cut ht hs pl pu (by rw[hlen];exact hw) ?_ (by rw[hlen];exact hz);rw[hlen];refine⟨.ref s.heap.objs.size,_,I.laid (t':=s.toks) (o:=.tup (cutV xs lo hi)) (fun b ob q=>zaz _ q) (zac _) ?_,rfl,q _ (I.hok.fresh (zac _))⟩;exact⟨zdx (jkx xs lo hi) hz,_,(r.drop (HT.sIx xs.length 0 lo)).take (HT.sIx xs.length xs.length hi-HT.sIx xs.length 0 lo),IsTup.new _ _⟩
def jC7(K:W.Frag):R2:=fun x y H Q=>∃ a b xs ys,x=.ref a/\y=.ref b/\SqT K H a xs/\SqT K H b ys/\xs≠[]/\xs.length+ys.length<=sizeLine /\
 (ys=[]->Q (.ref a) H)/\(ys≠[]->∀ p,H p=none->Q (.ref p) (upd H p (.tup (xs++ys))))
def Vals.nil_iff{xs:List V}{us:List Value}(r:Vals xs us):us=[]↔xs=[]:=by
 cases r with
 | nil=>simp
 | cons _ _=>simp
def jCm:OpR X (binaryOp .Add) (jC7 X.K):=by
 intro U s Z H x y v u Q I rx ry h;obtain⟨a,b,xs,ys,rfl,rfl,ha,hb,hx,hz,q1,q2⟩:=h;cases rx;cases ry;obtain⟨its,r1,p1,_⟩:=I.tuple ha;obtain⟨its2,r2,p2,_⟩:=I.tuple hb;refine HT.cat_tup p1 p2 (fun z=>hx (r1.nil_iff.mp z)) (fun z=>⟨.ref a,H,I,rfl,q1 (r2.nil_iff.mp z)⟩) (fun z=>?_) (by rw[<- r1.length,<- r2.length];exact hz);refine⟨.ref s.heap.objs.size,_,I.laid (t':=s.toks) (o:=.tup (xs++ys)) (fun b ob q=>zaz _ q) (zac _) ?_,rfl,q2 (fun w=>z (r2.nil_iff.mpr w)) _ (I.hok.fresh (zac _))⟩;exact⟨by rw[zcb];exact hz,_,r1.append r2,IsTup.new _ _⟩
end
def ixN(n:Nat)(i:Int):Option Nat:=if 0<=i then (if i<n then some i.toNat else none) else if -(n:Int)<=i then some (i+n).toNat else none
def atI{α:Type}(xs:List α)(i:Int):Option α:=(ixN xs.length i).bind fun j=>xs[j]?
def jB2{n:Nat}{i:Int}{j:Nat}(h:ixN n i=some j):seqIndex? i n=some j/\j<n/\-(n:Int)<=i/\i<n:=by
 unfold ixN at h
 by_cases h0:0<=i
 ·rw[if_pos h0] at h
  by_cases h1:i<n
  ·rw[if_pos h1] at h;have e:i.toNat=j:=zby h;exact⟨by rw[seqIndex_of h0 h1,e],by omega,by omega,h1⟩
  ·rw[if_neg h1] at h;cases h
 ·rw[if_neg h0] at h
  by_cases h1:-(n:Int)<=i
  ·rw[if_pos h1] at h;have e:(i+n).toNat=j:=zby h;exact⟨by rw[seqIndex_neg (by omega) h1,e],by omega,h1,by omega⟩
  ·rw[if_neg h1] at h;cases h
def atI_get{α:Type}{xs:List α}{i:Int}{v:α}(h:atI xs i=some v):∃ j,seqIndex? i xs.length=some j/\xs[j]? = some v/\j<xs.length/\-(xs.length:Int)<=i/\i<xs.length:=by
 unfold atI at h
 cases e:ixN xs.length i with
 | none=>rw[e] at h;cases h
 | some j =>
  rw[e] at h;obtain⟨h1,h2,h3,h4⟩:=jB2 e;exact⟨j,h1,h,h2,h3,h4⟩
def jqc(b:Expr):Prop:=∀ o i,subscripted b false o i=operate [o,i] (getItem o i)
def IxR(X:Cx)(r:R2):Prop :=
 ∀ (value slice:Expr) (U:qb) (s:Shared) (Z:St) (H:Hp) (x y:V) (v u:Value) (Q:VK),Inv X U Z H s->RelV x v->RelV y u->r x y H Q ->
  subscripted slice false v u=operate [v,u] (getItem v u)->wpAny (model X.prog X.w) X.A (subscriptTail value slice v u) (EP X U Z Q) X.xe s
def MtR(X:Cx)(id:String)(r:V->List V->Hp->VK->Prop):Prop :=
 ∀ (U:qb) (s:Shared) (Z:St) (H:Hp) (x:V) (xs:List V) (v:Value) (us:List Value) (Q:VK),Inv X U Z H s->RelV x v->Vals xs us->r x xs H Q ->
  wpAny (model X.prog X.w) X.A (call (.builtin id) (v::us)) (EP X U Z Q) X.xe s
section
variable {X:Cx}{a b:Expr}{ta tb:TE}{pos:Pos}
def IxR.or{r r':R2}(h:IxR X r)(h':IxR X r'):IxR X (fun x y H Q=>r x y H Q\/r' x y H Q):=by
 intro value slice U s Z H x y v u Q I rx ry q hs;rcases q with q|q
 ·exact h value slice U s Z H x y v u Q I rx ry q hs
 ·exact h' value slice U s Z H x y v u Q I rx ry q hs
def jF1{r:R2}(hr:IxR X r)(ha:PE X a ta)(hb:PE X b tb)(hs:jqc b):PE X (.Subscript a b pos) (tOp r ta tb):=by
 intro U s Z H Q I h;exact Subscript_ (binT ha hb I h fun v u s2 x y H2 I2 rx ry q=>hr a b U s2 Z H2 x y v u Q I2 rx ry q (hs _ _))
def rIxL(K:W.Frag):R2:=fun x y H Q=>∃ p xs i v,x=.ref p/\y=.int i/\SqL K H p xs/\atI xs i=some v/\Q v H
def rIxT(K:W.Frag):R2:=fun x y H Q=>∃ p xs i v,x=.ref p/\y=.int i/\SqT K H p xs/\atI xs i=some v/\Q v H
def rIxS:R2:=fun x y H Q=>∃ z i c,x=.str z/\y=.int i/\z.length<=sizeLine/\atI z.cps.toList i=some c/\Q (.str ⟨#[c]⟩) H
def ix_list:IxR X (rIxL X.K):=by
 intro value slice U s Z H x y v u Q I rx ry h hs;obtain⟨p,xs,i,z,rfl,rfl,hq,he,q⟩:=h;cases rx;obtain⟨t,rfl⟩:=ry;obtain⟨its,r,pl,hz⟩:=I.list hq;obtain⟨j,h1,h2,h3,h4,h5⟩:=atI_get he;obtain⟨w,ew,rw'⟩:=r.get h2;have hl:=r.length;have hn:=jmq;have fin:EP X U Z Q w s:=⟨z,H,I,rw',q⟩
 by_cases h0:0<=i
 ·have hj:i.toNat=j:=by
   rw[seqIndex_of h0 h5] at h1;exact zby h1
  exact item_listR pl.isList h0 (by omega) (by rw[hj];simpa using ew) fin hs
 ·have hj:(i+(its.toArray.size:Int)).toNat=j:=by
   rw[seqIndex_neg (by omega) h4] at h1;rw[zbx,<- hl];exact zby h1
  exact subscriptTail_builtinR (x:=w) pl.isList.typeIs slot_list_getitem.lookup
   (wpAny_getItem_list_neg (Q:=fun r s'=>r=w/\EP X U Z Q r s') pl.isList (by omega) (by rw[zbx]<;>omega) (by omega) (by rw[hj];simpa using ew) ⟨rfl,fin⟩) hs
def ix_tup:IxR X (rIxT X.K):=by
 intro value slice U s Z H x y v u Q I rx ry h hs;obtain⟨p,xs,i,z,rfl,rfl,hq,he,q⟩:=h;cases rx;obtain⟨t,rfl⟩:=ry;obtain⟨its,r,pl,hz⟩:=I.tuple hq;obtain⟨j,h1,h2,h3,h4,h5⟩:=atI_get he;obtain⟨w,ew,rw'⟩:=r.get h2;have hl:=r.length;have hn:=jmq;have fin:EP X U Z Q w s:=⟨z,H,I,rw',q⟩
 exact subscriptTail_builtinR (x:=w) pl.typeIs slot_tuple_getitem.lookup
  (getItem_tuple (j:=j) (Q:=fun r s'=>r=w/\EP X U Z Q r s') pl (by omega) (by omega) (by rw[zbx,<- hl];exact h1) (by simpa using ew) ⟨rfl,fin⟩) hs
def jE2:IxR X rIxS:=by
 intro value slice U s Z H x y v u Q I rx ry h hs;obtain⟨z,i,c,rfl,rfl,hz,he,q⟩:=h;obtain⟨t,rfl⟩:=rx;obtain⟨t',rfl⟩:=ry;obtain⟨j,h1,h2,h3,h4,h5⟩:=atI_get he;have hl:z.cps.toList.length=z.length:=by simp[Str.length]
 rw[hl] at h1 h4 h5;have hn:=jmq;exact tail_any (typeIs_str s z t) slot_str_getitem.lookup (getItem_str (c:=c) (by
  have e1:decide (i < -(2 ^ 63:Int))=false:=decide_eq_false (by omega);have e2:decide (i >= 2 ^ 63)=false:=decide_eq_false (by omega);rw[e1,e2,Bool.or_false]) (by rw[h1];simpa using h2) ⟨.str ⟨#[c]⟩,H,I.tok _,⟨_,rfl⟩,q⟩) hs
def rIx(K:W.Frag):R2:=fun x y H Q=>rIxL K x y H Q\/rIxT K x y H Q\/rIxS x y H Q
def jat:IxR X (rIx X.K):=ix_list.or (ix_tup.or jE2)
def jp7(lo hi:Option Int)(n:Nat):(sliceBounds lo hi none n).1=((HT.sIx n 0 lo:Nat):Int)/\(sliceBounds lo hi none n).2.1=((HT.sIx n n hi:Nat):Int)/\(sliceBounds lo hi none n).2.2=1:=by
 refine⟨?_,?_,rfl⟩
 ·cases lo with
  | none=>simp[sliceBounds,HT.sIx]
  | some i =>
   simp only[sliceBounds,HT.sIx,Option.getD_none,show (1:Int) > 0 by decide,if_true]
   by_cases h:i<0
   ·simp only[h,if_true]<;>omega
   ·simp only[h,if_false]<;>omega
 ·cases hi with
  | none=>simp[sliceBounds,HT.sIx]
  | some i =>
   simp only[sliceBounds,HT.sIx,Option.getD_none,show (1:Int) > 0 by decide,if_true]
   by_cases h:i<0
   ·simp only[h,if_true]<;>omega
   ·simp only[h,if_false]<;>omega
def joj(its:List Value)(lo hi:Option Int):slicePick its.toArray lo hi none=((its.drop (HT.sIx its.length 0 lo)).take (HT.sIx its.length its.length hi-HT.sIx its.length 0 lo)).toArray:=by
 obtain⟨h1,h2,h3⟩:=jp7 lo hi its.toArray.size;unfold slicePick;rw[h1,h2,h3];simp only[sliceRange_one,pick_run,zbx]<;>rfl
def rSlL(K:W.Frag):V->Option Int->Option Int->Hp->VK->Prop:=fun x lo hi H Q=>∃ a xs,x=.ref a/\SqL K H a xs/\∀ p,H p=none->Q (.ref p) (upd H p (.lst (cutV xs lo hi)))
def sl_list:SlR X (rSlL X.K):=by
 intro U s Z H x v vl vu lo hi sl Q I rx hs pl pu h;obtain⟨a,xs,rfl,hx,q⟩:=h;cases rx;obtain⟨its,r,ht,hz⟩:=I.list hx;have hlen:=r.length;refine⟨"list",_,slot_list_getitem.lookup,ht.isList.typeIs,?_⟩;refine wpAny_getItem_list_slice ht.isList hs pl pu .none (by simp) ?_ (by rw[zbx]<;>omega);rw[joj,<- hlen];refine⟨.ref s.heap.objs.size,_,I.laid (t':=s.toks) (o:=.lst (cutV xs lo hi)) (fun b ob q=>zaz _ q) (zac _) ?_,rfl,q _ (I.hok.fresh (zac _))⟩;exact⟨zdx (jkx xs lo hi) hz,_,0,(r.drop (HT.sIx xs.length 0 lo)).take (HT.sIx xs.length xs.length hi-HT.sIx xs.length 0 lo),zbz _ rfl⟩
def jmf:V->Bool
 | .non=>true
 | .bl _=>true
 | .int _=>true
 | .str _=>true
 | _=>false
def eqV:V->V->Bool
 | .non,.non=>true
 | .bl a,.bl b=>a == b
 | .bl a,.int b=>(if a then 1 else 0) == b
 | .int a,.bl b=>a == (if b then 1 else 0)
 | .int a,.int b=>a == b
 | .str a,.str b=>a == b
 | _,_=>false
def jEp{A:Around}{s:Shared}{y x:V}{u v:Value}(ry:RelV y u)(rx:RelV x v)(fy:jmf y=true)(fx:jmf x=true):SeqAt.EqAt A s u v (eqV y x):=by
 cases y with
 | non =>
  cases ry
  cases x with
  | non=>cases rx;exact SeqAt.EqAt.same _
  | bl b=>cases rx;exact SeqAt.EqAt.none_bool b
  | int b=>obtain⟨t,rfl⟩:=rx;exact SeqAt.EqAt.none_int b t
  | str b=>obtain⟨t,rfl⟩:=rx;exact SeqAt.EqAt.none_str b t
  | _=>exact absurd (show false=true from fx) Bool.false_ne_true
 | bl a =>
  cases ry
  cases x with
  | non=>cases rx;exact SeqAt.EqAt.bool_none a
  | bl b=>cases rx;exact SeqAt.EqAt.bool_bool a b
  | int b=>obtain⟨t,rfl⟩:=rx;exact SeqAt.EqAt.bool_int a b t
  | str b=>obtain⟨t,rfl⟩:=rx;exact SeqAt.EqAt.bool_str a b t
  | _=>exact absurd (show false=true from fx) Bool.false_ne_true
 | int a =>
  obtain⟨t',rfl⟩:=ry
  cases x with
  | non=>cases rx;exact SeqAt.EqAt.int_none a t'
  | bl b=>cases rx;exact SeqAt.EqAt.int_bool a t' b
  | int b=>obtain⟨t,rfl⟩:=rx;exact SeqAt.EqAt.int_int a t' b t
  | str b=>obtain⟨t,rfl⟩:=rx;exact SeqAt.EqAt.int_str a t' b t
  | _=>exact absurd (show false=true from fx) Bool.false_ne_true
 | str a =>
  obtain⟨t',rfl⟩:=ry
  cases x with
  | non=>cases rx;exact SeqAt.EqAt.str_none a t'
  | bl b=>cases rx;exact SeqAt.EqAt.str_bool a t' b
  | int b=>obtain⟨t,rfl⟩:=rx;exact SeqAt.EqAt.str_int a t' b t
  | str b=>obtain⟨t,rfl⟩:=rx;exact SeqAt.EqAt.str_str a t' b t
  | _=>exact absurd (show false=true from fx) Bool.false_ne_true
 | _=>exact absurd (show false=true from fy) Bool.false_ne_true
def eqU(x:V)(u:Value):Bool:=match u with
 | .none=>eqV .non x
 | .bool b=>eqV (.bl b) x
 | .int i _=>eqV (.int i) x
 | .str z _=>eqV (.str z) x
 | _=>false
def jzt{x y:V}{u:Value}(r:RelV y u)(f:jmf y=true):eqU x u=eqV y x:=by
 cases y with
 | non=>cases r;rfl
 | bl b=>cases r;rfl
 | int i=>obtain⟨t,rfl⟩:=r;rfl
 | str z=>obtain⟨t,rfl⟩:=r;rfl
 | _=>exact absurd (show false=true from f) Bool.false_ne_true
theorem jkv{x:V}:∀ {xs:List V} {us:List Value},Vals xs us->xs.all jmf=true->us.any (eqU x)=xs.any fun y=>eqV y x
 | _,_,.nil,_=>rfl
 | y::xs,u::us,.cons r t,f=>by
  rw[List.all_cons,Bool.and_eq_true] at f;rw[List.any_cons,List.any_cons,jzt r f.1,jkv t f.2]
theorem jjd{A:Around}{s:Shared}{x:V}{v:Value}(rx:RelV x v)(fx:jmf x=true):∀ {xs:List V} {us:List Value},Vals xs us->xs.all jmf=true->∀ u∈us,SeqAt.EqAt A s u v (eqU x u)
 | _,_,.nil,_=>fun u hu=>by cases hu
 | y::xs,u::us,.cons r t,f=>fun u' hu=>by
  rw[List.all_cons,Bool.and_eq_true] at f;rcases List.mem_cons.mp hu with rfl|hu
  ·rw[jzt r f.1];exact jEp r rx f.1 fx
  ·exact jjd rx fx t f.2 u' hu
def inV(x:V)(xs:List V):Bool:=xs.any fun y=>eqV y x
def rIn(K:W.Frag)(neg:Bool):R2:=fun x y H Q=>∃ p xs,y=.ref p/\(SqL K H p xs\/SqT K H p xs)/\jmf x=true/\xs.all jmf=true/\Q (.bl (if neg then !inV x xs else inV x xs)) H
def jfr:OpR X (compareOp .In) (rIn X.K false):=by
 intro U s Z H x y v u Q I rx ry h;obtain⟨p,xs,rfl,hq,fx,fs,q⟩:=h;cases ry;rcases hq with hq|hq
 ·obtain⟨its,r,pl,hz⟩:=I.list hq;refine SeqAt.in_listAt (eqU x) pl.isList (fun w hw=>jjd rx fx r fs w (by simpa using hw)) ⟨.bl _,H,I,rfl,?_⟩;rw[show its.toArray.any (eqU x)=its.any (eqU x) by simp,jkv r fs];exact q
 ·obtain⟨its,r,pl,hz⟩:=I.tuple hq;refine SeqAt.in_tupleAt (eqU x) pl (fun w hw=>jjd rx fx r fs w (by simpa using hw)) ⟨.bl _,H,I,rfl,?_⟩;rw[show its.toArray.any (eqU x)=its.any (eqU x) by simp,jkv r fs];exact q
def jj9:OpR X (compareOp .NotIn) (rIn X.K true):=by
 intro U s Z H x y v u Q I rx ry h;obtain⟨p,xs,rfl,hq,fx,fs,q⟩:=h;cases ry;rcases hq with hq|hq
 ·obtain⟨its,r,pl,hz⟩:=I.list hq;refine SeqAt.notIn_listAt (eqU x) pl.isList (fun w hw=>jjd rx fx r fs w (by simpa using hw)) ⟨.bl _,H,I,rfl,?_⟩;rw[show its.toArray.any (eqU x)=its.any (eqU x) by simp,jkv r fs];exact q
 ·obtain⟨its,r,pl,hz⟩:=I.tuple hq;refine SeqAt.notIn_tupleAt (eqU x) pl (fun w hw=>jjd rx fx r fs w (by simpa using hw)) ⟨.bl _,H,I,rfl,?_⟩;rw[show its.toArray.any (eqU x)=its.any (eqU x) by simp,jkv r fs];exact q
def call_len_seq:CallR X (.builtin "len") (fun xs H Q=>∃ p ys,xs=[.ref p]/\(SqL X.K H p ys\/SqT X.K H p ys)/\Q (.int ys.length) H):=by
 intro U s Z H xs us Q I r h;obtain⟨p,ys,rfl,hq,q⟩:=h;obtain⟨u,rfl,rx⟩:=jtz r;cases rx;have hn:=jmq;rcases hq with hq|hq
 ·obtain⟨its,r',pl,hz⟩:=I.list hq;have hlen:=r'.length;exact Calls.call_len_list pl.isList (by simp only[zbx]<;>omega) ⟨.int ys.length,H,I.tok _,⟨s.toks+1,by rw[zbx,hlen]⟩,q⟩
 ·obtain⟨its,r',pl,hz⟩:=I.tuple hq;have hlen:=r'.length;exact len_tuple pl (by simp only[zbx]<;>omega) ⟨.int ys.length,H,I.tok _,⟨s.toks+1,by rw[zbx,hlen]⟩,q⟩
def jo0:CallR X (.builtin "len") (fun xs H Q=>∃ z,xs=[.str z]/\z.length<=sizeLine/\Q (.int z.length) H):=by
 intro U s Z H xs us Q I r h;obtain⟨z,rfl,hz,q⟩:=h;obtain⟨u,rfl,t,rfl⟩:=jtz r;have hn:=jmq;exact len_str (by omega) ⟨.int z.length,H,I.tok _,⟨_,rfl⟩,q⟩
def CallR.or{f:Value}{r r':List V->Hp->VK->Prop}(h:CallR X f r)(h':CallR X f r'):CallR X f (fun xs H Q=>r xs H Q\/r' xs H Q):=by
 intro U s Z H xs us Q I rs q;rcases q with q|q
 ·exact h U s Z H xs us Q I rs q
 ·exact h' U s Z H xs us Q I rs q
def jb5:CallR X (.type "tuple") (fun xs H Q=>∃ p ys,xs=[.ref p]/\((SqL X.K H p ys/\∀ l,H l=none->Q (.ref l) (upd H l (.tup ys)))\/(SqT X.K H p ys/\Q (.ref p) H))):=by
 intro U s Z H xs us Q I r h;obtain⟨p,ys,rfl,h⟩:=h;obtain⟨u,rfl,rx⟩:=jtz r;cases rx;rcases h with ⟨hq,q⟩|⟨hq,q⟩
 ·obtain⟨its,r',pl,hz⟩:=I.list hq;have hlen:=r'.length;refine call_tuple_list pl.isList (fun h' kp=>?_) (by simp only[zbx]<;>omega);have I1:Inv X U Z H { s with heap:=h' }:=I.kept (t':=s.toks) kp;have I2:Inv X U Z (upd H h'.objs.size (.tup ys)) { s with heap:=h'.push { cls:=.type "tuple",data:=.seq its.toArray } } :=
   I1.laid (t':=s.toks) (fun b o e=>zaz _ e) (zac _) (show ObjOk X.prog X.w _ _ _ (.tup ys) from ⟨hz,its,r',IsTup.new _ _⟩)
  exact⟨.ref h'.objs.size,_,I2,rfl,q _ (I1.hok.fresh (zac _))⟩
 ·obtain⟨its,r',pl,hz⟩:=I.tuple hq;exact call_tuple_same pl ⟨.ref p,H,I,rfl,q⟩
def tyV(K:W.Frag)(T:String)(x:V)(H:Hp):Prop:=match x with
 | .str _=>T="str"
 | .int _=>T="int"
 | .ref p=>(T="list"/\∃ xs,SqL K H p xs)\/(T="tuple"/\∃ o,K.lookup p=some o/\o.cls=.type "tuple"/\o.dict=none) \/
   (T="dict"/\((∃ kvs,H p=some (.dK kvs))\/∃ kvs,H p=some (.dT kvs)))
 | _=>False
def jAs{U:qb}{Z:St}{H:Hp}{s:Shared}{T:String}{x:V}{v:Value}(I:Inv X U Z H s)(r:RelV x v)(ty:tyV X.K T x H) :
  s.TypeIs v T/\∀ a,v=.ref a->∃ ob,s.heap.get? a=some ob/\ob.dict=none:=by
 cases x with
 | str z =>
  obtain⟨t,rfl⟩:=r;cases (show T="str" from ty);exact⟨typeIs_str s z t,fun _ e=>nomatch e⟩
 | int i =>
  obtain⟨t,rfl⟩:=r;cases (show T="int" from ty);exact⟨typeIs_int s i t,fun _ e=>nomatch e⟩
 | ref p =>
  cases r;rcases ty with ⟨rfl,xs,hq⟩|⟨rfl,o,hk,hc,hd⟩|⟨rfl,hk⟩
  ·obtain⟨its,_,pl,_⟩:=I.list hq;refine⟨pl.isList.typeIs,fun a e=>?_⟩;cases e;obtain⟨o,n,e,c,hd,_⟩:=pl;exact⟨o,e,hd⟩
  ·refine⟨⟨o,I.kIn p o hk,hc⟩,fun a e=>?_⟩;cases e;exact⟨o,I.kIn _ o hk,hd⟩
  ·have z:∃ o,s.heap.get? p=some o/\o.ExactDict:=by
    rcases hk with ⟨kvs,hk⟩|⟨kvs,hk⟩
    ·obtain⟨_,_,_,_,o,_,_,e,ex,_⟩:=I.hok p _ hk;exact⟨o,e,ex⟩
    ·obtain⟨_,_,_,_,o,_,_,e,ex,_⟩:=I.hok p _ hk;exact⟨o,e,ex⟩
   obtain⟨o,e,ex⟩:=z;refine⟨⟨o,e,ex.1⟩,fun a e2=>?_⟩;cases e2;exact⟨o,e,ex.2.1⟩
 | _=>exact False.elim ty
def tBM0(K:W.Frag)(T:String)(r:V->List V->Hp->VK->Prop)(to:TE):TE:=fun Z H Q=>to Z H fun x H1=>tyV K T x H1/\r x [] H1 Q
def tBM(K:W.Frag)(T:String)(r:V->List V->Hp->VK->Prop)(to:TE)(t:TA):TE:=fun Z H Q=>to Z H fun x H1=>tyV K T x H1/\t Z H1 fun xs H2=>r x xs H2 Q
variable {o e:Expr}{es:List Expr}{to:TE}{t:TA}{name:Str}{apos cpos:Pos}{T id:String}{r:V->List V->Hp->VK->Prop}
def jFy(pa:PlainAttrs T)(slot:Slot T name id)(hty:typeOf (.builtin id)=pure (.type "method_descriptor"))(hm:MtR X id r)(ho:PE X o to)
  (hbase:attributeBase o name X.env (eval o X.env)=eval o X.env:=by rfl) (hline:(apos.endLine == cpos.line)=true:=by rfl):PE X (.Call (.Attribute o name apos) [] [] cpos) (tBM0 X.K T r to):=by
 intro U s Z H Q I h;refine wpAny_Call_method0_late hbase hline (thn (ho U s Z H _ I h) fun v s1 hzz=>?_);obtain⟨x,H1,I1,r1,ty,q1⟩:=hzz;obtain⟨h1,h2⟩:=jAs I1 r1 ty;exact⟨T,id,pa,slot,hty,h1,h2,Calls.callWith_builtin rfl (PySem.evalArgs_none (hm U s1 Z H1 x [] v [] Q I1 r1 .nil q1))⟩
def jFx(pa:PlainAttrs T)(slot:Slot T name id)(hty:typeOf (.builtin id)=pure (.type "method_descriptor"))(hm:MtR X id r)(ho:PE X o to)(ha:PA X (e::es) t)
  (hbase:attributeBase o name X.env (eval o X.env)=eval o X.env:=by rfl)
  (hfew:((backTo cpos (starEach (e::es) X.env)).all (fun x=>!x.1)&&(backToKw cpos (keywordEach [] X.env)).all (fun x=>x.1.isSome)
   && decide ((e::es).length+([]:List Keyword).length+(if ([]:List Keyword).isEmpty then 0 else 1)<30))=true:=by rfl)
  (hline:(apos.endLine == cpos.line)=true:=by rfl) (hs:zsE e es X.env:=by rfl) (hplain:(backTo cpos (starEach es X.env)).any (·.1)=false:=by rfl) :
  PE X (.Call (.Attribute o name apos) (e::es) [] cpos) (tBM X.K T r to t):=by
 intro U s Z H Q I h;refine wpAny_Call_method_late hbase hfew hline rfl (thn (ho U s Z H _ I h) fun v s1 hzz=>?_);obtain⟨x,H1,I1,r1,ty,q1⟩:=hzz;obtain⟨h1,h2⟩:=jAs I1 r1 ty;refine⟨T,id,pa,slot,hty,h1,h2,?_⟩;have hA:=ha cpos U s1 Z H1 _ I1 q1;rw[hs] at hA |-
 refine Calls.callWith_builtin (by show (false || (backTo cpos (starEach es X.env)).any (·.1))=false;rw[hplain]<;>rfl) (Calls.evalArgs_plain ?_);exact thn hA fun us s2 ⟨vs,H2,I2,r2,q2⟩=>hm U s2 Z H2 x vs v us Q I2 r1 r2 q2
end
def MtM(X:Cx)(id:String)(r:V->List V->Hp->VK->Prop):Prop :=
 ∀ (U:qb) (s:Shared) (Z:St) (H:Hp) (x:V) (xs:List V) (v:Value) (us:List Value) (Q:VK),Inv X U Z H s->RelV x v->Vals xs us->r x xs H Q ->
  wpAny (model X.prog X.w) X.A (call (.builtin id) (v::us)) (EP X U Z Q) X.xe s
def Vals.one:∀ {x:V} {us:List Value},Vals [x] us->∃ u,us=[u]/\RelV x u
 | _,_,.cons r .nil=>⟨_,rfl,r⟩
def Vals.two:∀ {x y:V} {us:List Value},Vals [x,y] us->∃ u v,us=[u,v]/\RelV x u/\RelV y v
 | _,_,_,.cons r (.cons q .nil)=>⟨_,_,rfl,r,q⟩
def Vals.zero:∀ {us:List Value},Vals [] us->us=[]
 | _,.nil=>rfl
theorem Vals.dropLast{xs:List V}{us:List Value}(h:Vals xs us):Vals xs.dropLast us.dropLast:=by
 induction h with
 | nil=>exact .nil
 | cons r t ih =>
  cases t with
  | nil=>exact .nil
  | cons q t'=>exact .cons r ih
theorem Vals.rep{xs:List V}{us:List Value}(h:Vals xs us):∀ k:Nat,Vals (List.replicate k xs).flatten (List.replicate k us).flatten
 | 0=>.nil
 | k+1=>by
  rw[List.replicate_succ,List.replicate_succ,List.flatten_cons,List.flatten_cons];exact Vals.append h (Vals.rep h k)
def jtb{α:Type}(l:List α):l.eraseIdx (l.length-1)=l.dropLast:=by
 induction l with
 | nil=>rfl
 | cons a r ih =>
  cases r with
  | nil=>rfl
  | cons b r =>
   have e:(a::b::r).length-1=((b::r).length-1)+1:=by
    have h1:(a::b::r).length=r.length+2:=rfl;have h2:(b::r).length=r.length+1:=rfl;omega
   rw[e,List.eraseIdx_cons_succ,ih]
   all_goals rfl
theorem jk2(its:List Value):∀ (k:Nat) (acc:List Value),
  List.foldl (fun x1 x2=>x1++x2) acc.toArray (List.replicate k its.toArray)=(acc++(List.replicate k its).flatten).toArray
 | 0,acc=>by simp
 | k+1,acc=>by
  have e:acc.toArray++its.toArray=(acc++its).toArray:=by simp
  have e2:(acc++its)++(List.replicate k its).flatten=acc++(List.replicate (k+1) its).flatten:=by
   rw[List.replicate_succ,List.flatten_cons,List.append_assoc]
  rw[<- e2,<- jk2 its k (acc++its),<- e,List.replicate_succ,List.foldl_cons]
section
variable {X:Cx}{U:qb}{Z:St}{H:Hp}{s:Shared}{l:Addr}{xs ys:List V}
def Inv.lset{its its':List Value}{n:Nat}{f:Array Value->Array Value}{t':Nat}(I:Inv X U Z H s)(hH:H l=some (.lst xs))
  (e:s.heap.get? l=some { cls:=.type "list",data:=.seq its.toArray n }) (hf:f its.toArray=its'.toArray) (hv:Vals ys its') (hz:ys.length<=sizeLine) :
  Inv X U Z (upd H l (.lst ys)) { s with heap:=s.heap.update l (Obj.mapSeq f),toks:=t' }:=by
 have q:=PySem.IsL.update e f;rw[hf] at q;refine I.write (x:=l) (e:=l) (by rw[hH];exact trivial) (.inl rfl) (fun b' u hb hu=>(Heap.get?_update_other s.heap (Obj.mapSeq f) (Ne.symm hb)).trans hu) ⟨_,q⟩ ?_;exact⟨hz,its',_,hv,q⟩
def Inv.lnew{its:List Value}{t':Nat}(I:Inv X U Z H s)(hv:Vals ys its)(hz:ys.length<=sizeLine) :
  Inv X U Z (upd H s.heap.objs.size (.lst ys)) { s with heap:=s.heap.push { cls:=.type "list",data:=.seq its.toArray },toks:=t' } :=
 I.laid (fun _ _ q=>zaz _ q) (zac _) ⟨hz,its,0,hv,zbz _ rfl⟩
def Inv.fresh(I:Inv X U Z H s):H s.heap.objs.size=none:=I.hok.fresh (zac _)
def Inv.lstM(I:Inv X U Z H s)(hH:H l=some (.lst xs)):xs.length<=sizeLine/\∃ (its:List Value) (n:Nat),Vals xs its/\xs.length=its.length/\s.heap.get? l=some { cls:=.type "list",data:=.seq its.toArray n }:=by
 obtain⟨z,its,n,r,e⟩:=I.hok l _ hH;exact⟨z,its,n,r,r.length,e⟩
def jye{n:Nat}(h:n<=sizeLine):Builtin.List.listTooLong n=false:=by
 unfold Builtin.List.listTooLong;exact decide_eq_false (by omega)
end
section
variable {X:Cx}
def jC5:V->List V->Hp->VK->Prop:=fun x vs H Q=>∃ l xs y,x=.ref l/\vs=[y]/\H l=some (.lst xs)/\xs.length<sizeLine/\Q .non (upd H l (.lst (xs++[y])))
def jlf:MtM X "list.append" jC5:=by
 intro U s Z H x vs v us Q I rx rv h;obtain⟨l,xs,y,rfl,rfl,hH,hz,q⟩:=h;cases rx;obtain⟨u,rfl,ru⟩:=rv.one;obtain⟨z,its,n,r,hl,e⟩:=I.lstM hH;refine call_meets F.slot_list_append ⟨_,e,rfl⟩ F.entry_list_append (F.args_list_append_2 _ _) (PySem.list_append l its.toArray n u (by rw[zbx];omega)) ⟨e,?_⟩;refine⟨.non,_,I.lset (its':=its++[u]) hH e (by simp) (r.append (.cons ru .nil)) ?_,rfl,q⟩;rw[zcb,List.length_singleton];omega
def rPop:V->List V->Hp->VK->Prop:=fun x vs H Q=>∃ l xs y,x=.ref l/\vs=[]/\H l=some (.lst xs)/\xs[xs.length-1]? = some y/\Q y (upd H l (.lst xs.dropLast))
def jFp:MtM X "list.pop" rPop:=by
 intro U s Z H x vs v us Q I rx rv h;obtain⟨l,xs,y,rfl,rfl,hH,hy,q⟩:=h;cases rx;have hus:=rv.zero;subst hus;obtain⟨z,its,n,r,hl,e⟩:=I.lstM hH;obtain⟨u,hu,ru⟩:=r.get hy;have hy':its.toArray[its.toArray.size-1]? = some u:=by
  show its.toArray[its.length-1]? = some u;rw[<- Array.getElem?_toList,<- hl];exact hu
 refine call_meets F.slot_list_pop ⟨_,e,rfl⟩ F.entry_list_pop (F.args_list_pop_1 _) (MeetsSeq.list_pop_last l its.toArray n u hy' (by rw[zbx];omega)) ⟨e,?_⟩;refine⟨y,_,I.lset (its':=its.dropLast) hH e ?_ r.dropLast ?_,ru,q⟩
 ·show its.toArray.eraseIdxIfInBounds (its.toArray.size-1)=its.dropLast.toArray;rw[zbx,List.eraseIdxIfInBounds_toArray,jtb]
 ·rw[List.length_dropLast];omega
def rRep:R2:=fun x y H Q=>∃ l k xs,x=.ref l/\y=.int k/\H l=some (.lst xs)/\-(2 ^ 63)<=k/\k<2 ^ 63/\xs.length*k.toNat<=sizeLine /\
 ∀ p,H p=none->Q (.ref p) (upd H p (.lst (List.replicate k.toNat xs).flatten))
def ju7{α:Type}(xs:List α)(k:Nat):(List.replicate k xs).flatten.length=k*xs.length:=by
 induction k with
 | zero=>simp
 | succ k ih=>rw[List.replicate_succ,List.flatten_cons,zcb,ih,Nat.succ_mul,Nat.add_comm]
def jFw:OpR X (binaryOp .Mult) rRep:=by
 intro U s Z H x y v u Q I rx ry h;obtain⟨l,k,xs,rfl,rfl,hH,h1,h2,hz,q⟩:=h;cases rx;obtain⟨t,rfl⟩:=ry;obtain⟨z,its,n,r,hl,e⟩:=I.lstM hH;have hlen:its.toArray.size*k.toNat<=sizeLine:=by rw[zbx,<- hl];exact hz
 have hcap:¬ its.toArray.size*k.toNat > (2 ^ 63-1) / 8:=by
  have:(sizeLine:Nat)<=(2 ^ 63-1) / 8:=by decide
  omega
 have hfit:¬ (!Builtin.List.listFitsIndex k)=true:=by
  rw[fitsIndex_both h1 h2];exact Bool.false_ne_true
 have hlong:¬ Builtin.List.listTooLong (its.toArray.size*k.toNat)=true:=by
  rw[jye hlen];exact Bool.false_ne_true
 have hnew:List.foldl (fun x1 x2=>x1++x2) #[] (List.replicate (if its.toArray.isEmpty=true then 0 else k.toNat) its.toArray)=(List.replicate k.toNat its).flatten.toArray:=by
  have f0:∀ m:Nat,List.foldl (fun x1 x2=>x1++x2) #[] (List.replicate m its.toArray)=(List.replicate m its).flatten.toArray:=fun m=>by
   have:=jk2 its m [];rw[List.nil_append] at this;exact this
  rw[f0]
  cases its with
  | nil=>simp
  | cons a r'=>rw[if_neg (by simp)]
 refine wpAny_binaryOp_repeat_ref (T:="list") (U:="int") (by decide) ⟨_,e,rfl⟩ (fun s'=>typeIs_int s' k t) noFill_list_mul F.fills_int_mul F.slot_int_rmul repeat_list F.slot_int_index.lookup
  (call_meets F.slot_int_rmul (typeIs_int s k t) F.entry_int_rmul (F.args_int_rmul_2 _ _) (int___rmul___int_list k t l its.toArray n)
   ⟨e,rfl,⟨_,e,rfl⟩,call_meets F.slot_list_mul ⟨_,e,rfl⟩ F.entry_list_mul (F.args_list_mul_2 _ _) (AutoListH.list___mul___list_int_3 l its.toArray n k t hfit hcap hlong) ⟨e,?_⟩⟩)
 rw[hnew];exact⟨.ref _,_,I.lnew (t':=s.toks) (r.rep k.toNat) (by rw[ju7,Nat.mul_comm];exact hz),rfl,q _ I.fresh⟩
end
section
end
section
end
end L2
namespace Att
open PySem PySem.W PySem.Calls PyProof.Rows
def jk7{P:Params}{h:Heap}:∀ (ns:List Int) (vs:List Value),WellAll P h vs (ns.map WData.int)->IntsAre vs ns:=by
 intro ns
 induction ns with
 | nil =>
  intro vs w;rw[List.map_nil] at w;cases w;exact .nil
 | cons n ns ih =>
  intro vs w;rw[List.map_cons] at w
  cases w with
  | cons a b =>
   cases a;exact .cons _ _ (ih _ b)
def jwt{l:OpenLaw}{n:Nat}(hn:l.most=some n){P:Params}{h:Heap}{args:List WData}{vals:List Value}
  (hpre:l.row.toRowW.claim.pre args=true) (hwl:WellAll P h vals args) :
  ∃ a vs ns,vals=[Value.ref a]/\args=[WData.list (ns.map WData.int)]/\h.get? a=some { cls:=.type "list",data:=.seq vs.toArray }/\IntsAre vs ns/\ns.length<=n:=by
 have hsh:WShape.hasAll [] args [.list .int]=true:=(pre_splitW hpre).1;have hc:l.pre.holds [] { args:=args }=true:=(pre_splitW hpre).2;obtain⟨d,r,rfl,h1,h2⟩:=hasAllW_cons hsh;obtain rfl:=hasAllW_nil h2;obtain⟨xs,rfl,h3⟩:=hasW_list h1;obtain⟨ns,rfl⟩:=items_int h3;have hlen:ns.length<=n:=by
  unfold OpenLaw.pre at hc;have h4:(WTm.not (.lt (.lit (.int (n:Int))) (.len (.arg 0)))).holds [] { args:=[.list (ns.map .int)] }=true:=by
   have h4:=(holds_andW hc).1;rw[hn] at h4;exact h4
  have h5:=condW_of h4 (w_not (w_lt w_lit (w_len_list (w_arg rfl))));rw[zav] at h5;refine Nat.le_of_not_lt fun q=>?_
  have q':(n:Int)<((ns.length:Nat):Int):=by omega
  first
   | (rw[decide_eq_true q'] at h5;exact absurd h5 (by decide))
   | (simp at h5;omega)
 cases hwl with
 | cons w1 w2 =>
  cases w2
  cases w1 with
  | list ho hall=>exact⟨_,_,ns,rfl,rfl,ho,jk7 ns _ hall,hlen⟩
def jv5(l:OpenLaw)(args:List WData):l.row.toRowW.claim.post args (.bool true) args=true :=
 postW_of (r:=l.row.toRowW) (X:=(true == true))
  (show WShape.has [] (.bool true) .bool=true by first|rfl|decide|simp[WShape.has,WShape.arms,WShape.armsAll])
  (show (WTm.eq .res (.lit (.bool true))).value [] { args:=args,res:=some (.bool true),after:=args }=some (.bool (true == true)) from w_eq_bool (w_res rfl) w_lit) rfl
def attach_call{l:OpenLaw}{n:Nat}{q:Program}{loose:List Str}{XP:(qa)->Heap->Prop}{YP:World->Heap->Prop}{d:DefRec}
  (hn:l.most=some n) (hdf:d.params.defaults=[])
  (call:∀ (w:World) (s₀ s₁:Shared) (mg mb:qa) (fa:Addr) (o:Obj) (pm cd doc:Value) (a:Addr) (vs:List Value) (ns:List Int),
   Ground q loose [] XP w s₀ mg mb s₁.heap->YP w s₁.heap ->
   s₁.heap.get? fa=some o->o.data=.func (docDef d.name d.params d.body d.scope pm cd doc)->s₁.heap.CodeRec cd d.name->mg d.name=some (.ref fa) ->
   s₁.heap.get? a=some { cls:=.type "list",data:=.seq vs.toArray }->IntsAre vs ns->ns.length<=n->s₁.gens=#[] ->
   codeAny (model l.prog w) callerA (.call (.ref fa) ⟨[.ref a],[]⟩) (fun r s'=>r=.ok (.ret (.bool true))/\OldK s₁.heap s'.heap/\s'.os=s₁.os/\AllBare s'.gens) s₁) :
  WalkO q loose XP YP l.row.toRowW d [] (fun f vs=>PySem.call f vs):=by
 intro w s₀ s₁ mg mb G Yq fa o pm cd doc dV kV ho hd hcd hD hmg hg args vals as hpre hlay hrd hwl hlo;obtain rfl:dV=.none:=Dflts.none hD hdf;obtain rfl:kV=.none:=Dflts.noKw hD;obtain⟨a,vs,ns,rfl,rfl,hobj,hints,hlen⟩:=jwt hn hpre hwl;refine enter_call (codeAny_mono (call w s₀ s₁ mg mb fa o pm cd doc a vs ns G Yq ho (fd_plain hd) hcd hmg hobj hints hlen hg) fun r s' hq=>?_);obtain⟨rfl,h2,h3,h4⟩:=hq;exact⟨.inl ⟨.bool true,.bool true,[],rfl,fun _=>rfl,.bool true,jv5 l _,fun _=>⟨List.Pairwise.nil,fun _ hm=>(nomatch hm)⟩⟩,h2,h3,h4⟩
section
end
end Att
namespace L2
open PyProof.Rows
theorem jqa:∀ {vs:List Value} {ns:List Int},IntsAre vs ns->Vals (ns.map V.int) vs
 | _,_,.nil=>.nil
 | _,_,.cons n t h=>.cons ⟨t,rfl⟩ (jqa h)
def Only(H:Hp):Prop:=∀ b,H b=none\/∃ o xs,H b=some (.frz o (.lst xs))
def jx0{P:Program}{w:World}{K:W.Frag}{mg mb:qa}{CX:CXT}{k:Nat}{fa a:Addr}{fd:FuncData}{x:Str}{sp:Sp}{s₁:Shared}{vs:List Value}{ns:List Int}
  (KX:K.In s₁.heap) (hns:s₁.heap.Ns mainGlobals mg) (hb:s₁.heap.Ns builtinsNs mb) (hbb:∀ x:Str,x≠"__name__"->mb x=bootBuiltins x) (hlim:s₁.heap.NoLimit) (hg:s₁.gens=#[])
  (ha:s₁.heap.get? a=some { cls:=.type "list",data:=.seq vs.toArray }) (hi:IntsAre vs ns) (hl:ns.length<=sizeLine) (hr:Room k callerA)
  (F:∀ base:Heap,K.In base->base.Ns mainGlobals mg->FnOk P w K mg base CX k fa fd [x] sp) (hbind:∀ (s:Shared) (u:Value),BindsTo s fd ⟨[u],[]⟩ [(x,u)])
  (hsp:∀ H:Hp,Only H->SqL K H a (ns.map V.int)->sp [.ref a] H (fun v _=>v=.bl true) fun _ _ _=>False)
  (hCX:∀ H e s',CX [] H s₁ (fun _ _ _=>False) e s'->False) :
  codeAny (model P w) callerA (.call (.ref fa) ⟨[.ref a],[]⟩) (fun r s'=>r=.ok (.ret (.bool true))/\OldK s₁.heap s'.heap/\s'.os=s₁.os/\AllBare s'.gens) s₁:=by
 have rv:=jqa hi;have lenV:=hi.length;have core:∀ H:Hp,Only H->SqL K H a (ns.map V.int)->HOk P w H s₁.heap->(∀ b,H b≠none->b=a)->(H a≠none->K.lookup a=none) ->
   codeAny (model P w) callerA (.call (.ref fa) ⟨[.ref a],[]⟩) (fun r s'=>r=.ok (.ret (.bool true))/\OldK s₁.heap s'.heap/\s'.os=s₁.os/\AllBare s'.gens) s₁:=by
  intro H hO hS hok hA hK;have base_of:∀ {b:Addr} {o:Obj},s₁.heap.get? b=some o->H b=none->(hidT s₁.heap H).get? b=some o:=fun e n=>jxt e n
  have noA:∀ {b:Addr} {o:Obj} {es:Array DictEntry} {ep:Nat},s₁.heap.get? b=some o->o.data=.dict es ep->H b=none:=fun {b o es ep} e d=>by
   cases q:H b with
   | none=>rfl
   | some u =>
    have e':b=a:=hA b (by rw[q];simp);subst e';rw[ha] at e;cases e
    have d':Data.seq vs.toArray _=Data.dict es ep:=d;cases d'
  have nsK:∀ {b:Addr} {m:qa},s₁.heap.Ns b m->(hidT s₁.heap H).Ns b m:=fun {b m} ⟨o,es,ep,e,d,r⟩=>⟨o,es,ep,base_of e (noA e d),d,r⟩
  have hKb:K.In (hidT s₁.heap H):=fun b o e=>base_of (KX b o e) (by
   cases q:H b with
   | none=>rfl
   | some u =>
    have e':b=a:=hA b (by rw[q];simp);subst e';rw[hK (by rw[q];simp)] at e;cases e)
  have hM:Mod K mg (hidT s₁.heap H):=⟨hKb,nsK hns,⟨mb,nsK hb,hbb⟩,let ⟨mc,h1,h2⟩:=hlim;⟨mc,nsK h1,h2⟩⟩
  have e0:Env0 P w K mg (hidT s₁.heap H) callerA [] s₁ H:=⟨rfl,hM,fun b o e=>jCl e,Nat.le_of_eq (juy _ _),trivial,fun b hb=>absurd (show b∈([]:List Addr) from hb) (by simp),hok,.of_eq hg⟩
  refine codeAny_mono ((F _ hKb (nsK hns)).run callerA [] s₁ H ⟨[.ref a],[]⟩ [.ref a] [.ref a] _ _ hr e0 (hbind s₁ (.ref a)) (.cons rfl .nil) (hsp H hO hS)) fun r s' h=>?_
  cases r with
  | error e=>exact (hCX H e s' h).elim
  | ok fl =>
   cases fl with
   | next=>exact False.elim h
   | brk=>exact False.elim h
   | cont=>exact False.elim h
   | ret u =>
    obtain⟨v,H',os,bare,un,hok',r',q⟩:=h;have q':v=.bl true:=q;subst q';obtain rfl:u=Value.bool true:=r';refine⟨rfl,OldK.of_keep fun b o e=>?_,os,bare⟩
    cases q:H b with
    | none=>exact un.keep b o e q (by intro z;exact absurd (show b∈([]:List Addr) from z) (by simp)) (by simp)
    | some u =>
     rcases hO b with z|⟨ob,xs,z⟩
     ·rw[q] at z;cases z
     ·have z2:=un.frzs b ob _ z;obtain⟨e1,_⟩:=hok b _ z;obtain⟨e2,_⟩:=hok' b _ z2;rw[e] at e1;cases e1
      exact e2
 cases hk:K.lookup a with
 | some o =>
  have e:=KX a o hk;rw[ha] at e;cases e;refine core (fun _=>none) (fun _=>.inl rfl) (.inr ⟨_,vs.toArray,_,hk,rfl,rfl,rfl,by rw[zbx,lenV];exact hl,by simpa using rv⟩) (fun b u z=>by have z':(none:Option HO)=some u:=z;cases z') (fun b z=>absurd rfl z) fun z=>absurd rfl z
 | none =>
  refine core (fun b=>if b=a then some (.frz { cls:=.type "list",data:=.seq vs.toArray } (.lst (ns.map V.int))) else none) (fun b=>?_) (.inl (.inr ⟨{ cls:=.type "list",data:=.seq vs.toArray },if_pos rfl⟩)) (fun b u z=>?_) (fun b z=>?_) fun _=>hk
  ·by_cases hb:b=a
   ·exact .inr ⟨_,_,if_pos hb⟩
   ·exact .inl (if_neg hb)
  ·by_cases hb:b=a
   ·have z':=(if_pos hb).symm.trans z;cases z';subst hb;exact⟨ha,by rw[zav];exact hl,vs,_,rv,ha⟩
   ·have z':=(if_neg hb).symm.trans z;cases z'
  ·by_cases hb:b=a
   ·exact hb
   ·exact absurd (if_neg hb) z
def walk_of{l:W.OpenLaw}{n k:Nat}{q:Program}{loose:List Str}{XP:(qa)->Heap->Prop}{YP:World->Heap->Prop}{d:DefRec}{K:Params->W.Frag}{CX:World->CXT}{sp:World->Sp}{x:Str}
  (hn:l.most=some n) (hn2:n<=sizeLine) (hdf:d.params.defaults=[]) (hr:Room k callerA)
  (hY:∀ (w:World) (h:Heap),YP w h->(K w.params).In h)
  (F:∀ (w:World) (mg:qa) (fa:Addr) (h:Heap),(K w.params).In h->h.Ns mainGlobals mg->mg d.name=some (.ref fa) ->
   ∃ fd:FuncData,(∀ (s:Shared) (u:Value),BindsTo s fd ⟨[u],[]⟩ [(x,u)]) /\
    ∀ base:Heap,(K w.params).In base->base.Ns mainGlobals mg->FnOk l.prog w (K w.params) mg base (CX w) k fa fd [x] (sp w))
  (hsp:∀ (w:World) (H:Hp) (a:Addr) (ns:List Int),ns.length<=n->Only H->SqL (K w.params) H a (ns.map V.int)->sp w [.ref a] H (fun v _=>v=.bl true) fun _ _ _=>False)
  (hCX:∀ (w:World) (H:Hp) (s:Shared) (e:Value) (s':Shared),CX w [] H s (fun _ _ _=>False) e s'->False) :
  W.WalkO q loose XP YP l.row.toRowW d [] (fun f vs=>PySem.call f vs):=by
 refine Att.attach_call hn hdf fun w s₀ s₁ mg mb fa o pm cd doc a vs ns G Yq ho hd hcd hmg hobj hints hlen hg=>?_
 have KX:=hY w _ Yq;obtain⟨fd,hb,hF⟩:=F w mg fa _ KX G.T.g hmg;exact jx0 KX G.T.g G.T.b G.T.builtins G.T.nolimit hg hobj hints (zdx hlen hn2) hr hF hb (fun H hO hS=>hsp w H a ns hlen hO hS) fun H e s'=>hCX w H s₁ e s'
def jbp(s:Stmt):Arguments:=match s with
 | .FunctionDef _ a _ _ _ _ _ _ _ _=>a
 | _=>{ posonlyargs:=[],args:=[],vararg:=none,kwonlyargs:=[],kw_defaults:=[],kwarg:=none,defaults:=[] }
def jaw(s:Stmt):List Stmt:=match s with
 | .FunctionDef _ _ b _ _ _ _ _ _ _=>b
 | _=>[]
def jad(s:Stmt):Scope:=match s with
 | .FunctionDef _ _ _ _ _ _ sc _ _ _=>sc
 | _=>{ kind:=.function,names:=[],isGenerator:=false,isCoroutine:=false }
abbrev CX0:CXT:=fun _ _ _ _ _ _=>False
abbrev E0:XK:=fun _ _ _=>False
structure Fun(K:W.Frag)(x qual:Str)(st:Stmt)(f:Addr)(fd:FuncData):Prop where
 ex:∃ (oc:Value) (od:Option Addr) (kV doc pm:Value) (an:Option Addr) (cdv ct:Value) (osl:qe),
  fd=W.fnOf x qual (jbp st) (jaw st) (jad st) .none kV doc pm an cdv ct/\K.lookup f=some ⟨oc,od,.func fd,osl⟩/\W.codeIn K cdv qual=true
 kp:W.keepIn K (.ref f)=true
section
variable {P:Program}{w:World}{K:W.Frag}{mg:qa}{base:Heap}
def Fun.ok{x qual:Str}{st:Stmt}{f:Addr}{fd:FuncData}{N ps:List Str}{k:Nat}{sp:Sp}(F:Fun K x qual st f fd)(S:FnScope N ps (jad st))(len:∀ vs H Q E,sp vs H Q E->vs.length=ps.length)
  (hbody:∀ (cdv:Value) (A:Around) (outer:List Env) (s:Shared) (H:Hp) (vs:List V) (Q:VK) (E:XK),Room k (A.deeper (envOfC qual (jad st) s.heap.objs.size f cdv))->sp vs H Q E ->
   ∃ t,PSs (cxOf CX0 P w K mg base N qual (jad st) f cdv A outer s H E).nox (jaw st) t/\t { nx:=fun _ H'=>Q .non H',rt:=Q } (start N vs) H):FnOk P w K mg base CX0 (k+1) f fd ps sp:=by
 obtain⟨oc,od,kV,doc,pm,an,cdv,ct,osl,rfl,lk,hcd⟩:=F.ex;refine jEr lk hcd S len fun A outer s H vs Q E hr hsp=>?_
 obtain⟨t,h,q⟩:=hbody cdv A outer s H vs Q E hr hsp;exact⟨t,h.nox,q⟩
def Fun.binds{x qual:Str}{st:Stmt}{f:Addr}{fd:FuncData}{ps:List Str}(F:Fun K x qual st f fd)
  (h:∀ (kV doc pm:Value) (an:Option Addr) (cdv ct:Value) (us:List Value),us.length=ps.length->bindArgs (W.fnOf x qual (jbp st) (jaw st) (jad st) .none kV doc pm an cdv ct) ⟨us,[]⟩=pure (ps.zip us)):Binds K fd ps []:=by
 obtain⟨oc,od,kV,doc,pm,an,cdv,ct,osl,rfl,lk,hcd⟩:=F.ex;exact .all (h kV doc pm an cdv ct)
def jr1{x qual:Str}{st:Stmt}{f:Addr}{oc:Value}{od an:Option Addr}{osl:qe}{kV doc pm cdv ct:Value}(l:K.lookup f=some ⟨oc,od,.func (W.fnOf x qual (jbp st) (jaw st) (jad st) .none kV doc pm an cdv ct),osl⟩)
  (c:W.codeIn K cdv qual=true) (k:W.keepIn K (.ref f)=true):Fun K x qual st f (W.fnOf x qual (jbp st) (jaw st) (jad st) .none kV doc pm an cdv ct):=⟨⟨oc,od,kV,doc,pm,an,cdv,ct,osl,rfl,l,c⟩,k⟩
end
section
end
def iteF{A B:Prop}(h:B):if false=true then A else B:=by
 rw[if_neg Bool.false_ne_true];exact h
def iteT{A B:Prop}(h:A):if true=true then A else B:=by
 rw[if_pos rfl];exact h
def Same(H H':Hp):Prop:=∀ b o,H b=some o->H' b=some o
def Same.refl(H:Hp):Same H H:=fun _ _ h=>h
def Same.trans{H H1 H2:Hp}(a:Same H H1)(b:Same H1 H2):Same H H2:=fun c o h=>b c o (a c o h)
end L2
set_option maxHeartbeats 4000000
namespace L2
open PyProof.Rows
def ffk:(NameKind.free == NameKind.free)=true:=by decide
def clOf(cells:List (Str×Addr)):List (Str×NameKind)->List (Str×Addr)->List (Str×Addr)
 | [],acc=>acc
 | (n,k)::r,acc=>clOf cells r (if k == .free then (n,(cells.lookup n).getD 0)::acc else acc)
theorem jui{env:Env}:∀ (ns:List (Str×NameKind)) (acc:List (Str×Addr)),(∀ p∈ns,p.2=.free->∃ c,env.cells.lookup p.1=some c) ->
  (forIn ns acc fun p cs=>(if p.2 == NameKind.free then (do let a <- cellOf env p.1;pure (ForInStep.yield ((p.1,a)::cs))) else pure (ForInStep.yield cs):Sem (ForInStep (List (Str×Addr)))))=pure (clOf env.cells ns acc)
 | [],acc,_=>by rw[List.forIn_nil];rfl
 | (n,k)::r,acc,h=>by
  rw[List.forIn_cons]
  by_cases hk:k=.free
  ·subst hk;obtain⟨c,hc⟩:=h (n,.free) zaa rfl;have e1:cellOf env n=pure c:=by unfold cellOf;rw[hc]
   show (do let a <- cellOf env n;pure (ForInStep.yield ((n,a)::acc)):Sem _) >>= _=_;rw[e1];show (forIn r ((n,c)::acc) _:Sem _)=_;rw[jui r _ fun p hp=>h p (zaw _ hp)];show _=pure (clOf env.cells r (if NameKind.free == NameKind.free then _ else _));have hc':env.cells.lookup n=some c:=hc;rw[if_pos ffk,hc'];rfl
  ·have e2:(k == NameKind.free)=false:=by simpa using hk
   show (if (k == NameKind.free)=true then _ else _:Sem _) >>= _=_;rw[if_neg (by rw[e2];decide)];show (forIn r acc _:Sem _)=_;rw[jui r _ fun p hp=>h p (zaw _ hp)];show _=pure (clOf env.cells r (if (k == NameKind.free)=true then _ else _));rw[if_neg (by rw[e2];decide)]
def js7{scope:Scope}{env:Env}(h:∀ p∈scope.names,p.2=.free->∃ c,env.cells.lookup p.1=some c):closureFor scope env=pure (clOf env.cells scope.names []):=by
 unfold closureFor;have e:=jui (env:=env) scope.names [] h;show (forIn scope.names ([]:List (Str×Addr)) _ >>= fun r=>pure r:Sem _)=_;have e':(forIn scope.names ([]:List (Str×Addr)) fun (p:Str×NameKind) (cs:List (Str×Addr))=>(if p.2 == NameKind.free then (do let a <- cellOf env p.1;pure (ForInStep.yield ((p.1,a)::cs))) else pure (ForInStep.yield cs):Sem (ForInStep (List (Str×Addr))))) >>= (fun r=>(pure r:Sem _))=pure (clOf env.cells scope.names []):=by rw[e];rfl
 exact e'
theorem jrq{cells:List (Str×Addr)}{x:Str}{c:Addr}:∀ (ns:List (Str×NameKind)) (acc:List (Str×Addr)),(clOf cells ns acc).lookup x=some c->acc.lookup x=some c\/((x,NameKind.free)∈ns/\c=(cells.lookup x).getD 0)
 | [],acc,h=>.inl h
 | (n,k)::r,acc,h=>by
  rcases jrq r _ h with e|⟨e1,e2⟩
  ·by_cases hk:k=.free
   ·subst hk;rw[if_pos ffk,List.lookup_cons] at e
    cases hx:x == n with
    | true =>
     rw[hx] at e;have:x=n:=by simpa using hx
     subst this;exact .inr ⟨zaa,(zby e).symm⟩
    | false=>rw[hx] at e;exact .inl e
   ·rw[if_neg (by simpa using hk)] at e;exact .inl e
  ·exact .inr ⟨zaw _ e1,e2⟩
theorem jrp{cells:List (Str×Addr)}{x:Str}:∀ (ns:List (Str×NameKind)) (acc:List (Str×Addr)),acc.lookup x=some ((cells.lookup x).getD 0)->(clOf cells ns acc).lookup x=some ((cells.lookup x).getD 0)
 | [],acc,h=>h
 | (n,k)::r,acc,h=>by
  refine jrp r _ ?_
  by_cases hk:k=.free
  ·subst hk;rw[if_pos ffk,List.lookup_cons]
   cases hx:x == n with
   | true =>
    have:x=n:=by simpa using hx
    subst this;rfl
   | false=>exact h
  ·rw[if_neg (by simpa using hk)];exact h
theorem jni{cells:List (Str×Addr)}{x:Str}:∀ (ns:List (Str×NameKind)) (acc:List (Str×Addr)),(x,NameKind.free)∈ns->(clOf cells ns acc).lookup x=some ((cells.lookup x).getD 0)
 | [],acc,h=>by cases h
 | (n,k)::r,acc,h=>by
  rcases List.mem_cons.mp h with e|e
  ·cases e;refine jrp r _ ?_;rw[if_pos ffk,List.lookup_cons];simp
  ·exact jni r _ e
def je9(X:Cx)(scope:Scope)(N:List Str)(C:Addr)(s0:Shared)(H0:Hp)(ex:List Addr):Cx where
 prog:=X.prog
 w:=X.w
 K:=X.K
 mg:=X.mg
 base:=X.base
 A:=X.A
 N:=N
 s₀:=s0
 Hz:=H0
 env:=compEnvC scope (clOf X.env.cells scope.names []) C X.env
 outer:=X.stack
 stack:=X.stack
 ex:=ex
 fn:=fun _=>false
 calm:=X.calm
 pn:=[]
 xe:=fun _ _=>False
def jzk(N:List Str)(out:List (Str×NameKind))(inn:List (Str×NameKind))(caps:qf):Bool :=
 inn.all (fun p=>p.2 != .cell)&&inn.all (fun p=>p.2 != .local || inn.lookup p.1 == some .local) &&
 inn.all (fun p=>p.2 != .free || (out.lookup p.1 == some .cell || out.lookup p.1 == some .free)) &&
 caps.all (fun p=>N[p.2]? == some p.1&&inn.lookup p.1 == some .free)
structure CapsOk(X:Cx)(scope:Scope)(caps:qf):Prop where
 kind:scope.kind=.function
 nocell:∀ x∈scope.names,x.2≠.cell
 loc:∀ x∈scope.names,x.2=.local->scope.names.lookup x.1=some .local
 fre:∀ p∈scope.names,p.2=.free->X.env.kindOf p.1=some .cell\/X.env.kindOf p.1=some .free
 cap:∀ p∈caps,X.N[p.2]? = some p.1/\scope.names.lookup p.1=some .free
def jig{X:Cx}{scope osc:Scope}{N:List Str}{caps:qf}(hN:X.N=N)(ho:X.env.scope=osc)(hk:scope.kind=.function)(h:jzk N osc.names scope.names caps=true):CapsOk X scope caps:=by
 unfold jzk at h;simp only[Bool.and_eq_true,List.all_eq_true] at h;obtain⟨⟨⟨h1,h2⟩,h3⟩,h4⟩:=h;refine⟨hk,fun x hx=>by simpa using h1 x hx,fun x hx hl=>?_,fun p hp hf=>?_,fun p hp=>?_⟩
 ·have:=h2 x hx;rw[hl] at this;simpa using this
 ·have:=h3 p hp;rw[hf] at this;show X.env.scope.names.lookup p.1=_\/X.env.scope.names.lookup p.1=_;rw[ho];simpa using this
 ·have:=h4 p hp;rw[hN];simpa using this
def jfb(own:Nat)(caps:qf)(Z:St):St:=List.replicate own none++caps.map fun p=>(Z[p.2]?).join
def jI0(own:Nat)(caps:qf)(wi:TI)(g:TG)(tc:TT)(te:TE):TE:=fun Z H Q=>wi Z H fun Jq H1=>∀ D,H1 D=none ->
 ∃ W:Nat->Nat->St->Hp->Prop,(∃ m,W 0 m (jfb own caps Z) (upd H1 D (.lst [])))/\∀ i m Z' H',W i m Z' H' ->
  (Jq.stop i H'/\Q (.ref D) H')\/(Jq.go i H'/\∃ N:St->Hp->Prop,(∀ Z2 H2,N Z2 H2->∃ m',m'<m/\W (i+1) m' Z2 H2) /\
   ∀ x H2,Jq.yld i H' x H2->g x Z' H2 fun Z3 H3=>tc Z3 H3 fun b H4=>if b=true then te Z3 H4 fun v H5=>∃ ys,H5 D=some (.lst ys)/\ys.length<sizeLine/\N Z3 (upd H5 D (.lst (ys++[v]))) else N Z3 H4)
theorem jhk{scope:Scope}{env:Env}{x:Str}{k:NameKind}:∀ {ns:List (Str×NameKind)},(ns.map fun (n,k)=>if (k == NameKind.free&&env.scope.kind == .function&&env.kindOf n == some .cell) then (n,NameKind.cell) else (n,k)).lookup x=some k ->
  ∃ k',ns.lookup x=some k'/\(k=k'\/(k'=.free/\k=.cell))
 | [],h=>by simp at h
 | (n,k0)::r,h=>by
  rw[List.map_cons] at h
  by_cases hc:(k0 == NameKind.free&&env.scope.kind == .function&&env.kindOf n == some .cell)=true
  ·simp only[if_pos hc,List.lookup_cons] at h
   cases hx:x == n with
   | true =>
    rw[hx] at h;refine⟨k0,by simp[List.lookup_cons,hx],.inr ⟨?_,(zby h).symm⟩⟩;simp only[Bool.and_eq_true] at hc;simpa using hc.1.1
   | false =>
    rw[hx] at h;obtain⟨k',e,q⟩:=jhk (scope:=scope) h;exact⟨k',by simp only[List.lookup_cons,hx];exact e,q⟩
  ·simp only[if_neg hc,List.lookup_cons] at h
   cases hx:x == n with
   | true =>
    rw[hx] at h;exact⟨k0,by simp[List.lookup_cons,hx],.inl (zby h).symm⟩
   | false =>
    rw[hx] at h;obtain⟨k',e,q⟩:=jhk (scope:=scope) h;exact⟨k',by simp only[List.lookup_cons,hx];exact e,q⟩
theorem jhj{env:Env}{x:Str}:∀ {ns:List (Str×NameKind)},ns.lookup x=some .free ->
  (ns.map fun (n,k)=>if (k == NameKind.free&&env.scope.kind == .function&&env.kindOf n == some .cell) then (n,NameKind.cell) else (n,k)).lookup x=some .cell \/
  (ns.map fun (n,k)=>if (k == NameKind.free&&env.scope.kind == .function&&env.kindOf n == some .cell) then (n,NameKind.cell) else (n,k)).lookup x=some .free
 | [],h=>by simp at h
 | (n,k0)::r,h=>by
  rw[List.map_cons];simp only[List.lookup_cons] at h
  by_cases hc:(k0 == NameKind.free&&env.scope.kind == .function&&env.kindOf n == some .cell)=true
  ·simp only[if_pos hc,List.lookup_cons]
   cases hx:x == n with
   | true=>exact .inl rfl
   | false=>rw[hx] at h;exact jhj h
  ·simp only[if_neg hc,List.lookup_cons]
   cases hx:x == n with
   | true=>rw[hx] at h;exact .inr h
   | false=>rw[hx] at h;exact jhj h
def ju0{own:Nat}{caps:qf}{Z:St}{i:Nat}{v:V}(h:(jfb own caps Z)[i]? = some (some v)):∃ p,caps[i-own]? = some p/\own<=i/\Z[p.2]? = some (some v):=by
 unfold jfb at h
 by_cases hi:i<own
 ·rw[List.getElem?_append_left (by simpa using hi),List.getElem?_replicate,if_pos hi] at h;cases h
 ·rw[List.getElem?_append_right (by simpa using hi),List.length_replicate,zba] at h
  cases e:caps[i-own]? with
  | none=>rw[e] at h;cases h
  | some p =>
   rw[e] at h;refine⟨p,rfl,by omega,?_⟩;have h':(Z[p.2]?).join=some v:=zby h
   cases q:Z[p.2]? with
   | none=>rw[q] at h';cases h'
   | some o=>rw[q] at h';exact congrArg some h'
section
variable {X:Cx}{U:qb}{Z:St}{H:Hp}{s:Shared}
def jxx{scope:Scope}{own:List Str}{caps:qf}{h':Heap}{t':Nat}{fp:List Addr}(I:Inv X U Z H s)(ck:CapsOk X scope caps)
  (hf:∀ b∈fp,FpOk X U H b) (hb:∀ b∈fp,b<s.heap.objs.size) (ns:h'.Ns s.heap.objs.size fun x=>([]:List (Str×Value)).reverse.lookup x)
  (sb:Heap.SameBut s.heap.objs.size (s.heap.push { cls:=.type "dict",data:=.dict #[] }) h') :
  Inv (je9 X scope (own++caps.map (·.1)) s.heap.objs.size s H fp) [] (jfb own.length caps Z) H { s with heap:=h',toks:=t' }:=by
 have up:∀ b o,s.heap.get? b=some o->h'.get? b=some o:=fun b o e=>sb.extBut b o (zcv (zbv e)) (zaz _ e)
 have stk:∀ b∈fp,b∉frs X.stack:=fun b hb' z=>by
  obtain⟨_,f1,f2,_⟩:=hf b hb';rcases List.mem_cons.mp (I.stkSub b z) with q|q
  ·exact f1 q
  ·exact f2 q
 have clc:∀ x c,(clOf X.env.cells scope.names []).lookup x=some c->X.env.cells.lookup x=some c:=fun x c h=>by
  rcases jrq _ _ h with e|⟨e1,e2⟩
  ·cases e
  ·obtain⟨c',hc'⟩:=I.ok.has x (ck.fre _ e1 rfl);rw[hc'] at e2 |-
   exact congrArg some e2.symm
 have cell:∀ x c,(clOf X.env.cells scope.names []).lookup x=some c->∃ v,s.heap.IsCell c v:=fun x c h=>I.cell x c (clc x c h)
 have okk:(je9 X scope (own++caps.map (·.1)) s.heap.objs.size s H fp).Ok:=by
  refine⟨I.ok.mod,ck.kind,I.ok.glob,I.ok.blt,zac _,fun x y c h1 h2=>I.ok.inj x y c (clc x c h1) (clc y c h2),fun x hx=>?_,fun x c hfn=>?_,I.ok.hd,I.ok.frames,.inl rfl,fun b z=>⟨?_,fun x c h=>?_⟩,I.bs,
   zdx I.ok.bsz I.sz,fun b o e z=>?_,stk,I.stack,I.stkFree⟩
  ·have hx':∃ k,(scope.names.map fun (n,k)=>if (k == NameKind.free&&X.env.scope.kind == .function&&X.env.kindOf n == some .cell) then (n,NameKind.cell) else (n,k)).lookup x=some k/\(k=.cell\/k=.free):=by
    rcases hx with q|q
    ·exact⟨_,q,.inl rfl⟩
    ·exact⟨_,q,.inr rfl⟩
   obtain⟨k,q,hk⟩:=hx';obtain⟨k',e,r⟩:=jhk (scope:=scope) q;have m:=PySem.mem_of_lookup e;have hfree:k'=.free:=by
    rcases r with r|r
    ·rcases hk with hk|hk
     ·exact absurd (r.symm.trans hk) (ck.nocell _ m)
     ·exact r.symm.trans hk
    ·exact r.1
   subst hfree;exact⟨_,jni _ _ m⟩
  ·cases hfn
  ·exact zcv (hb b z)
  ·exact (hf b z).2.2.2.2.1 x c (clc x c h)
  ·rcases (hf b z).2.2.2.1 with q|q
   ·exact I.ok.noex b o e q
   ·exact absurd (zcx (zbv e) (zdx I.ok.bsz q)) (Nat.lt_irrefl _)
 refine⟨okk,rfl,I.bare,Un.kept up,⟨_,ns,fun i x v h1 h2 h3=>?_⟩,fun x c h=>?_,I.hok.fresh (zac _),fun x c h=>I.freeC x c (clc x c h),fun p hp=>absurd (show p∈([]:qb) from hp) (by simp),I.hok.kept up,?_⟩
 ·obtain⟨p,hp,hi,hv⟩:=ju0 h2;have hx:p.1=x:=by
   have h1':(own++caps.map (·.1))[i]? = some x:=h1;rw[List.getElem?_append_right hi,zba,hp] at h1';exact zby h1'
  subst hx;obtain⟨cN,cf⟩:=ck.cap p (List.mem_of_getElem? hp);have mem:=PySem.mem_of_lookup cf;obtain⟨m,hn,hl⟩:=I.loc;have kf:=ck.fre _ mem rfl;obtain⟨u,r,l⟩:=hl p.2 p.1 v cN hv (by rcases kf with q|q;exact .inr (.inl q);exact .inr (.inr q));refine⟨u,r,.inr ?_⟩;rcases l with ⟨k,_⟩|⟨k,c,e,z⟩
  ·rcases kf with q|q<;>(rw[q] at k;cases k)
  ·refine⟨jhj cf,c,?_,z.keeps up⟩;show (clOf X.env.cells scope.names []).lookup p.1=some c;rw[jni _ _ mem,e];rfl
 ·obtain⟨v,z⟩:=cell x c h;exact⟨v,z.keeps up⟩
 ·show (jfb own.length caps Z).length=(own++caps.map (·.1)).length;simp[jfb]
end
abbrev NoX:qc:=fun _ _=>False
def jyd{α:Type}{M:Model}{A:Around}{t:Sem α}{Q:α->Shared->Prop}{E:qc}{s:Shared}(h:wpAny M A t Q NoX s):wpAny M A t Q E s:=wpAny_mono h (fun _ _ q=>q) fun _ _ q=>q.elim
abbrev jw1(ifs:List Expr)(env:Env):Sem Bool:=forIn ifs true fun c r=>if r=true then do let ok <- isTrue c env (eval c env);pure (ForInStep.yield ok) else pure (ForInStep.yield r)
section
variable {prog:Program}{w:World}{A:Around}{R:Result->Shared->Prop}{s:Shared}
def jo3{elt target iter:Expr}{ifs:List Expr}{scope:Scope}{pos:Pos}{it acc:Value}{env:Env}(Jq:Nat->Shared->Prop)
  (turn:∀ n s,Jq n s->wpAny (model prog w) A (pyNext it) (fun r s1=>match r with
   | none=>R (.ok .next) s1
   | some v=>wpAny (model prog w) A (letOwnedTupleGo target it v) (fun _ s2=>wpAny (model prog w) A (assign target env v) (fun _ s3=>wpAny (model prog w) A (jw1 ifs env) (fun ok s4 =>
     if ok=true then wpAny (model prog w) A (eval elt env) (fun x s5=>wpAny (model prog w) A (call (.builtin "list.append") [acc,x]) (fun _ s6=>∃ m,m<n/\Jq m s6) NoX s5) NoX s4
     else ∃ m,m<n/\Jq m s4) NoX s3) NoX s2) NoX s1) NoX s)
  (n:Nat) (h:Jq n s):codeAny (model prog w) A (.compLoop (.ListComp elt [⟨target,iter,ifs,0⟩] scope pos) 0 it acc env) R s:=by
 refine codeAny_loop rfl Jq (fun n s hJ=>?_) n h;show wpAny _ A ((compTurn (.ListComp elt [⟨target,iter,ifs,0⟩] scope pos) 0 it acc env).onRaise (fun x=>do noteFrame x env;theTreesLotGoes x)) _ _ s;refine wpAny_noted (jyd ?_);rw[compTurn_list];refine zay (wpAny_standAt (zay (thn (turn n s hJ) fun r s1 h1=>?_)))
 cases r with
 | none=>exact zab h1
 | some v =>
  refine zay (thn h1 fun _ s2 h2=>zay (thn h2 fun _ s3 h3=>zay (thn h3 fun ok s4 h4=>?_)))
  cases ok with
  | false =>
   rw[if_neg (by decide)] at h4
   first
    | exact zab ⟨rfl,h4⟩
    | exact zay (zab (zab ⟨rfl,h4⟩))
  | true =>
   rw[if_pos rfl] at h4
   first
    | exact zay (zay (thn h4 fun x s5 h5=>zay (thn h5 fun _ s6 h6=>zab (zab ⟨rfl,h6⟩))))
    | exact zay (thn h4 fun x s5 h5=>zay (thn h5 fun _ s6 h6=>zab ⟨rfl,h6⟩))
end
section
variable {X:Cx}
def PC0(X:Cx)(ifs:List Expr)(t:TT):Prop :=
 ∀ (U:qb) (s:Shared) (Z:St) (H:Hp) (Q:Bool->Hp->Prop),Inv X U Z H s->t Z H Q->wpAny (model X.prog X.w) X.A (jw1 ifs X.env) (TP X U Z Q) X.xe s
def jDm:TT:=fun _ H Q=>Q true H
def jCr:PC0 X [] jDm:=fun U s Z H Q I h=>wpAny_tests_nil ⟨H,I,h⟩
def jBx{P:Program}{w:World}{H:Hp}{h h':Heap}{C:Addr}(ok:HOk P w H h)(hC:H C=none)(sb:Heap.SameBut C h h'):HOk P w H h':=fun b ob e=>by
 refine (ok b ob e).stay (fun c u hc q=>(sb.2 c ?_).trans q) (fun _ q=>q) fun _ _ q=>q
 rintro rfl;rcases hc with rfl|hc
 ·rw[hC] at e;cases e
 ·rw[hC] at hc;cases hc
def jG4{fs ex:List Addr}{H H':Hp}{h h1 h2:Heap}{C:Addr}(u:Un fs ex H H' h h1)(hC:h.objs.size<=C)(sb:Heap.SameBut C h1 h2):Un fs ex H H' h h2:=by
 have ne:∀ b o,h.get? b=some o->b≠C:=fun b o e=>zcv (zcx (zbv e) hC)
 refine⟨fun b o e n a c=>(sb.2 b (ne b o e)).trans (u.keep b o e n a c),fun b o e n a c=>?_,u.free,fun b o e c=>?_,u.tups,u.frzs,u.tbls⟩
 ·obtain⟨sl,q⟩:=u.slot b o e n a c;exact⟨sl,(sb.2 b (ne b o e)).trans q⟩
 ·obtain⟨o',q⟩:=u.there b o e c;exact⟨o',(sb.2 b (ne b o e)).trans q⟩
inductive CpInv(X:Cx)(tn:Nat->Heap->Prop)(fp:List Addr)(W:Nat->Nat->St->Hp->Prop)(n:Nat)(s:Shared):Prop
 | mk (i:Nat) (Z:St) (H:Hp) (hI:Inv X [] Z H s) (ht:tn i s.heap) (hf:∀ b∈fp,H b=none) (hw:W i n Z H)
def jCs{elt tg iter:Expr}{ifs:List Expr}{scope:Scope}{pos:Pos}{own:List Str}{caps:qf}{wi:TI}{g:TG}{tc:TT}{te:TE}(hc:X.calm=true)(ck:CapsOk X scope caps)
  (hi:PI X tg iter wi) (hg:∀ C s0 H0 ex,PG (je9 X scope (own++caps.map (·.1)) C s0 H0 ex) tg g) (ht:∀ C s0 H0 ex,PC0 (je9 X scope (own++caps.map (·.1)) C s0 H0 ex) ifs tc)
  (he:∀ C s0 H0 ex,PE (je9 X scope (own++caps.map (·.1)) C s0 H0 ex) elt te) (hs:∀ x,foldedSetIterable iter X.env x=pure x:=by intro _;rfl) :
  PE X (.ListComp elt [⟨tg,iter,ifs,0⟩] scope pos) (jI0 own.length caps wi g tc te):=by
 intro U s Z H Q I h;have hcl:closureFor scope X.env=pure (clOf X.env.cells scope.names []):=js7 fun p hp hf=>I.ok.has p.1 (ck.fre p hp hf)
 rw[eval_ListComp];refine wpAny_comprehension_free (use:=none) rfl hs hcl ck.kind ck.loc (thn (hi U s Z H _ I h) fun v s1 h1=>thn h1 fun itv s2 h2=>?_);obtain⟨it,fp,tn,Jq,H2,e,I2,T,st2,f2,hw⟩:=h2;subst e;obtain⟨W,⟨m0,w0⟩,turn⟩:=hw s2.heap.objs.size (I2.hok.fresh (zac _));refine wpAny_newObj_type ?_;have hD:=I2.hok.fresh (zac s2.heap.objs.size);have I3:Inv X U Z (upd H2 s2.heap.objs.size (.lst [])) { s2 with heap:=s2.heap.push { cls:=.type "list",data:=.seq ([]:List Value).toArray } } :=
  I2.laid (t':=s2.toks) (fun b u e=>zaz _ e) (zac _) ⟨Nat.zero_le _,[],0,.nil,zbz _ rfl⟩
 have hlt:∀ b∈fp,b<s2.heap.objs.size:=fun b hb=>by obtain⟨o,e,_⟩:=T.obj _ _ st2 b hb;exact zbv e
 have f3:∀ b∈fp,FpOk X U (upd H2 s2.heap.objs.size (.lst [])) b:=fun b hb=>⟨by rw[jal (zcv (hlt b hb))];exact (f2 b hb).1,(f2 b hb).2⟩
 have hlt3:∀ b∈fp,b<(s2.heap.push { cls:=.type "list",data:=.seq ([]:List Value).toArray }).objs.size:=fun b hb=>by rw[Heap.size_push];exact Nat.lt_succ_of_lt (hlt b hb)
 refine wpAny_newFunctionEnv ck.nocell (by intro y hy;simp at hy) (fun h' hns hsb=>?_) ck.kind;generalize hS3:({ s2 with heap:=s2.heap.push { cls:=.type "list",data:=.seq ([]:List Value).toArray } }:Shared)=S3 at I3 hns hsb |-
 have hlt3':∀ b∈fp,b<S3.heap.objs.size:=by rw[<- hS3];exact hlt3
 have I4:=jxx (own:=own) (t':=S3.toks+([]:List (Str×Value)).length) I3 ck f3 hlt3' hns hsb;have st4:tn 0 h':=T.keep _ _ _ st2 fun b hb o e=>hsb.extBut b o (zcv (hlt3' b hb)) (zaz _ (by rw[<- hS3];exact zaz _ e))
 have hsz:s2.heap.objs.size<S3.heap.objs.size:=by rw[<- hS3];show _<(Heap.push _ _).objs.size;rw[Heap.size_push];exact Nat.lt_succ_self _
 generalize hCC:S3.heap.objs.size=C at I4 hsb hns hsz;have loop:codeAny (model X.prog X.w) X.A (.compLoop (.ListComp elt [⟨tg,iter,ifs,0⟩] scope pos) 0 (.ref it) (.ref s2.heap.objs.size) (compEnvC scope (clOf X.env.cells scope.names []) C X.env))
   (compPost (model X.prog X.w) X.A X.xe none (EP X U Z Q) (.ref s2.heap.objs.size) C) { S3 with heap:=h',toks:=S3.toks+([]:List (Str×Value)).length }:=by
  have xf:∀ {H':Hp},(∀ b∈fp,H' b=none)->∀ b∈fp,FpOk (je9 X scope (own++caps.map (·.1)) C S3 (upd H2 s2.heap.objs.size (.lst [])) fp) [] H' b:=fun hn b hb=>by
   refine⟨hn b hb,?_,?_,.inl hb,fun x c e=>(I4.ok.exf b hb).2 x c e,fun p hp=>absurd (show p∈([]:qb) from hp) (by simp)⟩
   ·exact (I4.ok.exf b hb).1
   ·exact I4.ok.exfs b hb
  refine jo3 (CpInv (je9 X scope (own++caps.map (·.1)) C S3 (upd H2 s2.heap.objs.size (.lst [])) fp) tn fp W) ?_ m0
   ⟨0,_,_,I4,st4,fun b hb=>(f3 b hb).1,w0⟩
  rintro n s5 ⟨i,Z5,H5,I5,st5,fr5,w5⟩;rcases turn i n Z5 H5 w5 with ⟨stop,qn⟩|⟨go,N,hN,step⟩
  ·refine thn (T.done (je9 X scope (own++caps.map (·.1)) C S3 (upd H2 s2.heap.objs.size (.lst [])) fp) rfl rfl rfl hc i [] s5 Z5 H5 NoX I5 (xf fr5) st5 stop) fun r s6 hzz=>?_
   obtain⟨hr,I6⟩:=hzz;subst hr;obtain⟨m6,n6,_⟩:=id I6.loc;refine⟨m6,n6,fun h7 sb7=>⟨.ref s2.heap.objs.size,H5,?_,rfl,qn⟩⟩;have C3:S3.heap.objs.size<=C:=Nat.le_of_eq hCC;refine I3.call' (s':={ s6 with heap:=h7 }) (ch:=fp) I6.os (jG4 I6.base C3 sb7) (jBx I6.hok I6.free sb7) I6.bare fun b hb=>?_
   obtain⟨_,q1,_,q3,q4,q5⟩:=f3 b hb;exact⟨q3,q1,q4,q5⟩
  ·refine thn (T.item (je9 X scope (own++caps.map (·.1)) C S3 (upd H2 s2.heap.objs.size (.lst [])) fp) rfl rfl rfl hc i [] s5 Z5 H5 NoX I5 (xf fr5) st5 go) fun r s6 hzz=>?_
   obtain⟨u,hr,h6⟩:=hzz;subst hr;refine thn h6 fun _ s7 hzz=>?_
   obtain⟨x,H7,I7,r7,y7,st7,fr7⟩:=hzz;have I7':=I7.pinned (xf fr7) (T.obj _ _ st7);refine thn (hg _ _ _ _ _ s7 Z5 H7 x u _ I7' r7 (step x H7 y7)) fun _ s8 hzz=>?_
   obtain⟨Z8,H8,I8,q8⟩:=hzz;refine thn (ht _ _ _ _ _ s8 Z8 H8 _ I8 q8) fun ok s9 hzz=>?_
   obtain⟨H9,I9,q9⟩:=hzz;have again:∀ {s':Shared} {Z':St} {H':Hp},Inv (je9 X scope (own++caps.map (·.1)) C S3 (upd H2 s2.heap.objs.size (.lst [])) fp) ([]++jps fp s7.heap) Z' H' s'->N Z' H'->∃ m,m<n/\CpInv (je9 X scope (own++caps.map (·.1)) C S3 (upd H2 s2.heap.objs.size (.lst [])) fp) tn fp W m s':=fun {s' Z' H'} Ia na=>by
    obtain⟨m',hm,wa⟩:=hN Z' H' na;refine⟨m',hm,i+1,Z',H',Ia.unpinned,T.keep _ _ _ st7 fun b hb o e=>(Ia.pin (b,o) (zcy _ (zcy _ (jhx hb e)))).1,fun b hb=>?_,wa⟩;obtain⟨o,e,d⟩:=T.obj _ _ st7 b hb;exact (Ia.pin (b,o) (zcy _ (zcy _ (jhx hb e)))).2.1
   cases ok with
   | false =>
    rw[if_neg (by decide)] at q9 |-
    exact again I9 q9
   | true =>
    rw[if_pos rfl] at q9 |-
    refine thn (he _ _ _ _ _ s9 Z8 H9 _ I9 q9) fun y s10 hzz=>?_
    obtain⟨vy,H10,I10,r10,ys,hys,hlen,q10⟩:=hzz;refine thn (jlf _ s10 Z8 H10 (.ref s2.heap.objs.size) [vy] (.ref s2.heap.objs.size) [y] (fun _ H'=>N Z8 H') I10 rfl (.cons r10 .nil) ⟨_,ys,vy,rfl,rfl,hys,hlen,q10⟩) fun _ s11 hzz=>?_
    obtain⟨_,H11,I11,_,q11⟩:=hzz;exact again I11 q11
 exact codeAny_compStart_list loop (T.self _ 0 _ _ _ st4 loop)
end
end L2
namespace DL
open L2
inductive D where
 | non|bl (b:Bool)|int (i:Int)|str (x:Str)|ty (n:String)|obj (i:Nat)|tup (xs:List D)|lst (xs:List D)
structure XD where
 cls:Str
 fs:List (Str×D)
abbrev M(α:Type):=Option (Except XD α)
def M.b{α β:Type}(m:M α)(f:α->M β):M β:=match m with
 | none=>none
 | some (.error x)=>some (.error x)
 | some (.ok a)=>f a
def M.p{α:Type}(a:α):M α:=some (.ok a)
def M.o{α:Type}:Option α->M α
 | none=>none
 | some a=>some (.ok a)
inductive M.BInv{α β:Type}(m:M α)(f:α->M β)(r:Except XD β):Prop
 | ok (a:α) (h1:m=some (.ok a)) (h2:f a=some r)
 | err (x:XD) (h1:m=some (.error x)) (h2:r=.error x)
def M.b_inv{α β:Type}{m:M α}{f:α->M β}{r:Except XD β}(h:m.b f=some r):M.BInv m f r:=by
 cases m with
 | none=>cases h
 | some e =>
  cases e with
  | error x=>exact .err x rfl (zby h).symm
  | ok a=>exact .ok a rfl h
def M.o_inv{α:Type}{m:Option α}{r:Except XD α}(h:M.o m=some r):∃ a,m=some a/\r=.ok a:=by
 cases m with
 | none=>cases h
 | some a=>exact⟨a,rfl,(zby h).symm⟩
@[simp] theorem M.b_ok{α β:Type}(a:α)(f:α->M β):M.b (some (.ok a)) f=f a:=rfl
@[simp] theorem M.b_p{α β:Type}(a:α)(f:α->M β):M.b (M.p a) f=f a:=rfl
@[simp] theorem M.b_err{α β:Type}(x:XD)(f:α->M β):M.b (some (.error x)) f=some (.error x):=rfl
@[simp] theorem M.o_some{α:Type}(a:α):M.o (some a)=M.p a:=rfl
abbrev Rho:=Nat->Option Addr
mutual
def Rep(J:Rho)(K:W.Frag)(H:Hp):D->V->Prop
 | .non,v=>v=.non
 | .bl b,v=>v=.bl b
 | .int i,v=>v=.int i
 | .str x,v=>v=.str x
 | .ty n,v=>v=.ty n
 | .obj i,v=>∃ a,J i=some a/\v=.ref a
 | .tup ds,v=>∃ a xs,v=.ref a/\SqT K H a xs/\Reps J K H ds xs
 | .lst ds,v=>∃ a xs,v=.ref a/\SqL K H a xs/\Reps J K H ds xs
def Reps(J:Rho)(K:W.Frag)(H:Hp):List D->List V->Prop
 | [],xs=>xs=[]
 | d::ds,xs=>∃ v vs,xs=v::vs/\Rep J K H d v/\Reps J K H ds vs
end
variable {J:Rho}{K:W.Frag}{H H':Hp}
def jwr{a:Addr}{u:HO}(e:Same H H')(h:Rd H a u):Rd H' a u:=by
 rcases h with h|⟨o,h⟩
 ·exact .inl (e a _ h)
 ·exact .inr ⟨o,e a _ h⟩
def je5{a:Addr}{xs:List V}(e:Same H H')(h:SqL K H a xs):SqL K H' a xs:=h.imp (jwr e) id
def jeb{a:Addr}{xs:List V}(e:Same H H')(h:SqT K H a xs):SqT K H' a xs:=h.imp (jwr e) id
mutual
def Rep.mono(e:Same H H'):∀ {d:D} {v:V},Rep J K H d v->Rep J K H' d v
 | .non,_,h=>by unfold Rep at h |-;exact h
 | .bl _,_,h=>by unfold Rep at h |-;exact h
 | .int _,_,h=>by unfold Rep at h |-;exact h
 | .str _,_,h=>by unfold Rep at h |-;exact h
 | .ty _,_,h=>by unfold Rep at h |-;exact h
 | .obj _,_,h=>by unfold Rep at h |-;exact h
 | .tup _,_,h=>by
  unfold Rep at h |-
  obtain⟨a,xs,q1,q2,q3⟩:=h;exact⟨a,xs,q1,jeb e q2,Reps.mono e q3⟩
 | .lst _,_,h=>by
  unfold Rep at h |-
  obtain⟨a,xs,q1,q2,q3⟩:=h;exact⟨a,xs,q1,je5 e q2,Reps.mono e q3⟩
def Reps.mono(e:Same H H'):∀ {ds:List D} {vs:List V},Reps J K H ds vs->Reps J K H' ds vs
 | [],_,h=>by unfold Reps at h |-;exact h
 | _::_,_,h=>by
  unfold Reps at h |-
  obtain⟨v,vs,q1,q2,q3⟩:=h;exact⟨v,vs,q1,Rep.mono e q2,Reps.mono e q3⟩
end
def reps_nil{vs:List V}:Reps J K H [] vs↔vs=[]:=by unfold Reps;exact Iff.rfl
def reps_cons{d:D}{ds:List D}{vs:List V}:Reps J K H (d::ds) vs↔∃ v r,vs=v::r/\Rep J K H d v/\Reps J K H ds r:=by
 conv=>lhs;unfold Reps
def Reps.cons{d:D}{ds:List D}{v:V}{vs:List V}(h:Rep J K H d v)(t:Reps J K H ds vs):Reps J K H (d::ds) (v::vs):=reps_cons.mpr ⟨v,vs,rfl,h,t⟩
def Reps.nil:Reps J K H [] []:=reps_nil.mpr rfl
theorem Reps.length:∀ {ds:List D} {vs:List V},Reps J K H ds vs->vs.length=ds.length
 | [],_,h=>by rw[reps_nil.mp h];rfl
 | _::_,_,h=>by
  obtain⟨v,r,rfl,_,t⟩:=reps_cons.mp h;simp[Reps.length t]
theorem Reps.get:∀ {ds:List D} {vs:List V} {i:Nat} {d:D},Reps J K H ds vs->ds[i]? = some d->∃ v,vs[i]? = some v/\Rep J K H d v
 | [],_,_,_,_,e=>by simp at e
 | _::_,_,0,_,h,e=>by
  obtain⟨v,r,rfl,q,_⟩:=reps_cons.mp h;simp at e;subst e
  exact⟨v,rfl,q⟩
 | _::_,_,i+1,_,h,e=>by
  obtain⟨v,r,rfl,_,t⟩:=reps_cons.mp h;obtain⟨u,q1,q2⟩:=Reps.get (i:=i) t (by simpa using e);exact⟨u,by simpa using q1,q2⟩
theorem Reps.append:∀ {ds es:List D} {vs us:List V},Reps J K H ds vs->Reps J K H es us->Reps J K H (ds++es) (vs++us)
 | [],_,_,_,h,k=>by rw[reps_nil.mp h];exact k
 | _::_,_,_,_,h,k=>by
  obtain⟨v,r,rfl,q,t⟩:=reps_cons.mp h;exact Reps.cons q (Reps.append t k)
def rep_int{i:Int}{v:V}:Rep J K H (.int i) v↔v=.int i:=by unfold Rep;exact Iff.rfl
def rep_str{x:Str}{v:V}:Rep J K H (.str x) v↔v=.str x:=by unfold Rep;exact Iff.rfl
def rep_ty{n:String}{v:V}:Rep J K H (.ty n) v↔v=.ty n:=by unfold Rep;exact Iff.rfl
def rep_obj{i:Nat}{v:V}:Rep J K H (.obj i) v↔∃ a,J i=some a/\v=.ref a:=by unfold Rep;exact Iff.rfl
def rep_bl{b:Bool}{v:V}:Rep J K H (.bl b) v↔v=.bl b:=by unfold Rep;exact Iff.rfl
def rep_non{v:V}:Rep J K H .non v↔v=.non:=by unfold Rep;exact Iff.rfl
def rep_tup{ds:List D}{v:V}:Rep J K H (.tup ds) v↔∃ a xs,v=.ref a/\SqT K H a xs/\Reps J K H ds xs:=by conv=>lhs;unfold Rep
def rep_lst{ds:List D}{v:V}:Rep J K H (.lst ds) v↔∃ a xs,v=.ref a/\SqL K H a xs/\Reps J K H ds xs:=by conv=>lhs;unfold Rep
theorem reps_ints:∀ {ns:List Int} {vs:List V},Reps J K H (ns.map .int) vs↔vs=ns.map V.int
 | [],vs=>reps_nil
 | n::ns,vs=>by
  rw[List.map_cons,reps_cons];constructor
  ·rintro⟨v,r,rfl,h1,h2⟩;rw[rep_int.mp h1,reps_ints.mp h2];rfl
  ·rintro rfl;exact⟨_,_,rfl,rep_int.mpr rfl,reps_ints.mpr rfl⟩
def hid(H:Hp)(G:qd):Hp:=fun b=>if G b=true then none else H b
def hid_some{G:qd}{b:Addr}{o:HO}:hid H G b=some o↔G b=false/\H b=some o:=by
 unfold hid;cases e:G b<;>simp
def jax{G:qd}(e:Same H H'):Same (hid H G) (hid H' G):=fun b o h=>by
 obtain⟨q1,q2⟩:=hid_some.mp h;exact hid_some.mpr ⟨q1,e b o q2⟩
def jfk{G G':qd}(h:∀ b,G' b=true->G b=true):Same (hid H G) (hid H G'):=fun b o q=>by
 obtain⟨q1,q2⟩:=hid_some.mp q;refine hid_some.mpr ⟨?_,q2⟩
 cases e:G' b with
 | false=>rfl
 | true=>rw[h b e] at q1;cases q1
def jay{G:qd}:Same (hid H G) H:=fun b o q=>(hid_some.mp q).2
def jgd{G:qd}{a:Addr}{o:HO}(h:G a=true):hid (upd H a o) G=hid H G:=by
 funext b
 unfold hid upd
 by_cases e:b=a
 ·subst e;rw[if_pos h,if_pos h]
 ·rw[if_neg e]
def jbs{p:Addr}{o:HO}(h:H p=none):Same H (upd H p o):=fun b u e=>by rw[jal (jbb e h)];exact e
def jlu{Hz:Hp}{p:Addr}{o:HO}(e:Same Hz H)(h:Hz p=none):Same Hz (upd H p o):=fun b u q=>by rw[jal (jbb q h)];exact e b u q
abbrev DSt:=List (Option D)
def jC9:Option (Option V)->Option Addr
 | some (some (.ref a))=>some a
 | _=>none
def jtq{o:Option (Option V)}{a:Addr}:jC9 o=some a↔o=some (some (.ref a)):=by
 constructor
 ·intro h;unfold jC9 at h
  split at h
  ·cases h;rfl
  ·cases h
 ·rintro rfl;rfl
def ownA(Z:St):List Nat->List Addr
 | []=>[]
 | i::O=>(jC9 Z[i]?).toList++ownA Z O
def jx7{Z:St}{O:List Nat}{a:Addr}:a∈ownA Z O↔∃ i∈O,Z[i]? = some (some (.ref a)):=by
 induction O with
 | nil=>simp[ownA]
 | cons j O ih =>
  unfold ownA;rw[List.mem_append,ih,Option.mem_toList,jtq];constructor
  ·rintro (h|⟨i,hi,h⟩)
   ·exact⟨j,zaa,h⟩
   ·exact⟨i,zaw _ hi,h⟩
  ·rintro⟨i,hi,h⟩;rcases List.mem_cons.mp hi with rfl|hi
   ·exact .inl h
   ·exact .inr ⟨i,hi,h⟩
def fob(F:qd)(Z:St)(O:List Nat):qd:=fun b=>F b || (ownA Z O).contains b
def fob_t{F:qd}{Z:St}{O:List Nat}{b:Addr}:fob F Z O b=true↔F b=true\/∃ i∈O,Z[i]? = some (some (.ref b)):=by
 unfold fob;rw[Bool.or_eq_true,zbc,jx7]
def jf5{F:qd}{Z:St}:fob F Z []=F:=by
 funext b;unfold fob ownA;simp
structure RS(J:Rho)(K:W.Frag)(Hz H:Hp)(F:qd)(O:List Nat)(Z:St)(Y:DSt):Prop where
 len:Z.length=Y.length
 same:Same Hz H
 fin:∀ b,F b=true->H b≠none
 val:∀ (i:Nat) d,Y[i]? = some (some d)->i∉O->∃ v,Z[i]? = some (some v)/\Rep J K (hid H (fob F Z O)) d v
 own:∀ i∈O,∃ (a:Addr) (xs:List V) (ds:List D),Y[i]? = some (some (.lst ds))/\Z[i]? = some (some (.ref a))/\H a=some (.lst xs)/\(Hz a=none/\F a=false)/\Reps J K (hid H (fob F Z O)) ds xs
 nd:∀ i∈O,∀ j∈O,∀ a,Z[i]? = some (some (.ref a))->Z[j]? = some (some (.ref a))->i=j
section
variable {Hz:Hp}{F:qd}{O:List Nat}{Z:St}{Y:DSt}
def jDb{b:Addr}(e:Same H H')(h:H b≠none):H' b≠none:=fun z=>by
 cases q:H b with
 | none=>exact h q
 | some o=>rw[e b o q] at z;cases z
def jl2{b p:Addr}{o:HO}(h:H b≠none):upd H p o b≠none:=by
 by_cases e:b=p
 ·subst e;rw[jaq];exact fun z=>nomatch z
 ·rw[jal e];exact h
def RS.mono(R:RS J K Hz H F O Z Y)(e:Same H H'):RS J K Hz H' F O Z Y :=
 ⟨R.len,R.same.trans e,fun b hb=>jDb e (R.fin b hb),fun i d h ho=>let ⟨v,q1,q2⟩:=R.val i d h ho;⟨v,q1,q2.mono (jax e)⟩,
  fun i hi=>let ⟨a,xs,ds,q1,q2,q3,q4,q5⟩:=R.own i hi;⟨a,xs,ds,q1,q2,e a _ q3,q4,q5.mono (jax e)⟩,R.nd⟩
def RS.fresh(R:RS J K Hz H F O Z Y){p:Addr}(h:H p=none):fob F Z O p=false:=by
 cases e:fob F Z O p with
 | false=>rfl
 | true =>
  rcases fob_t.mp e with q|⟨i,hi,q⟩
  ·exact absurd h (R.fin p q)
  ·obtain⟨a,xs,ds,_,q2,q3,_⟩:=R.own i hi;rw[q] at q2;cases q2
   rw[q3] at h;cases h
def RS.fresh0(R:RS J K Hz H F O Z Y){p:Addr}(h:H p=none):Hz p=none:=by
 cases e0:Hz p with
 | none=>rfl
 | some o=>rw[R.same p o e0] at h;cases h
def RS.thaw{O':List Nat}(R:RS J K Hz H F O Z Y)(h:∀ i∈O',i∈O):RS J K Hz H F O' Z Y:=by
 have le:∀ b,fob F Z O' b=true->fob F Z O b=true:=fun b q=>by
  rcases fob_t.mp q with q|⟨i,hi,q⟩
  ·exact fob_t.mpr (.inl q)
  ·exact fob_t.mpr (.inr ⟨i,h i hi,q⟩)
 refine⟨R.len,R.same,R.fin,fun i d hd ho=>?_,fun i hi=>?_,fun i hi j hj=>R.nd i (h i hi) j (h j hj)⟩
 ·by_cases hO:i∈O
  ·obtain⟨a,xs,ds,q1,q2,q3,q4,q5⟩:=R.own i hO;rw[q1] at hd;cases hd
   refine⟨_,q2,rep_lst.mpr ⟨a,xs,rfl,SqL.of (hid_some.mpr ⟨?_,q3⟩),q5.mono (jfk le)⟩⟩
   cases e:fob F Z O' a with
   | false=>rfl
   | true =>
    rcases fob_t.mp e with z|⟨j,hj,z⟩
    ·rw[q4.2] at z;cases z
    ·exact absurd (R.nd i hO j (h j hj) a q2 z ▸ hj) ho
  ·obtain⟨v,q1,q2⟩:=R.val i d hd hO;exact⟨v,q1,q2.mono (jfk le)⟩
 ·obtain⟨a,xs,ds,q1,q2,q3,q4,q5⟩:=R.own i (h i hi);exact⟨a,xs,ds,q1,q2,q3,q4,q5.mono (jfk le)⟩
def jbr{i:Nat}{v:V}(h:i∉O):fob F (Z.set i (some v)) O=fob F Z O:=by
 have:ownA (Z.set i (some v)) O=ownA Z O:=by
  induction O with
  | nil=>rfl
  | cons j O ih =>
   unfold ownA;rw[zbw (by rintro rfl;exact h zaa),ih fun z=>h (zaw _ z)]
 unfold fob;rw[this]
def RS.set(R:RS J K Hz H F O Z Y){i:Nat}{d:D}{v:V}(ho:i∉O)(hr:Rep J K (hid H (fob F Z O)) d v):RS J K Hz H F O (Z.set i (some v)) (Y.set i (some d)):=by
 have ne:∀ j∈O,j≠i:=fun j hj e=>ho (e ▸ hj)
 refine⟨by simp[R.len],R.same,R.fin,fun j e hd hj=>?_,fun j hj=>?_,fun j hj k hk a e1 e2=>?_⟩
 ·rw[jbr ho]
  by_cases hji:j=i
  ·subst hji;have hl:j<Y.length:=by
    by_cases q:j<Y.length
    ·exact q
    ·rw[List.getElem?_eq_none (by simpa using q)] at hd;cases hd
   rw[zcz hl] at hd;cases hd;exact⟨v,zcz (by rw[R.len];exact hl),hr⟩
  ·rw[zbw (Ne.symm hji)] at hd |-
   exact R.val j e hd hj
 ·rw[jbr ho,zbw (Ne.symm (ne j hj)),zbw (Ne.symm (ne j hj))];exact R.own j hj
 ·rw[zbw (Ne.symm (ne j hj))] at e1;rw[zbw (Ne.symm (ne k hk))] at e2;exact R.nd j hj k hk a e1 e2
def RS.take(R:RS J K Hz H F O Z Y){i:Nat}{ds:List D}{p:Addr}{xs:List V}{H1:Hp}(ho:i∉O)(hi:i<Y.length)(e:Same H H1)(hp:H1 p=none)(hr:Reps J K (hid H1 (fob F Z O)) ds xs) :
  RS J K Hz (upd H1 p (.lst xs)) F (i::O) (Z.set i (some (.ref p))) (Y.set i (some (.lst ds))):=by
 have R1:=R.mono e;have p0:=R1.fresh0 hp;have pf:=R1.fresh hp;have ne:∀ j∈O,j≠i:=fun j hj e=>ho (e ▸ hj)
 have lZ:i<Z.length:=by rw[R.len];exact hi
 have gp:∀ b,fob F (Z.set i (some (.ref p))) (i::O) b=true↔b=p\/fob F Z O b=true:=fun b=>by
  rw[fob_t,fob_t];constructor
  ·rintro (q|⟨j,hj,q⟩)
   ·exact .inr (.inl q)
   ·rcases List.mem_cons.mp hj with rfl|hj
    ·rw[zcz lZ] at q;cases q;exact .inl rfl
    ·rw[zbw (Ne.symm (ne j hj))] at q;exact .inr (.inr ⟨j,hj,q⟩)
  ·rintro (rfl|q|⟨j,hj,q⟩)
   ·exact .inr ⟨i,zaa,zcz lZ⟩
   ·exact .inl q
   ·exact .inr ⟨j,zaw _ hj,by rw[zbw (Ne.symm (ne j hj))];exact q⟩
 have eqH:hid (upd H1 p (.lst xs)) (fob F (Z.set i (some (.ref p))) (i::O))=hid H1 (fob F Z O):=by
  funext b
  by_cases hb:b=p
  ·subst hb;unfold hid;rw[if_pos ((gp b).mpr (.inl rfl)),hp]
   split<;>rfl
  ·unfold hid;rw[jal hb]
   cases q:fob F Z O b with
   | true=>rw[if_pos ((gp b).mpr (.inr q)),if_pos rfl]
   | false =>
    rw[if_neg (by rw[gp];rintro (z|z);exact hb z;rw[q] at z;cases z),if_neg (by decide)]
 refine⟨by simp[R.len],jlu R1.same p0,fun b hb=>jl2 (R1.fin b hb),fun j d hd hj=>?_,fun j hj=>?_,fun j hj k hk a e1 e2=>?_⟩
 ·have hji:j≠i:=fun z=>hj (z ▸ zaa)
  rw[eqH];rw[zbw (Ne.symm hji)] at hd |-
  exact R1.val j d hd fun z=>hj (zaw _ z)
 ·rw[eqH];rcases List.mem_cons.mp hj with rfl|hj
  ·exact⟨p,xs,ds,zcz hi,zcz lZ,jaq,⟨p0,by cases z:F p with|false=>rfl|true=>rw[fob_t.mpr (.inl z)] at pf;cases pf⟩,hr⟩
  ·obtain⟨a,ys,es,q1,q2,q3,q4,q5⟩:=R1.own j hj;refine⟨a,ys,es,by rw[zbw (Ne.symm (ne j hj))];exact q1,by rw[zbw (Ne.symm (ne j hj))];exact q2,?_,q4,q5⟩;rw[jal (jbb q3 hp)];exact q3
 ·have np:∀ j∈O,∀ a,Z[j]? = some (some (.ref a))->a≠p:=fun j hj a q z=>by
   obtain⟨a',ys,es,q1,q2,q3,q4,q5⟩:=R1.own j hj;rw[q] at q2;cases q2
   rw[z,hp] at q3;cases q3
  rcases List.mem_cons.mp hj with rfl|hj
  ·rw[zcz lZ] at e1;cases e1;rcases List.mem_cons.mp hk with rfl|hk
   ·rfl
   ·rw[zbw (Ne.symm (ne k hk))] at e2;exact absurd rfl (np k hk p e2)
  ·rw[zbw (Ne.symm (ne j hj))] at e1;rcases List.mem_cons.mp hk with hke|hk
   ·subst hke;rw[zcz lZ] at e2;cases e2;exact absurd rfl (np j (by assumption) p e1)
   ·rw[zbw (Ne.symm (ne k hk))] at e2;exact R.nd j hj k hk a e1 e2
def RS.write(R:RS J K Hz H F O Z Y){i:Nat}{a:Addr}{ds:List D}{xs:List V}(hi:i∈O)(ha:Z[i]? = some (some (.ref a)))(hr:Reps J K (hid H (fob F Z O)) ds xs) :
  RS J K Hz (upd H a (.lst xs)) F O Z (Y.set i (some (.lst ds))):=by
 obtain⟨a',ys,es,q1,q2,q3,q4,q5⟩:=R.own i hi;rw[ha] at q2;cases q2
 have hl:i<Y.length:=(zbb.mp q1).1;have hh:hid (upd H a (.lst xs)) (fob F Z O)=hid H (fob F Z O):=jgd (fob_t.mpr (.inr ⟨i,hi,ha⟩));refine⟨by simp[R.len],jlu R.same q4.1,fun b hb=>jl2 (R.fin b hb),fun j d hd hj=>?_,fun j hj=>?_,R.nd⟩
 ·have hji:j≠i:=fun z=>hj (z ▸ hi)
  rw[hh];rw[zbw (Ne.symm hji)] at hd;exact R.val j d hd hj
 ·rw[hh]
  by_cases hji:j=i
  ·subst hji;exact⟨a,xs,ds,zcz hl,ha,jaq,q4,hr⟩
  ·obtain⟨b,zs,fs,p1,p2,p3,p4,p5⟩:=R.own j hj;refine⟨b,zs,fs,by rw[zbw (Ne.symm hji)];exact p1,p2,?_,p4,p5⟩;rw[jal (show b≠a from fun z=>hji (R.nd j hj i hi b p2 (by rw[z];exact ha)))];exact p3
end
def XRep(K:W.Frag)(H:Hp)(x:XD)(c:Value)(dx:Option Addr):Prop:=False
def okX(K:W.Frag)(Hz:Hp)(E:XK)(x:XD):Prop:=∀ c dx H',Same Hz H'->XRep K H' x c dx->E c dx H'
inductive tD(K:W.Frag)(O:List Nat)(E:XK)(f:DSt->M D)(Z:St)(H:Hp)(Q:VK):Prop
 | mk (J:Rho) (Hz:Hp) (F:qd) (Y:DSt) (r:Except XD D) (R:RS J K Hz H F O Z Y) (hf:f Y=some r) (k:match (generalizing:=false) r with
  | .ok d=>∀ v H',Same H H'->Rep J K (hid H' (fob F Z O)) d v->Q v H'
  | .error x=>okX K Hz E x)
def DE(X:Cx)(O:List Nat)(E:XK)(e:Expr)(f:DSt->M D):Prop:=PE X e (tD X.K O E f)
inductive tB(K:W.Frag)(O:List Nat)(E:XK)(f:DSt->M Bool)(Z:St)(H:Hp)(Q:Bool->Hp->Prop):Prop
 | mk (J:Rho) (Hz:Hp) (F:qd) (Y:DSt) (r:Except XD Bool) (R:RS J K Hz H F O Z Y) (hf:f Y=some r) (k:match (generalizing:=false) r with
  | .ok b=>∀ H',Same H H'->Q b H'
  | .error x=>okX K Hz E x)
def DT(X:Cx)(O:List Nat)(E:XK)(e:Expr)(f:DSt->M Bool):Prop:=PT X e (tB X.K O E f)
inductive tL(K:W.Frag)(O:List Nat)(E:XK)(f:DSt->M (List D))(Z:St)(H:Hp)(Q:List V->Hp->Prop):Prop
 | mk (J:Rho) (Hz:Hp) (F:qd) (Y:DSt) (r:Except XD (List D)) (R:RS J K Hz H F O Z Y) (hf:f Y=some r) (k:match (generalizing:=false) r with
  | .ok ds=>∀ vs H',Same H H'->Reps J K (hid H' (fob F Z O)) ds vs->Q vs H'
  | .error x=>okX K Hz E x)
def DA(X:Cx)(O:List Nat)(E:XK)(es:List Expr)(f:DSt->M (List D)):Prop:=PA X es (tL X.K O E f)
def vR(i:Nat):DSt->M D:=fun Y=>M.o (Y[i]?).join
def fC(d:D):DSt->M D:=fun _=>M.p d
def f2(g:D->D->Option D)(fa fb:DSt->M D):DSt->M D:=fun Y=>(fa Y).b fun x=>(fb Y).b fun y=>M.o (g x y)
def f1(g:D->Option D)(fa:DSt->M D):DSt->M D:=fun Y=>(fa Y).b fun x=>M.o (g x)
def t2(g:D->D->Option D)(fa fb:DSt->M D):DSt->M Bool:=fun Y=>(fa Y).b fun x=>(fb Y).b fun y=>match g x y with
 | some (.bl b)=>M.p b
 | _=>none
def fNil:DSt->M (List D):=fun _=>M.p []
def jac(f:DSt->M D)(g:DSt->M (List D)):DSt->M (List D):=fun Y=>(f Y).b fun x=>(g Y).b fun xs=>M.p (x::xs)
def fL(k:List D->Option D)(g:DSt->M (List D)):DSt->M D:=fun Y=>(g Y).b fun xs=>M.o (k xs)
section
variable {J:Rho}{X:Cx}{O:List Nat}{E:XK}{a b c e:Expr}{es:List Expr}{fa fb fc:DSt->M D}{fl:DSt->M (List D)}{pos:Pos}
def join_some{Y:DSt}{i:Nat}{d:D}(h:(Y[i]?).join=some d):Y[i]? = some (some d):=by
 cases e:Y[i]? with
 | none=>rw[e] at h;cases h
 | some o=>rw[e] at h;exact congrArg some h
def jab(i:Nat){x:Str}(ho:O.contains i=false:=by rfl)(hN:X.N[i]? = some x:=by rfl)(hv:Vis X.env.scope x:=by first|exact Or.inl rfl|exact Or.inr (Or.inl rfl)|exact Or.inr (Or.inr rfl))
  (hd:(x == ("__debug__":Str))=false:=by decide) (hcd:(x == ("__classdict__":Str))=false:=by decide):DE X O E (.Name x pos) (vR i):=by
 rintro U s Z H Q I ⟨J,Hz,F,Y,r,R,hf,h⟩;obtain⟨d,e,rfl⟩:=M.o_inv hf;have ho':i∉O:=fun z=>by rw[zbc.mpr z] at ho;cases ho
 obtain⟨v,q1,q2⟩:=R.val i d (join_some e) ho';exact jmu hN hv hd hcd U s Z H Q I ⟨v,q1,h v H (Same.refl H) q2⟩
def jky{t:TE}{d:D}{v:V}(h:PE X e (tC v))(hr:∀ J H,Rep J X.K H d v):DE X O E e (fC d):=by
 rintro U s Z H Q I ⟨J,Hz,F,Y,r,R,hf,k⟩;cases hf;exact h U s Z H Q I (k v H (Same.refl H) (hr _ _))
def jaf{i:Int}{j}:DE X O E (.Constant (.int i) j pos) (fC (.int i)):=jky (t:=tC (.int i)) jF0 fun _ _=>rep_int.mpr rfl
def js8{k:Bool}{j}:DE X O E (.Constant (.bool k) j pos) (fC (.bl k)):=jky (t:=tC (.bl k)) jIj fun _ _=>rep_bl.mpr rfl
def jmk{j}:DE X O E (.Constant .none j pos) (fC .non):=jky (t:=tC .non) jF2 fun _ _=>rep_non.mpr rfl
def jai{x:Str}{j}:DE X O E (.Constant (.str x) j pos) (fC (.str x)):=jky (t:=tC (.str x)) jF4 fun _ _=>rep_str.mpr rfl
def OpD(K:W.Frag)(g:D->D->Option D)(r:R2):Prop:=∀ x y d,g x y=some d->∀ (J:Rho) (H:Hp) (G:qd) u v (Q:VK),(∀ p,H p=none->G p=false)->Rep J K (hid H G) x u->Rep J K (hid H G) y v ->
 (∀ w H',Same H H'->Rep J K (hid H' G) d w->Q w H')->r u v H Q
def UnD(K:W.Frag)(g:D->Option D)(r:V->Hp->VK->Prop):Prop:=∀ x d,g x=some d->∀ (J:Rho) (H:Hp) (G:qd) u (Q:VK),(∀ p,H p=none->G p=false)->Rep J K (hid H G) x u ->
 (∀ w H',Same H H'->Rep J K (hid H' G) d w->Q w H')->r u H Q
def CaD(K:W.Frag)(g:List D->Option D)(r:List V->Hp->VK->Prop):Prop:=∀ xs d,g xs=some d->∀ (J:Rho) (H:Hp) (G:qd) us (Q:VK),(∀ p,H p=none->G p=false)->Reps J K (hid H G) xs us ->
 (∀ w H',Same H H'->Rep J K (hid H' G) d w->Q w H')->r us H Q
def jrm{g:D->D->Option D}{r:R2}{Z:St}{H:Hp}{Q:VK}(hg:OpD X.K g r)(h:tD X.K O E (f2 g fa fb) Z H Q):tOp r (tD X.K O E fa) (tD X.K O E fb) Z H Q:=by
 obtain⟨J,Hz,F,Y,rr,R,hf,h⟩:=h;rcases M.b_inv hf with ⟨x,e1,hf⟩|⟨x,e1,rfl⟩
 ·refine⟨J,Hz,F,Y,.ok x,R,e1,fun u H1 s1 r1=>?_⟩;rcases M.b_inv hf with ⟨y,e2,hf⟩|⟨y,e2,rfl⟩
  ·refine⟨J,Hz,F,Y,.ok y,R.mono s1,e2,fun v H2 s2 r2=>?_⟩;obtain⟨d,hd,rfl⟩:=M.o_inv hf;exact hg x y d hd J H2 _ u v Q (fun p hp=>(R.mono (s1.trans s2)).fresh hp) (r1.mono (jax s2)) r2 fun w H3 s3 r3=>h w H3 (s1.trans (s2.trans s3)) r3
  ·exact⟨J,Hz,F,Y,.error y,R.mono s1,e2,h⟩
 ·exact⟨J,Hz,F,Y,.error x,R,e1,h⟩
def jam{op:Operator}{g:D->D->Option D}{r:R2}(ho:OpR X (binaryOp op) r)(hg:OpD X.K g r)(ha:DE X O E a fa)(hb:DE X O E b fb):DE X O E (.BinOp a op b pos) (f2 g fa fb) :=
 fun U s Z H Q I h=>jF3 ho ha hb U s Z H Q I (jrm hg h)
def jbc{g:D->D->Option D}{r:R2}(ho:IxR X r)(hg:OpD X.K g r)(ha:DE X O E a fa)(hb:DE X O E b fb)(hs:jqc b:=by exact fun _ _=>rfl):DE X O E (.Subscript a b pos) (f2 g fa fb) :=
 fun U s Z H Q I h=>jF1 ho ha hb hs U s Z H Q I (jrm hg h)
def jeh{op:CmpOp}{g:D->D->Option D}{r:R2}(ho:OpR X (compareOp op) r)(hg:OpD X.K g r)(ha:DE X O E a fa)(hb:DE X O E b fb)(hm:behindInMarks op b=false):DE X O E (.Compare a [op] [b] pos) (f2 g fa fb) :=
 fun U s Z H Q I h=>jv0 ho ha hb hm U s Z H Q I (jrm hg h)
def jas{op:CmpOp}{g:D->D->Option D}{r:R2}(ho:OpR X (compareOp op) r)(hg:OpD X.K g r)(ha:DE X O E a fa)(hb:DE X O E b fb)(hm:behindInMarks op b=false):DT X O E (.Compare a [op] [b] pos) (t2 g fa fb):=by
 rintro U s Z H Q I ⟨J,Hz,F,Y,rr,R,hf,h⟩;refine jwb ho ha hb hm U s Z H Q I (jrm (r:=r) hg ?_);have key:∃ r':Except XD D,f2 g fa fb Y=some r'/\(match r',rr with|.ok d,.ok b=>d=.bl b|.error x,.error y=>x=y|_,_=>False):=by
  rcases M.b_inv hf with ⟨x,e1,hf⟩|⟨x,e1,rfl⟩
  ·rcases M.b_inv hf with ⟨y,e2,hf⟩|⟨y,e2,rfl⟩
   ·unfold f2;rw[e1,M.b_ok,e2,M.b_ok]
    cases e3:g x y with
    | none=>rw[e3] at hf;cases hf
    | some d =>
     rw[e3] at hf
     cases d with
     | bl k=>cases hf;exact⟨_,rfl,rfl⟩
     | _=>cases hf
   ·exact⟨.error y,by unfold f2;rw[e1,M.b_ok,e2];rfl,rfl⟩
  ·exact⟨.error x,by unfold f2;rw[e1];rfl,rfl⟩
 obtain⟨r',e,q⟩:=key;refine⟨J,Hz,F,Y,r',R,e,?_⟩
 cases r' with
 | error x=>cases rr with
  | error y=>cases q;exact h
  | ok _=>exact q.elim
 | ok d=>cases rr with
  | error y=>exact q.elim
  | ok k =>
   cases q;exact fun v H' s' rv=>⟨k,rep_bl.mp rv,h H' s'⟩
def jJc{g:D->Option D}{r:V->Hp->VK->Prop}{Z:St}{H:Hp}{Q:VK}(hg:UnD X.K g r)(h:tD X.K O E (f1 g fa) Z H Q):tUn r (tD X.K O E fa) Z H Q:=by
 obtain⟨J,Hz,F,Y,rr,R,hf,h⟩:=h;rcases M.b_inv hf with ⟨x,e1,hf⟩|⟨x,e1,rfl⟩
 ·refine⟨J,Hz,F,Y,.ok x,R,e1,fun u H1 s1 r1=>?_⟩;obtain⟨d,hd,rfl⟩:=M.o_inv hf;exact hg x d hd J H1 _ u Q (fun p hp=>(R.mono s1).fresh hp) r1 fun w H3 s3 r3=>h w H3 (s1.trans s3) r3
 ·exact⟨J,Hz,F,Y,.error x,R,e1,h⟩
def js9{op:UnaryOp}{g:D->Option D}{r:V->Hp->VK->Prop}(ho:UnR X (unaryOp op) r)(hg:UnD X.K g r)(ha:DE X O E a fa):DE X O E (.UnaryOp op a pos) (f1 g fa) :=
 fun U s Z H Q I h=>jIl ho ha U s Z H Q I (jJc hg h)
def jae:DA X O E [] fNil:=by
 rintro p U s Z H Q I ⟨J,Hz,F,Y,r,R,hf,h⟩;cases hf;exact jlo p U s Z H Q I (h [] H (Same.refl H) Reps.nil)
def jaa(ha:DE X O E e fa)(hr:DA X O E es fl)(hs:zsE e es X.env:=by rfl):DA X O E (e::es) (jac fa fl):=by
 rintro p U s Z H Q I ⟨J,Hz,F,Y,r,R,hf,h⟩;refine je2 ha hr hs p U s Z H Q I ?_;rcases M.b_inv hf with ⟨x,e1,hf⟩|⟨x,e1,rfl⟩
 ·refine⟨J,Hz,F,Y,.ok x,R,e1,fun u H1 s1 r1=>?_⟩;rcases M.b_inv hf with ⟨xs,e2,hf⟩|⟨y,e2,rfl⟩
  ·cases hf;exact⟨J,Hz,F,Y,.ok xs,R.mono s1,e2,fun vs H2 s2 r2=>h (u::vs) H2 (s1.trans s2) (Reps.cons (r1.mono (jax s2)) r2)⟩
  ·exact⟨J,Hz,F,Y,.error y,R.mono s1,e2,h⟩
 ·exact⟨J,Hz,F,Y,.error x,R,e1,h⟩
def ju9{k:List D->Option D}{r:List V->Hp->VK->Prop}{Z:St}{H:Hp}{Q:VK}(hg:CaD X.K k r)(h:tD X.K O E (fL k fl) Z H Q):tCB r (tL X.K O E fl) Z H Q:=by
 obtain⟨J,Hz,F,Y,rr,R,hf,h⟩:=h;rcases M.b_inv hf with ⟨x,e1,hf⟩|⟨x,e1,rfl⟩
 ·refine⟨J,Hz,F,Y,.ok x,R,e1,fun u H1 s1 r1=>?_⟩;obtain⟨d,hd,rfl⟩:=M.o_inv hf;exact hg x d hd J H1 _ u Q (fun p hp=>(R.mono s1).fresh hp) r1 fun w H3 s3 r3=>h w H3 (s1.trans s3) r3
 ·exact⟨J,Hz,F,Y,.error x,R,e1,h⟩
def jbk{k:List D->Option D}{r:List V->Hp->VK->Prop}{x:Str}{id:String}{p:Pos}(hc:CallR X (.builtin id) r)(hg:CaD X.K k r)(hG:Gl X x)(hm:X.mg x=none)(hv:bootBuiltins x=some (.builtin id))(ha:DA X O E (e::es) fl)
  (hn:x≠"__name__":=by decide) (hdb:(x == ("__debug__":Str))=false:=by decide) (he:zsE e es X.env:=by rfl) (hpl:zbT pos es X.env:=by rfl) :
  DE X O E (.Call (.Name x p) (e::es) [] pos) (fL k fl):=fun U s Z H Q I h=>jkr hc hG hm hv ha hn hdb he hpl U s Z H Q I (ju9 hg h)
def ja3{k:List D->Option D}{r:List V->Hp->VK->Prop}{x:Str}{T:String}{p:Pos}(hc:CallR X (.type T) r)(hg:CaD X.K k r)(hG:Gl X x)(hm:X.mg x=none)(hv:bootBuiltins x=some (.type T))(ha:DA X O E (e::es) fl)
  (hn:x≠"__name__":=by decide) (hdb:(x == ("__debug__":Str))=false:=by decide) (he:zsE e es X.env:=by rfl) (hpl:zbT pos es X.env:=by rfl) :
  DE X O E (.Call (.Name x p) (e::es) [] pos) (fL k fl):=fun U s Z H Q I h=>jvz hc hG hm hv ha hn hdb he hpl U s Z H Q I (ju9 hg h)
def jbq(xs:List D):Option D:=if xs.length<=sizeLine then some (.tup xs) else none
def ja2(xs:List D):Option D:=if xs.length<=sizeLine then some (.lst xs) else none
def jdz{J:Rho}{K:W.Frag}{H:Hp}{G:qd}{p:Addr}{vs:List V}{ds:List D}(hp:H p=none)(hG:G p=false)(h:Reps J K (hid H G) ds vs):Rep J K (hid (upd H p (.tup vs)) G) (.tup ds) (.ref p) :=
 rep_tup.mpr ⟨p,vs,rfl,SqT.of (hid_some.mpr ⟨hG,jaq⟩),h.mono (jax (jbs hp))⟩
def jgj{J:Rho}{K:W.Frag}{H:Hp}{G:qd}{p:Addr}{vs:List V}{ds:List D}(hp:H p=none)(hG:G p=false)(h:Reps J K (hid H G) ds vs):Rep J K (hid (upd H p (.lst vs)) G) (.lst ds) (.ref p) :=
 rep_lst.mpr ⟨p,vs,rfl,SqL.of (hid_some.mpr ⟨hG,jaq⟩),h.mono (jax (jbs hp))⟩
def jbi{x1}(h:DA X O E es fl):DE X O E (.Tuple es x1 pos) (fL jbq fl):=by
 rintro U s Z H Q I ⟨J,Hz,F,Y,rr,R,hf,k⟩;refine jAc h U s Z H Q I ?_;rcases M.b_inv hf with ⟨x,e1,hf⟩|⟨x,e1,rfl⟩
 ·refine⟨J,Hz,F,Y,.ok x,R,e1,fun u H1 s1 r1=>?_⟩;obtain⟨d,hd,rfl⟩:=M.o_inv hf;unfold jbq at hd
  split at hd
  ·rename_i hz;cases hd;exact⟨by rw[r1.length];exact hz,fun p hp=>k _ _ (s1.trans (jbs hp)) (jdz hp ((R.mono s1).fresh hp) r1)⟩
  ·cases hd
 ·exact⟨J,Hz,F,Y,.error x,R,e1,k⟩
def jbu(h:DA X O E es fl):DE X O E (.List es pos) (fL ja2 fl):=by
 rintro U s Z H Q I ⟨J,Hz,F,Y,rr,R,hf,k⟩;refine jsc h U s Z H Q I ?_;rcases M.b_inv hf with ⟨x,e1,hf⟩|⟨x,e1,rfl⟩
 ·refine⟨J,Hz,F,Y,.ok x,R,e1,fun u H1 s1 r1=>?_⟩;obtain⟨d,hd,rfl⟩:=M.o_inv hf;unfold ja2 at hd
  split at hd
  ·rename_i hz;cases hd;exact⟨by rw[r1.length];exact hz,fun p hp=>k _ _ (s1.trans (jbs hp)) (jgj hp ((R.mono s1).fresh hp) r1)⟩
  ·cases hd
 ·exact⟨J,Hz,F,Y,.error x,R,e1,k⟩
def fAnd(fa fb:DSt->M D):DSt->M D:=fun Y=>(fa Y).b fun x=>match x with
 | .bl true=>fb Y
 | .bl false=>M.p (.bl false)
 | _=>none
def fOr(fa fb:DSt->M D):DSt->M D:=fun Y=>(fa Y).b fun x=>match x with
 | .bl true=>M.p (.bl true)
 | .bl false=>fb Y
 | _=>none
def gNot:D->Option D
 | .bl b=>some (.bl !b)
 | _=>none
def tAnd(ta tb:DSt->M Bool):DSt->M Bool:=fun Y=>(ta Y).b fun x=>if x=true then tb Y else M.p false
def tOr(ta tb:DSt->M Bool):DSt->M Bool:=fun Y=>(ta Y).b fun x=>if x=true then M.p true else tb Y
def tNot(ta:DSt->M Bool):DSt->M Bool:=fun Y=>(ta Y).b fun x=>M.p !x
def fIf(tc:DSt->M Bool)(fa fb:DSt->M D):DSt->M D:=fun Y=>(tc Y).b fun x=>if x=true then fa Y else fb Y
variable {rest:List Expr}{ta tb' tc:DSt->M Bool}
def jrt{op}(h:DE X O E a fa):DE X O E (.BoolOp op [a] pos) fa:=fun U s Z H Q I hw=>jAb h U s Z H Q I hw
def jzm(ha:DE X O E a fa)(hb:DE X O E (.BoolOp .And (b::rest) pos) fb):DE X O E (.BoolOp .And (a::b::rest) pos) (fAnd fa fb):=by
 rintro U s Z H Q I ⟨J,Hz,F,Y,rr,R,hf,k⟩;refine jz9 ha hb U s Z H Q I ?_;rcases M.b_inv hf with ⟨x,e1,hf⟩|⟨x,e1,rfl⟩
 ·refine⟨J,Hz,F,Y,.ok x,R,e1,fun u H1 s1 r1=>?_⟩
  cases x with
  | bl z =>
   refine⟨z,rep_bl.mp r1,?_⟩
   cases z with
   | true =>
    refine iteT ⟨J,Hz,F,Y,rr,R.mono s1,hf,?_⟩
    cases rr with
    | ok d=>exact fun v H' s' r'=>k v H' (s1.trans s') r'
    | error y=>exact k
   | false =>
    refine iteF ?_;cases hf;exact k _ H1 s1 (rep_bl.mpr rfl)
  | _=>cases hf
 ·exact⟨J,Hz,F,Y,.error x,R,e1,k⟩
def jBe(ha:DE X O E a fa)(hb:DE X O E (.BoolOp .Or (b::rest) pos) fb):DE X O E (.BoolOp .Or (a::b::rest) pos) (fOr fa fb):=by
 rintro U s Z H Q I ⟨J,Hz,F,Y,rr,R,hf,k⟩;refine jIk ha hb U s Z H Q I ?_;rcases M.b_inv hf with ⟨x,e1,hf⟩|⟨x,e1,rfl⟩
 ·refine⟨J,Hz,F,Y,.ok x,R,e1,fun u H1 s1 r1=>?_⟩
  cases x with
  | bl z =>
   refine⟨z,rep_bl.mp r1,?_⟩
   cases z with
   | true =>
    refine iteT ?_;cases hf;exact k _ H1 s1 (rep_bl.mpr rfl)
   | false =>
    refine iteF ⟨J,Hz,F,Y,rr,R.mono s1,hf,?_⟩
    cases rr with
    | ok d=>exact fun v H' s' r'=>k v H' (s1.trans s') r'
    | error y=>exact k
  | _=>cases hf
 ·exact⟨J,Hz,F,Y,.error x,R,e1,k⟩
def jEc(ha:DE X O E a fa):DE X O E (.UnaryOp .Not a pos) (f1 gNot fa):=by
 rintro U s Z H Q I ⟨J,Hz,F,Y,rr,R,hf,k⟩;refine jAa ha U s Z H Q I ?_;rcases M.b_inv hf with ⟨x,e1,hf⟩|⟨x,e1,rfl⟩
 ·refine⟨J,Hz,F,Y,.ok x,R,e1,fun u H1 s1 r1=>?_⟩
  cases x with
  | bl z=>cases hf;exact⟨z,rep_bl.mp r1,k _ H1 s1 (rep_bl.mpr rfl)⟩
  | _=>cases hf
 ·exact⟨J,Hz,F,Y,.error x,R,e1,k⟩
def DW(X:Cx)(O:List Nat)(E:XK)(e:Expr)(f:DSt->M Bool):Prop:=PW X e (tB X.K O E f)
def DW.dt{f:DSt->M Bool}(h:DW X O E e f):DT X O E e f:=PW.pt h
def jg6(ha:DT X O E a ta):DW X O E (.BoolOp .And [a] pos) ta:=jC3 ha
def jo6(ha:DT X O E a ta):DW X O E (.BoolOp .Or [a] pos) ta:=jAg ha
def jic(ha:DT X O E a ta)(hb:DW X O E (.BoolOp .And (b::rest) pos) tb'):DW X O E (.BoolOp .And (a::b::rest) pos) (tAnd ta tb'):=by
 rintro wh U s Z H Q I ⟨J,Hz,F,Y,rr,R,hf,k⟩;refine jGc ha hb wh U s Z H Q I ?_;rcases M.b_inv hf with ⟨x,e1,hf⟩|⟨x,e1,rfl⟩
 ·refine⟨J,Hz,F,Y,.ok x,R,e1,fun H1 s1=>?_⟩
  cases x with
  | true =>
   refine iteT ⟨J,Hz,F,Y,rr,R.mono s1,hf,?_⟩
   cases rr with
   | ok d=>exact fun H' s'=>k H' (s1.trans s')
   | error y=>exact k
  | false=>cases hf;exact iteF (k H1 s1)
 ·exact⟨J,Hz,F,Y,.error x,R,e1,k⟩
def jup(ha:DT X O E a ta)(hb:DW X O E (.BoolOp .Or (b::rest) pos) tb'):DW X O E (.BoolOp .Or (a::b::rest) pos) (tOr ta tb'):=by
 rintro wh U s Z H Q I ⟨J,Hz,F,Y,rr,R,hf,k⟩;refine jGd ha hb wh U s Z H Q I ?_;rcases M.b_inv hf with ⟨x,e1,hf⟩|⟨x,e1,rfl⟩
 ·refine⟨J,Hz,F,Y,.ok x,R,e1,fun H1 s1=>?_⟩
  cases x with
  | true=>cases hf;exact iteT (k H1 s1)
  | false =>
   refine iteF ⟨J,Hz,F,Y,rr,R.mono s1,hf,?_⟩
   cases rr with
   | ok d=>exact fun H' s'=>k H' (s1.trans s')
   | error y=>exact k
 ·exact⟨J,Hz,F,Y,.error x,R,e1,k⟩
def jEf(ha:DT X O E a ta):DT X O E (.UnaryOp .Not a pos) (tNot ta):=by
 rintro U s Z H Q I ⟨J,Hz,F,Y,rr,R,hf,k⟩;refine jAf ha U s Z H Q I ?_;rcases M.b_inv hf with ⟨x,e1,hf⟩|⟨x,e1,rfl⟩
 ·cases hf;exact⟨J,Hz,F,Y,.ok x,R,e1,fun H1 s1=>k H1 s1⟩
 ·exact⟨J,Hz,F,Y,.error x,R,e1,k⟩
def truD:D->Option Bool
 | .non=>some false
 | .bl b=>some b
 | .int i=>some (i != 0)
 | .str x=>if x.length<=sizeLine then some ((x.length:Int) != 0) else none
 | .tup xs=>some !xs.isEmpty
 | .lst xs=>some !xs.isEmpty
 | _=>none
def tTru(fa:DSt->M D):DSt->M Bool:=fun Y=>(fa Y).b fun x=>M.o (truD x)
def isE{J:Rho}{K:W.Frag}{H:Hp}{ds:List D}{xs:List V}(h:Reps J K H ds xs):xs.isEmpty=ds.isEmpty:=by
 cases ds with
 | nil=>rw[reps_nil.mp h];rfl
 | cons d ds=>obtain⟨v,r,rfl,_⟩:=reps_cons.mp h;rfl
def jib(ha:DE X O E a fa)(he:∀ whole,isTrue a X.env whole=(do let v <- whole;standAt a.pos;holding [v] (truthy v)):=by exact fun _=>rfl):DT X O E a (tTru fa):=by
 rintro U s Z H Q I ⟨J,Hz,F,Y,rr,R,hf,k⟩;refine jsg ha he U s Z H Q I ?_;rcases M.b_inv hf with ⟨x,e1,hf⟩|⟨x,e1,rfl⟩
 ·refine⟨J,Hz,F,Y,.ok x,R,e1,fun u H1 s1 r1=>?_⟩;obtain⟨z,hz,rfl⟩:=M.o_inv hf;refine⟨z,?_,k H1 s1⟩
  cases x with
  | non=>cases hz;rw[rep_non.mp r1];rfl
  | bl y=>cases hz;rw[rep_bl.mp r1];rfl
  | int i=>cases hz;rw[rep_int.mp r1];rfl
  | str y =>
   by_cases hl:y.length<=sizeLine
   ·have e:truD (.str y)=some ((y.length:Int) != 0):=if_pos hl;rw[e] at hz;cases hz
    rw[rep_str.mp r1];exact⟨hl,rfl⟩
   ·have e:truD (.str y)=none:=if_neg hl;rw[e] at hz;cases hz
  | tup ds =>
   cases hz;obtain⟨q,xs,rfl,q2,q3⟩:=rep_tup.mp r1;exact .inr (.inl ⟨xs,jeb jay q2,by rw[isE q3]⟩)
  | lst ds =>
   cases hz;obtain⟨q,xs,rfl,q2,q3⟩:=rep_lst.mp r1;exact .inl ⟨xs,je5 jay q2,by rw[isE q3]⟩
  | ty n=>cases hz
  | obj n=>cases hz
 ·exact⟨J,Hz,F,Y,.error x,R,e1,k⟩
def jo5(hc:DT X O E c tc)(ha:DE X O E a fa)(hb:DE X O E b fb):DE X O E (.IfExp c a b pos) (fIf tc fa fb):=by
 rintro U s Z H Q I ⟨J,Hz,F,Y,rr,R,hf,k⟩;refine jyi hc ha hb U s Z H Q I ?_;rcases M.b_inv hf with ⟨x,e1,hf⟩|⟨x,e1,rfl⟩
 ·refine⟨J,Hz,F,Y,.ok x,R,e1,fun H1 s1=>?_⟩
  cases x with
  | true =>
   refine iteT ⟨J,Hz,F,Y,rr,R.mono s1,hf,?_⟩
   cases rr with
   | ok d=>exact fun v H' s' r'=>k v H' (s1.trans s') r'
   | error y=>exact k
  | false =>
   refine iteF ⟨J,Hz,F,Y,rr,R.mono s1,hf,?_⟩
   cases rr with
   | ok d=>exact fun v H' s' r'=>k v H' (s1.trans s') r'
   | error y=>exact k
 ·exact⟨J,Hz,F,Y,.error x,R,e1,k⟩
def jo8(g g':D->D->Option D)(fa fb fc:DSt->M D):DSt->M D:=fun Y=>(fa Y).b fun x=>(fb Y).b fun y=>match g x y with
 | some (.bl true)=>(fc Y).b fun z=>M.o (g' y z)
 | some (.bl false)=>M.p (.bl false)
 | _=>none
def jrs{op op':CmpOp}{g g':D->D->Option D}{r r':R2}(ho:OpR X (compareOp op) r)(hg:OpD X.K g r)(ho':OpR X (compareOp op') r')(hg':OpD X.K g' r')(ha:DE X O E a fa)(hb:DE X O E b fb)(hc:DE X O E c fc)
  (hm:lastMarks [op,op'] [b,c]=false:=by with_unfolding_all rfl):DE X O E (.Compare a [op,op'] [b,c] pos) (jo8 g g' fa fb fc):=by
 rintro U s Z H Q I ⟨J,Hz,F,Y,rr,R,hf,k⟩;refine jyh ho ho' ha hb hc hm U s Z H Q I ?_;rcases M.b_inv hf with ⟨x,e1,hf⟩|⟨x,e1,rfl⟩
 ·refine⟨J,Hz,F,Y,.ok x,R,e1,fun u H1 s1 r1=>?_⟩;rcases M.b_inv hf with ⟨y,e2,hf⟩|⟨y,e2,rfl⟩
  ·refine⟨J,Hz,F,Y,.ok y,R.mono s1,e2,fun v H2 s2 r2=>?_⟩
   cases e3:g x y with
   | none=>rw[e3] at hf;cases hf
   | some d =>
    rw[e3] at hf
    cases d with
    | bl z =>
     refine hg x y _ e3 J H2 _ u v _ (fun p hp=>(R.mono (s1.trans s2)).fresh hp) (r1.mono (jax s2)) r2 fun w H3 s3 r3=>⟨z,rep_bl.mp r3,?_⟩
     cases z with
     | true =>
      refine iteT ?_;rcases M.b_inv hf with ⟨z,e4,hf⟩|⟨z,e4,rfl⟩
      ·refine⟨J,Hz,F,Y,.ok z,R.mono (s1.trans (s2.trans s3)),e4,fun t H4 s4 r4=>?_⟩;obtain⟨d,hd,rfl⟩:=M.o_inv hf;exact hg' y z d hd J H4 _ v t Q (fun p hp=>(R.mono (s1.trans (s2.trans (s3.trans s4)))).fresh hp) (r2.mono (jax (s3.trans s4))) r4 fun w H5 s5 r5=>k w H5 (s1.trans (s2.trans (s3.trans (s4.trans s5)))) r5
      ·exact⟨J,Hz,F,Y,.error z,R.mono (s1.trans (s2.trans s3)),e4,k⟩
     | false =>
      refine iteF ?_;cases hf;exact k _ H3 (s1.trans (s2.trans s3)) (rep_bl.mpr rfl)
    | _=>cases hf
  ·exact⟨J,Hz,F,Y,.error y,R.mono s1,e2,k⟩
 ·exact⟨J,Hz,F,Y,.error x,R,e1,k⟩
end
inductive Out where
 | nx (Y:DSt)|rt (d:D)|bk (Y:DSt)|ct (Y:DSt)
def Ok(J:Rho)(K:W.Frag)(O' B:List Nat)(E:XK)(Hz:Hp)(F:qd)(Hv:Hp)(Dn:Ends):Except XD Out->Prop
 | .ok (.nx Y')=>∀ Z' H',Same Hv (hid H' (fob F Z' O'))->RS J K Hz H' F O' Z' Y'->Dn.nx Z' H'
 | .ok (.rt d)=>∀ v H',Same Hz H'->Rep J K (hid H' F) d v->Dn.rt v H'
 | .ok (.bk Y')=>∀ Z' H',Same Hv (hid H' (fob F Z' B))->RS J K Hz H' F B Z' Y'->Dn.bk Z' H'
 | .ok (.ct Y')=>∀ Z' H',Same Hv (hid H' (fob F Z' B))->RS J K Hz H' F B Z' Y'->Dn.ct Z' H'
 | .error x=>okX K Hz E x
inductive sD(K:W.Frag)(O O' B:List Nat)(E:XK)(g:DSt->M Out)(Dn:Ends)(Z:St)(H:Hp):Prop
 | mk (J:Rho) (Hz:Hp) (F:qd) (Y:DSt) (r:Except XD Out) (R:RS J K Hz H F O Z Y) (hf:g Y=some r) (k:Ok J K O' B E Hz F (hid H (fob F Z O)) Dn r)
def DS(X:Cx)(O O' B:List Nat)(E:XK)(st:Stmt)(g:DSt->M Out):Prop:=PS X st (sD X.K O O' B E g)
def DSs(X:Cx)(O O' B:List Nat)(E:XK)(st:List Stmt)(g:DSt->M Out):Prop:=PSs X st (sD X.K O O' B E g)
def Ok.back{J:Rho}{K:W.Frag}{O' B:List Nat}{E:XK}{Hz:Hp}{F:qd}{Hv Hv':Hp}{Dn:Ends}{r:Except XD Out}(e:Same Hv Hv')(h:Ok J K O' B E Hz F Hv Dn r):Ok J K O' B E Hz F Hv' Dn r:=by
 cases r with
 | error x=>exact h
 | ok o =>
  cases o with
  | nx Y'=>exact fun Z' H' f=>h Z' H' (e.trans f)
  | bk Y'=>exact fun Z' H' f=>h Z' H' (e.trans f)
  | ct Y'=>exact fun Z' H' f=>h Z' H' (e.trans f)
  | rt d=>exact h
def gNx:DSt->M Out:=fun Y=>M.p (.nx Y)
def gSeq(g1 g2:DSt->M Out):DSt->M Out:=fun Y=>(g1 Y).b fun o=>match o with
 | .nx Y'=>g2 Y'
 | o=>M.p o
def gSet(i:Nat)(f:DSt->M D):DSt->M Out:=fun Y=>(f Y).b fun d=>M.p (.nx (Y.set i (some d)))
def gRet(f:DSt->M D):DSt->M Out:=fun Y=>(f Y).b fun d=>M.p (.rt d)
def jH4(f:DSt->M D):DSt->M Out:=fun Y=>(f Y).b fun _=>M.p (.nx Y)
def gIf(t:DSt->M Bool)(g1 g2:DSt->M Out):DSt->M Out:=fun Y=>(t Y).b fun b=>if b=true then g1 Y else g2 Y
def gBrk:DSt->M Out:=fun Y=>M.p (.bk Y)
def gCnt:DSt->M Out:=fun Y=>M.p (.ct Y)
def gApp(i:Nat)(f:DSt->M D):DSt->M Out:=fun Y=>(f Y).b fun d=>match (Y[i]?).join with
 | some (.lst ds)=>if ds.length<sizeLine then M.p (.nx (Y.set i (some (.lst (ds++[d]))))) else none
 | _=>none
def forD(g:DSt->M Out)(tg:D->DSt->Option DSt):List D->DSt->M Out
 | [],Y=>M.p (.nx Y)
 | d::ds,Y=>match tg d Y with
  | none=>none
  | some Y1=>(g Y1).b fun o=>match o with
   | .nx Y'=>forD g tg ds Y'
   | .ct Y'=>forD g tg ds Y'
   | .bk Y'=>M.p (.nx Y')
   | .rt v=>M.p (.rt v)
def gFor(fi:DSt->M (List D))(tg:D->DSt->Option DSt)(g:DSt->M Out):DSt->M Out:=fun Y=>(fi Y).b fun ds=>forD g tg ds Y
def jed(t:DSt->M Bool)(g:DSt->M Out):Nat->DSt->M Out
 | 0,_=>none
 | n+1,Y=>(t Y).b fun b=>if b=true then (g Y).b fun o=>match o with
   | .nx Y'=>jed t g n Y'
   | .ct Y'=>jed t g n Y'
   | .bk Y'=>M.p (.nx Y')
   | .rt v=>M.p (.rt v)
  else M.p (.nx Y)
section
variable {J:Rho}{X:Cx}{O O' O'' B:List Nat}{E:XK}{b c e:Expr}{es:List Expr}{fa:DSt->M D}{fl:DSt->M (List D)}{pos:Pos}{st:Stmt}{rest:List Stmt}{g g1 g2:DSt->M Out}{tc:DSt->M Bool}
def ja1:DSs X O O B E [] gNx:=by
 rintro U s Z H Dn I ⟨J,Hz,F,Y,r,R,hf,h⟩;cases hf;exact jwa U s Z H Dn I (h Z H (Same.refl _) R)
def jag(h1:DS X O O' B E st g1)(h2:DSs X O' O'' B E rest g2):DSs X O O'' B E (st::rest) (gSeq g1 g2):=by
 rintro U s Z H Dn I ⟨J,Hz,F,Y,r,R,hf,h⟩;refine jod h1 h2 U s Z H Dn I ?_;rcases M.b_inv hf with ⟨o,e1,hf⟩|⟨x,e1,rfl⟩
 ·refine⟨J,Hz,F,Y,.ok o,R,e1,?_⟩
  cases o with
  | nx Y'=>exact fun Z' H' f R'=>⟨J,Hz,F,Y',r,R',hf,h.back f⟩
  | rt d=>cases hf;exact h
  | bk Y'=>cases hf;exact h
  | ct Y'=>cases hf;exact h
 ·exact⟨J,Hz,F,Y,.error x,R,e1,h⟩
def jah(h1:DS X O O' B E st g):DSs X O O' B E [st] g:=fun U s Z H Dn I h=>joe h1 U s Z H Dn I h
def jBh{sts:List Stmt}(hO:∀ i∈O',i∈O)(h:DSs X O' O'' B E sts g):DSs X O O'' B E sts g:=by
 rintro U s Z H Dn I ⟨J,Hz,F,Y,r,R,hf,k⟩;refine h U s Z H Dn I ⟨J,Hz,F,Y,r,R.thaw hO,hf,k.back (jfk fun b q=>?_)⟩;rcases fob_t.mp q with q|⟨i,hi,q⟩
 ·exact fob_t.mpr (.inl q)
 ·exact fob_t.mpr (.inr ⟨i,hO i hi,q⟩)
def ju6{F:qd}{Z:St}{O O':List Nat}(hO:∀ i∈O',i∈O):∀ b,fob F Z O' b=true->fob F Z O b=true:=fun b q=>by
 rcases fob_t.mp q with q|⟨i,hi,q⟩
 ·exact fob_t.mpr (.inl q)
 ·exact fob_t.mpr (.inr ⟨i,hO i hi,q⟩)
def jsn{F:qd}{Z:St}{H H':Hp}{i:Nat}{v:V}(ho:i∉O)(s1:Same H H'):Same (hid H (fob F Z O)) (hid H' (fob F (Z.set i (some v)) O)):=by
 rw[jbr ho];exact jax s1
def ja0{i:Nat}{x:Str}{pos':Pos}(hN:X.N.Nodup)(he:DE X O E e fa)(ho:O.contains i=false:=by rfl)(hi:X.N[i]? = some x:=by rfl)(hx:Loc X.env.scope x:=by first|exact Or.inl rfl|exact Or.inr rfl)(hs:swapsWith e (some (.Name x pos')) pos.line X.env=pure false:=by rfl)
  (hf:X.fn x=true\/X.env.scope.names.lookup x=some .local:=by first|exact .inl rfl|exact .inr rfl|assumption):DS X O O B E (.Assign [.Name x pos'] e pos) (gSet i fa):=by
 rintro U s Z H Dn I ⟨J,Hz,F,Y,r,R,hg,k⟩;have ho':i∉O:=fun z=>by rw[zbc.mpr z] at ho;cases ho
 refine jlq hN hi hx he hs hf U s Z H Dn I ?_;rcases M.b_inv hg with ⟨d,e1,hg⟩|⟨y,e1,rfl⟩
 ·cases hg;exact⟨J,Hz,F,Y,.ok d,R,e1,fun v H' s' r'=>k _ H' (jsn ho' s') ((R.mono s').set ho' r')⟩
 ·exact⟨J,Hz,F,Y,.error y,R,e1,k⟩
def jzp{i:Nat}{x:Str}{pos' pos2:Pos}(hN:X.N.Nodup)(h:DA X O E es fl)(ho:O.contains i=false:=by rfl)(hi:X.N[i]? = some x:=by rfl)(hx:Loc X.env.scope x:=by first|exact Or.inl rfl|exact Or.inr rfl)(hs:swapsWith (.List es pos2) (some (.Name x pos')) pos.line X.env=pure false:=by rfl)
  (hf:X.fn x=true\/X.env.scope.names.lookup x=some .local:=by first|exact .inl rfl|exact .inr rfl|assumption):DS X O (i::O) B E (.Assign [.Name x pos'] (.List es pos2) pos) (gSet i (fL ja2 fl)):=by
 rintro U s Z H Dn I ⟨J,Hz,F,Y,r,R,hg,k⟩;have ho':i∉O:=fun z=>by rw[zbc.mpr z] at ho;cases ho
 have hl:i<Y.length:=by rw[<- R.len,I.len];exact (zbb.mp hi).1
 refine jlq hN hi hx (jsc h) hs hf U s Z H Dn I ?_;rcases M.b_inv hg with ⟨d,e1,hg⟩|⟨y,e1,rfl⟩
 ·cases hg;rcases M.b_inv e1 with ⟨ds,e1,hd⟩|⟨y,e1,z⟩
  ·refine⟨J,Hz,F,Y,.ok ds,R,e1,fun vs H1 s1 r1=>?_⟩;obtain⟨d',hd',z⟩:=M.o_inv hd;cases z;unfold ja2 at hd'
   split at hd'
   ·rename_i hz;cases hd';refine⟨by rw[r1.length];exact hz,fun p hp=>?_⟩;refine k _ _ ?_ (R.take ho' hl s1 hp r1);have pf:=(R.mono s1).fresh hp;have lZ:i<Z.length:=by rw[R.len];exact hl
    intro b o q;obtain⟨q1,q2⟩:=hid_some.mp q;have q3:=s1 b o q2;have hb:b≠p:=jbb q3 hp;refine hid_some.mpr ⟨?_,by rw[jal hb];exact q3⟩
    cases z:fob F (Z.set i (some (.ref p))) (i::O) b with
    | false=>rfl
    | true =>
     rcases fob_t.mp z with z|⟨j,hj,z⟩
     ·rw[fob_t.mpr (.inl z)] at q1;cases q1
     ·rcases List.mem_cons.mp hj with rfl|hj
      ·rw[zcz lZ] at z;cases z;exact absurd rfl hb
      ·rw[zbw (by rintro rfl;exact ho' hj)] at z;rw[fob_t.mpr (.inr ⟨j,hj,z⟩)] at q1;cases q1
   ·cases hd'
  ·cases z
 ·rcases M.b_inv e1 with ⟨ds,e1,hd⟩|⟨y',e1,z⟩
  ·obtain⟨_,_,z⟩:=M.o_inv hd;cases z
  ·cases z;exact⟨J,Hz,F,Y,.error _,R,e1,k⟩
def jao(he:DE X O E e fa):DS X O O' B E (.Return (some e) pos) (gRet fa):=by
 rintro U s Z H Dn I ⟨J,Hz,F,Y,r,R,hg,k⟩;refine jv9 he U s Z H Dn I ?_;rcases M.b_inv hg with ⟨d,e1,hg⟩|⟨y,e1,rfl⟩
 ·cases hg;exact⟨J,Hz,F,Y,.ok d,R,e1,fun v H' s' r'=>k v H' (R.same.trans s') (r'.mono (jfk fun b q=>fob_t.mpr (.inl q)))⟩
 ·exact⟨J,Hz,F,Y,.error y,R,e1,k⟩
def jcl{s1 s2:List Stmt}(hc:DT X O E c tc)(h1:DSs X O O' B E s1 g1)(h2:DSs X O O' B E s2 g2):DS X O O' B E (.If c s1 s2 pos) (gIf tc g1 g2):=by
 rintro U s Z H Dn I ⟨J,Hz,F,Y,r,R,hg,k⟩;refine jCz hc h1 h2 U s Z H Dn I ?_;rcases M.b_inv hg with ⟨z,e1,hg⟩|⟨y,e1,rfl⟩
 ·refine⟨J,Hz,F,Y,.ok z,R,e1,fun H1 s1=>?_⟩
  cases z with
  | true=>exact iteT ⟨J,Hz,F,Y,r,R.mono s1,hg,k.back (jax s1)⟩
  | false=>exact iteF ⟨J,Hz,F,Y,r,R.mono s1,hg,k.back (jax s1)⟩
 ·exact⟨J,Hz,F,Y,.error y,R,e1,k⟩
def jzo{i:Nat}{x:Str}{p1 p2 p3:Pos}(ho:O.contains i=true)(he:DE X O E e fa)(hi:X.N[i]? = some x:=by rfl)(hv:Vis X.env.scope x:=by first|exact Or.inl rfl|exact Or.inr (Or.inl rfl)|exact Or.inr (Or.inr rfl))
  (hd:(x == ("__debug__":Str))=false:=by decide) (hcd:(x == ("__classdict__":Str))=false:=by decide) (hbase:attributeBase (.Name x p1) "append" X.env (eval (.Name x p1) X.env)=eval (.Name x p1) X.env:=by rfl)
  (hfew:((backTo p3 (starEach [e] X.env)).all (fun x=>!x.1)&&(backToKw p3 (keywordEach [] X.env)).all (fun x=>x.1.isSome)
   && decide ([e].length+([]:List Keyword).length+(if ([]:List Keyword).isEmpty then 0 else 1)<30))=true:=by rfl)
  (hline:(p2.endLine == p3.line)=true:=by rfl) (hs:starEach [e] X.env=[(false,eval e X.env)]:=by rfl) (hsw:swapsWith (.Call (.Attribute (.Name x p1) "append" p2) [e] [] p3) none pos.line X.env=pure false:=by rfl) :
  DS X O O B E (.Expr (.Call (.Attribute (.Name x p1) "append" p2) [e] [] p3) pos) (gApp i fa):=by
 rintro U s Z H Dn I ⟨J,Hz,F,Y,r,R,hg,k⟩;have ho':i∈O:=zbc.mp ho;obtain⟨l,xs0,ds0,q1,q2,q3,q4,q5⟩:=R.own i ho';refine joc (jFx PySem.F.plainAttrs_list PySem.F.slot_list_append PySem.F.type_list_append jlf (jmu hi hv hd hcd) (je2 he jlo hs) hbase hfew hline hs rfl) hsw U s Z H Dn I ?_;refine⟨.ref l,q2,.inl ⟨rfl,_,SqL.of q3⟩,?_⟩;rcases M.b_inv hg with ⟨d,e1,hg⟩|⟨y,e1,rfl⟩
 ·refine⟨J,Hz,F,Y,.ok d,R,e1,fun v H1 s1 r1=>?_⟩;have hj:(Y[i]?).join=some (.lst ds0):=by rw[q1];rfl
  rw[hj] at hg;dsimp only at hg
  split at hg
  ·rename_i hz;cases hg;have R1:=R.mono s1;obtain⟨l',xs,ds,p1,p2,p3,p4,p5⟩:=R1.own i ho';rw[q2] at p2;cases p2
   rw[q1] at p1;cases p1
   refine⟨l,xs,v,rfl,rfl,p3,by rw[p5.length];exact hz,?_⟩;refine k Z _ ?_ (R1.write ho' q2 (p5.append (Reps.cons r1 Reps.nil)));rw[jgd (fob_t.mpr (.inr ⟨i,ho',q2⟩))];exact jax s1
  ·cases hg
 ·exact⟨J,Hz,F,Y,.error y,R,e1,k⟩
inductive tG(K:W.Frag)(O:List Nat)(h:D->DSt->Option DSt)(v:V)(Z:St)(H:Hp)(Q:St->Hp->Prop):Prop
 | mk (J:Rho) (Hz:Hp) (F:qd) (Y:DSt) (d:D) (Y':DSt) (R:RS J K Hz H F O Z Y) (hr:Rep J K (hid H (fob F Z O)) d v) (hf:h d Y=some Y') (k:∀ Z',fob F Z' O=fob F Z O->RS J K Hz H F O Z' Y'->Q Z' H)
def DG(X:Cx)(O:List Nat)(tg:Expr)(h:D->DSt->Option DSt):Prop:=PG X tg (tG X.K O h)
def gName(i:Nat):D->DSt->Option DSt:=fun d Y=>some (Y.set i (some d))
def je7(i j:Nat):D->DSt->Option DSt:=fun d Y=>match d with
 | .tup [x,y]=>some ((Y.set i (some x)).set j (some y))
 | _=>none
def jee{i:Nat}{x:Str}(hN:X.N.Nodup)(ho:O.contains i=false:=by rfl)(hi:X.N[i]? = some x:=by rfl)(hx:Loc X.env.scope x:=by first|exact Or.inl rfl|exact Or.inr rfl)
  (hf:X.fn x=true\/X.env.scope.names.lookup x=some .local:=by first|exact .inl rfl|exact .inr rfl|assumption):DG X O (.Name x pos) (gName i):=by
 rintro U s Z H v u Q I r ⟨J,Hz,F,Y,d,Y',R,rd,e,k⟩;have ho':i∉O:=fun z=>by rw[zbc.mpr z] at ho;cases ho
 cases e;exact jjy hN hi hx hf U s Z H v u Q I r (k _ (jbr ho') (R.set ho' rd))
def jik{i j:Nat}{x y:Str}{px py:Pos}{kk:Nat}(hc:X.calm=true)(hN:X.N.Nodup)(ho:O.contains i=false:=by rfl)(ho2:O.contains j=false:=by rfl)(hi:X.N[i]? = some x:=by rfl)(hj:X.N[j]? = some y:=by rfl)
  (hx:Loc X.env.scope x:=by first|exact Or.inl rfl|exact Or.inr rfl) (hy:Loc X.env.scope y:=by first|exact Or.inl rfl|exact Or.inr rfl)
  (hf:X.fn x=true\/X.env.scope.names.lookup x=some .local:=by first|exact .inl rfl|exact .inr rfl|assumption) (hf2:X.fn y=true\/X.env.scope.names.lookup y=some .local:=by first|exact .inl rfl|exact .inr rfl|assumption) :
  DG X O (.Tuple [.Name x px,.Name y py] kk pos) (je7 i j):=by
 rintro U s Z H v u Q I r ⟨J,Hz,F,Y,d,Y',R,rd,e,k⟩;have ho':i∉O:=fun z=>by rw[zbc.mpr z] at ho;cases ho
 have ho2':j∉O:=fun z=>by rw[zbc.mpr z] at ho2;cases ho2
 unfold je7 at e
 split at e
 ·rename_i d1 d2;cases e;obtain⟨p,xs,rfl,q2,q3⟩:=rep_tup.mp rd;obtain⟨v1,xs1,rfl,r1,q3⟩:=reps_cons.mp q3;obtain⟨v2,xs2,rfl,r2,q3⟩:=reps_cons.mp q3;cases reps_nil.mp q3;refine jAd hc (jjj (jjy hN hi hx hf) (jjj (jjy hN hj hy hf2) jv2)) rfl rfl U s Z H _ u Q I r ?_;refine⟨p,_,rfl,jeb jay q2,rfl,v1,_,rfl,v2,_,rfl,rfl,?_⟩;have e2:fob F ((Z.set i (some v1)).set j (some v2)) O=fob F Z O:=(jbr ho2').trans (jbr ho');refine k _ e2 ?_;have R1:=R.set ho' r1;exact R1.set ho2' (by rw[jbr ho'];exact r2)
 ·cases e
def ItD(J:Rho)(K:W.Frag)(Jq:It)(ds:List D)(Hv:Hp):Prop:=∀ (H':Hp) (G':qd) (i:Nat),Same Hv (hid H' G')->(∀ p,H' p=none->G' p=false) ->
 (i<ds.length->Jq.go i H'/\∀ x H2,Jq.yld i H' x H2->Same H' H2/\∃ d,ds[i]? = some d/\Rep J K (hid H2 G') d x)/\(i=ds.length->Jq.stop i H')
inductive tI(K:W.Frag)(O:List Nat)(E:XK)(f:DSt->M (List D))(Z:St)(H:Hp)(Q:It->Hp->Prop):Prop
 | mk (J:Rho) (Hz:Hp) (F:qd) (Y:DSt) (r:Except XD (List D)) (R:RS J K Hz H F O Z Y) (hf:f Y=some r) (k:match (generalizing:=false) r with
  | .ok ds=>∀ Jq H',Same H H'->ItD J K Jq ds (hid H' (fob F Z O))->Q Jq H'
  | .error x=>okX K Hz E x)
def DI(X:Cx)(O:List Nat)(E:XK)(tg iter:Expr)(f:DSt->M (List D)):Prop:=PI X tg iter (tI X.K O E f)
def jml{tg iter:Expr}{body:List Stmt}{fi:DSt->M (List D)}{h:D->DSt->Option DSt}(hp:PassesOwn (model X.prog X.w) X.A X.env X.xe)(hc:X.calm=true)(hi:DI X O E tg iter fi)(hg:DG X O tg h)(hb:DSs X O O O E body g)
  (hs:∀ x,foldedSetIterable iter X.env x=pure x:=by intro _;rfl):DS X O O B E (.For tg iter body [] pos) (gFor fi h g):=by
 rintro U s Z H Dn I ⟨J,Hz,F,Y,r,R,hgf,k⟩;refine jv8 hp hc hi hg hb hs U s Z H Dn I ?_;rcases M.b_inv hgf with ⟨ds,e1,hgf⟩|⟨y,e1,rfl⟩
 ·refine⟨J,Hz,F,Y,.ok ds,R,e1,fun Jq H1 s1 it=>?_⟩;refine⟨fun i m Z' H'=>m=ds.length-i/\i<=ds.length/\∃ Y',RS J X.K Hz H' F O Z' Y'/\Same (hid H1 (fob F Z O)) (hid H' (fob F Z' O))/\forD g h (ds.drop i) Y'=some r,⟨ds.length,by simp,Nat.zero_le _,Y,R.mono s1,Same.refl _,hgf⟩,?_⟩;rintro i m Z' H' ⟨rfl,hil,Y',R',f',hr⟩;obtain⟨j1,j2⟩:=it H' (fob F Z' O) i f' (fun p hp=>R'.fresh hp)
  by_cases hlt:i<ds.length
  ·obtain⟨go,yld⟩:=j1 hlt;refine .inr ⟨go,fun Z2 H2=>∃ Y2,RS J X.K Hz H2 F O Z2 Y2/\Same (hid H1 (fob F Z O)) (hid H2 (fob F Z2 O))/\forD g h (ds.drop (i+1)) Y2=some r,fun Z2 H2 ⟨Y2,a1,a2,a3⟩=>⟨ds.length-(i+1),by omega,rfl,hlt,Y2,a1,a2,a3⟩,fun x H2 y=>?_⟩;obtain⟨s2,d,hd,rd⟩:=yld x H2 y;have hdr:ds.drop i=d::ds.drop (i+1):=by
    rw[List.drop_eq_getElem_cons hlt];have:ds[i]=d:=by rw[zax hlt] at hd;exact zby hd
    rw[this]
   rw[hdr] at hr;unfold forD at hr
   cases e2:h d Y' with
   | none=>rw[e2] at hr;cases hr
   | some Y1 =>
    rw[e2] at hr;dsimp only at hr;have f2:Same (hid H1 (fob F Z O)) (hid H2 (fob F Z' O)):=f'.trans (jax s2);refine⟨J,Hz,F,Y',d,Y1,R'.mono s2,rd,e2,fun Z3 ef R3=>?_⟩;rcases M.b_inv hr with ⟨o,e3,hr⟩|⟨y,e3,rfl⟩
    ·refine⟨J,Hz,F,Y1,.ok o,R3,e3,?_⟩;rw[ef]
     cases o with
     | nx Y4=>exact fun Z4 H4 f4 R4=>⟨Y4,R4,f2.trans f4,hr⟩
     | ct Y4=>exact fun Z4 H4 f4 R4=>⟨Y4,R4,f2.trans f4,hr⟩
     | bk Y4=>cases hr;exact fun Z4 H4 f4 R4=>k Z4 H4 ((jax s1).trans (f2.trans f4)) R4
     | rt v=>cases hr;exact k
    ·exact⟨J,Hz,F,Y1,.error y,R3,e3,k⟩
  ·have ei:i=ds.length:=by omega
   subst ei;rw[List.drop_length] at hr;cases hr;exact .inl ⟨j2 rfl,k Z' H' ((jax s1).trans f') R'⟩
 ·exact⟨J,Hz,F,Y,.error y,R,e1,k⟩
def jrv{c:Expr}{body:List Stmt}{fuel:Nat}(hp:PassesOwn (model X.prog X.w) X.A X.env X.xe)(hc:DT X O E c tc)(hb:DSs X O O O E body g):DS X O O B E (.While c body [] pos) (jed tc g fuel):=by
 rintro U s Z H Dn I ⟨J,Hz,F,Y,r,R,hg,k⟩;refine jsf hp hc hb U s Z H Dn I ?_;refine⟨fun m Z' H'=>∃ Y',RS J X.K Hz H' F O Z' Y'/\Same (hid H (fob F Z O)) (hid H' (fob F Z' O))/\jed tc g m Y'=some r,⟨fuel,Y,R,Same.refl _,hg⟩,?_⟩;rintro m Z' H' ⟨Y',R',f',hr⟩
 cases m with
 | zero=>cases hr
 | succ m =>
  unfold jed at hr;rcases M.b_inv hr with ⟨z,e1,hr⟩|⟨y,e1,rfl⟩
  ·refine⟨J,Hz,F,Y',.ok z,R',e1,fun H1 s1=>?_⟩;have f1:Same (hid H (fob F Z O)) (hid H1 (fob F Z' O)):=f'.trans (jax s1)
   cases z with
   | true =>
    rw[if_pos rfl] at hr;refine iteT ⟨fun Z2 H2=>∃ Y2,RS J X.K Hz H2 F O Z2 Y2/\Same (hid H (fob F Z O)) (hid H2 (fob F Z2 O))/\jed tc g m Y2=some r,fun Z2 H2 ⟨Y2,a1,a2,a3⟩=>⟨m,Nat.lt_succ_self _,Y2,a1,a2,a3⟩,?_⟩;rcases M.b_inv hr with ⟨o,e3,hr⟩|⟨y,e3,rfl⟩
    ·refine⟨J,Hz,F,Y',.ok o,R'.mono s1,e3,?_⟩
     cases o with
     | nx Y4=>exact fun Z4 H4 f4 R4=>⟨Y4,R4,f1.trans f4,hr⟩
     | ct Y4=>exact fun Z4 H4 f4 R4=>⟨Y4,R4,f1.trans f4,hr⟩
     | bk Y4=>cases hr;exact fun Z4 H4 f4 R4=>k Z4 H4 (f1.trans f4) R4
     | rt v=>cases hr;exact k
    ·exact⟨J,Hz,F,Y',.error y,R'.mono s1,e3,k⟩
   | false =>
    rw[if_neg (by decide)] at hr;cases hr;exact iteF (k Z' H1 f1 (R'.mono s1))
  ·exact⟨J,Hz,F,Y',.error y,R',e1,k⟩
end
end DL
namespace L2
open PyProof.Rows
def ItOn(k:Bool)(h:Heap)(it l:Addr)(i:Nat):Prop:=if k=true then h.IsTupleIter it l i else h.IsListIter it l i
def SrcOn(k:Bool)(h:Heap)(l:Addr)(xs:Array Value):Prop:=if k=true then h.IsTuple l xs else h.IsList l xs
def ItOn.mv{k:Bool}{h h':Heap}{it l:Addr}{i:Nat}(x:ItOn k h it l i)(e:∀ o,h.get? it=some o->h'.get? it=some o):ItOn k h' it l i:=by
 cases k with
 | true=>exact Heap.IsTupleIter.at (h:=h) x e
 | false=>exact Heap.IsListIter.at (h:=h) x e
def SrcOn.mv{k:Bool}{h h':Heap}{l:Addr}{xs:Array Value}(x:SrcOn k h l xs)(e:∀ o,h.get? l=some o->h'.get? l=some o):SrcOn k h' l xs:=by
 cases k with
 | true=>exact Heap.IsTuple.at (h:=h) x e
 | false=>exact Heap.IsList.at (h:=h) x e
def ItOn.ob{k:Bool}{h:Heap}{it l:Addr}{i:Nat}(x:ItOn k h it l i):∃ o vs,h.get? it=some o/\o.data=.fields vs:=by
 cases k with
 | true=>obtain⟨o,e,_,d⟩:=(x:h.IsTupleIter it l i);exact⟨o,_,e,d⟩
 | false=>obtain⟨o,e,_,d⟩:=(x:h.IsListIter it l i);exact⟨o,_,e,d⟩
section
variable {prog:Program}{w:World}{A:Around}{E:qc}{s:Shared}
def jtk{it l:Addr}{i:Nat}{items:Array Value}{x:Value}{Q:qc}(hi:s.heap.IsTupleIter it l i)(hl:s.heap.IsTuple l items)(hx:items[i]? = some x)
  (hQ:∀ h',h'.IsTupleIter it l (i+1)->Heap.SameBut it s.heap h'->Q x { s with heap:=h' }):wpAny (model prog w) A (Builtin.SmallTypes.nextOf (.ref it)) Q E s:=by
 obtain⟨ob,eo,oc,od⟩:=id hi;obtain⟨tl,el,_,nl,dl⟩:=hl;unfold Builtin.SmallTypes.nextOf;refine zay (wpAny_callSpecial?_slot (name:=Str.ofString "__next__") hi.typeIs F.slot_tuple_iterator_next (wpAny_call_entry F.slot_tuple_iterator_next hi.typeIs F.entry_tuple_iterator_next ?_ (F.args_tuple_iterator_next_1 _)));show wpAny _ _ (field (.ref it) 0 >>= _) _ _ s;refine zay (wpAny_field eo od (x:=.ref l) rfl ?_);show wpAny _ _ (if (Value.ref l == Value.none)=true then _ else _) _ _ s;rw[if_neg (show ¬ ((Value.ref l == Value.none)=true) from fun q=>Bool.false_ne_true q)];show wpAny _ _ (field (.ref it) 1 >>= _) _ _ s;refine zay (wpAny_field eo od (x:=.int i 0) rfl (show wpAny _ _ (seqItems? (.ref l) >>= _) _ _ s from zay (wpAny_seqItems el dl ?_)));simp only[Int.toNat_natCast,hx];refine zay (wpAny_setField eo od (by simp) (zab ⟨x,rfl,zab (hQ _ ⟨_,Heap.get?_update_self _ eo (Obj.isFreed_of_fields (Obj.data_mapFields od _)),(Obj.cls_mapFields ..).trans oc,?_⟩ (Heap.SameBut.update ..))⟩));rw[Obj.data_mapFields od];simp[rawInt]
def jmh{it l:Addr}{i:Nat}{items:Array Value}{Q:qc}(hh:A.handled=none)(hi:s.heap.IsTupleIter it l i)(hl:s.heap.IsTuple l items)(hx:items[i]? = none)
  (hE:∀ h' e,Heap.ExtBut it s.heap h'->(∃ o,h'.get? e=some o/\o.cls=.type "StopIteration")->E (.ref e) { s with heap:=h' }):wpAny (model prog w) A (Builtin.SmallTypes.nextOf (.ref it)) Q E s:=by
 obtain⟨ob,eo,oc,od⟩:=id hi;obtain⟨tl,el,_,nl,dl⟩:=hl;unfold Builtin.SmallTypes.nextOf;refine zay (wpAny_callSpecial?_slot (name:=Str.ofString "__next__") hi.typeIs F.slot_tuple_iterator_next (wpAny_call_entry F.slot_tuple_iterator_next hi.typeIs F.entry_tuple_iterator_next ?_ (F.args_tuple_iterator_next_1 _)));show wpAny _ _ (field (.ref it) 0 >>= _) _ _ s;refine zay (wpAny_field eo od (x:=.ref l) rfl ?_);show wpAny _ _ (if (Value.ref l == Value.none)=true then _ else _) _ _ s;rw[if_neg (show ¬ ((Value.ref l == Value.none)=true) from fun q=>Bool.false_ne_true q)];show wpAny _ _ (field (.ref it) 1 >>= _) _ _ s;refine zay (wpAny_field eo od (x:=.int i 0) rfl (show wpAny _ _ (seqItems? (.ref l) >>= _) _ _ s from zay (wpAny_seqItems el dl ?_)));simp only[Int.toNat_natCast,hx];refine zay (wpAny_rule (zay (wpAny_setField eo od (by simp) ?_)));show wpAny _ _ (newExc (.type "StopIteration") [] >>= _) _ _ _;refine zay ?_;simp only[newExc,newTuple];refine zay (wpAny_newObj_type (zay (m:=firstArgMember _ _) (wpAny_of_eq (a:=Value.none) (by first|rfl|(simp only[firstArgMember];rfl)) (wpAny_newObj_type ?_ (by size_fits)))) (by size_fits));simp only[raiseNew];refine zay (wpAny_handled ?_)
 first|rw[show A.in1.handled=none from hh]|rw[hh]
 exact zay (zab (wpAny_throw (hE _ _ (((Heap.SameBut.update ..).extBut.push _).push _) ⟨_,zbz _ rfl,rfl⟩)))
def jlh{k:Bool}{it l:Addr}{i:Nat}{items:Array Value}{x:Value}{Q:qc}(hi:ItOn k s.heap it l i)(hl:SrcOn k s.heap l items)(hx:items[i]? = some x)
  (hQ:∀ h',ItOn k h' it l (i+1)->Heap.SameBut it s.heap h'->Q x { s with heap:=h' }):wpAny (model prog w) A (Builtin.SmallTypes.nextOf (.ref it)) Q E s:=by
 cases k with
 | true=>exact jtk hi hl hx hQ
 | false=>exact wpAny_nextOf_list_item hi hl hx hQ
def jjg{k:Bool}{it l:Addr}{i:Nat}{items:Array Value}{Q:qc}(hh:A.handled=none)(hi:ItOn k s.heap it l i)(hl:SrcOn k s.heap l items)(hx:items[i]? = none)
  (hE:∀ h' e,Heap.ExtBut it s.heap h'->(∃ o,h'.get? e=some o/\o.cls=.type "StopIteration")->E (.ref e) { s with heap:=h' }):wpAny (model prog w) A (Builtin.SmallTypes.nextOf (.ref it)) Q E s:=by
 cases k with
 | true=>exact jmh hh hi hl hx hE
 | false=>exact wpAny_nextOf_list_end hh hi hl hx hE
def ju4{k:Bool}{l:Addr}{xs:Array Value}{Q:qc}(hl:SrcOn k s.heap l xs)
  (h:∀ o,ItOn k (s.heap.push o) s.heap.objs.size l 0->Q (.ref s.heap.objs.size) { s with heap:=s.heap.push o }):wpAny (model prog w) A (pyIter (.ref l)) Q E s:=by
 cases k with
 | true=>exact wpAny_pyIter_tuple hl (h _ ⟨_,zbz _ rfl,rfl,rfl⟩)
 | false=>exact wpAny_pyIter_list hl (h _ ⟨_,zbz _ rfl,rfl,rfl⟩)
structure ZFar(z TI TO i1 i2:Addr):Prop where
 a1:TI≠z
 a2:TO≠z
 a3:i1≠z
 a4:i2≠z
 a5:TI≠TO
 a6:TI≠i1
 a7:TI≠i2
 a8:TO≠i1
 a9:TO≠i2
 a10:i1≠i2
def LFar(z TO i1 i2 l:Addr):Prop:=l≠z/\l≠TO/\l≠i1/\l≠i2
def jzi{k1 k2:Bool}{z TI TO i1 i2 l1 l2:Addr}{n1 n2:Nat}{xs ys:Array Value}{x y a b:Value}{Q:qc}(D:ZFar z TI TO i1 i2)(d1:LFar z TO i1 i2 l1)(d2:LFar z TO i1 i2 l2)
  (hz:IsZip s.heap z TI TO .none) (ht:IsPair s.heap TI (.ref i1) (.ref i2)) (hu:IsPair s.heap TO a b) (j1:ItOn k1 s.heap i1 l1 n1) (j2:ItOn k2 s.heap i2 l2 n2) (c1:SrcOn k1 s.heap l1 xs) (c2:SrcOn k2 s.heap l2 ys)
  (hx:xs[n1]? = some x) (hy:ys[n2]? = some y)
  (hQ:∀ h',IsZip h' z TI TO (rawInt s.heap.objs.size)->IsPair h' TO x y->ItOn k1 h' i1 l1 (n1+1)->ItOn k2 h' i2 l2 (n2+1)->IsPair h' s.heap.objs.size x y ->
   (∀ c o,c≠z->c≠TO->c≠i1->c≠i2->s.heap.get? c=some o->h'.get? c=some o)->Q (.ref s.heap.objs.size) { s with heap:=h' }) :
  wpAny (model prog w) A (Builtin.«zip.__next__» ⟨[.ref z],[]⟩) (fun fin s'=>∃ v,fin=.done (.ret v)/\Q v s') E s:=by
 show wpAny _ _ (field (.ref z) 2 >>= _) _ _ _;refine zay (wpAny_field hz rfl (x:=.bool false) rfl (show wpAny _ _ (field (.ref z) 3 >>= _) _ _ _ from zay (wpAny_field hz rfl (x:=.ref TI) rfl (zay (wpAny_seqItems ht rfl ?_)))));show wpAny _ _ (Builtin.SmallTypes.ownedTupleIsFree (.ref z) >>= _) _ _ _;refine zay ?_;unfold Builtin.SmallTypes.ownedTupleIsFree;refine zay (wpAny_field hz rfl (x:=.none) rfl (zab ?_));simp only[if_true];refine zay (wpAny_rule (zay (wpAny_field hz rfl (x:=.ref TO) rfl (zay (wpAny_setField_rec hz (by simp) fun g1 z1 e1=>zay ?_)))))
 replace z1:IsZip g1 z TI TO .ellipsis:=z1
 simp only[List.zipIdx_cons,List.zipIdx_nil,List.forIn_cons,List.forIn_nil];refine zay (zay (wpAny_onRaise (show wpAny _ _ (Builtin.SmallTypes.nextOf (.ref i1) >>= _) _ _ _ from ?_)));refine zay (jlh (j1.mv fun o q=>e1.extBut _ _ D.a3 q) (c1.mv fun o q=>e1.extBut _ _ d1.1 q) hx fun g2 m1 e2=>zab ?_);have u2:IsPair g2 TO a b:=e2.extBut _ _ D.a8 (e1.extBut _ _ D.a2 hu);refine zay (wpAny_seqItems u2 rfl (zay (wpAny_updateSeq_pair u2 fun g3 u3 e3=>zay (wpAny_letGo (zab ?_)))))
 replace u3:IsPair g3 TO x b:=u3
 have up3:∀ c o,c≠z->c≠TO->c≠i1->s.heap.get? c=some o->g3.get? c=some o:=fun c o p1 p2 p3 q=>e3.extBut _ _ p2 (e2.extBut _ _ p3 (e1.extBut _ _ p1 q))
 refine zay (zay (wpAny_onRaise (show wpAny _ _ (Builtin.SmallTypes.nextOf (.ref i2) >>= _) _ _ _ from ?_)));refine zay (jlh (j2.mv fun o q=>up3 _ o D.a4 D.a9.symm D.a10.symm q) (c2.mv fun o q=>up3 _ o d2.1 d2.2.1 d2.2.2.1 q) hy fun g4 m2 e4=>zab ?_);have u4:IsPair g4 TO x b:=e4.extBut _ _ D.a9 u3;refine zay (wpAny_seqItems u4 rfl (zay (wpAny_updateSeq_pair u4 fun g5 u5 e5=>zay (wpAny_letGo (zab (zab ?_))))))
 replace u5:IsPair g5 TO x y:=u5
 refine zay (wpAny_seqItems u5 rfl (zay (wpAny_newTuple ?_)));have sz:g5.objs.size=s.heap.objs.size:=by rw[e5.1,e4.1,e3.1,e2.1,e1.1]
 have z5:IsZip g5 z TI TO .ellipsis:=e5.extBut _ _ D.a2.symm (e4.extBut _ _ D.a4.symm (e3.extBut _ _ D.a2.symm (e2.extBut _ _ D.a3.symm z1)));have up5:∀ c o,c≠z->c≠TO->c≠i1->c≠i2->s.heap.get? c=some o->g5.get? c=some o:=fun c o p1 p2 p3 p4 q=>e5.extBut _ _ p2 (e4.extBut _ _ p4 (up3 c o p1 p2 p3 q))
 have m15:ItOn k1 g5 i1 l1 (n1+1):=m1.mv fun o q=>e5.extBut _ _ D.a8.symm (e4.extBut _ _ D.a10 (e3.extBut _ _ D.a8.symm q))
 have m25:ItOn k2 g5 i2 l2 (n2+1):=m2.mv fun o q=>e5.extBut _ _ D.a9.symm q
 have zlt:z<g5.objs.size:=zbv z5;show wpAny _ _ (Builtin.SmallTypes.ownedTupleHandOut (.ref z) (.ref g5.objs.size) >>= _) _ _ _;refine zay ?_;unfold Builtin.SmallTypes.ownedTupleHandOut;have z6:IsZip (g5.push { cls:=.type "tuple",data:=.seq #[x,y] }) z TI TO .ellipsis:=zaz _ z5;refine zay (wpAny_setField_rec z6 (by simp) fun g7 z7 e7=>?_)
 replace z7:IsZip g7 z TI TO (rawInt g5.objs.size):=z7
 refine wpAny_setField_rec z7 (by simp) fun g8 z8 e8=>?_
 replace z8:IsZip g8 z TI TO (rawInt g5.objs.size):=z8
 have up8:∀ c o,c≠z->g5.get? c=some o->g8.get? c=some o:=fun c o p1 q=>e8.extBut _ _ p1 (e7.extBut _ _ p1 (zaz _ q))
 have t8:IsPair g8 g5.objs.size x y:=e8.extBut _ _ (Nat.ne_of_gt zlt) (e7.extBut _ _ (Nat.ne_of_gt zlt) (zbz _ rfl));rw[sz] at z8 t8;refine zab ⟨_,rfl,?_⟩;show Q (.ref g5.objs.size) _;rw[sz];exact hQ g8 z8 (up8 _ _ D.a2 u5) (m15.mv fun o q=>up8 _ o D.a3 q) (m25.mv fun o q=>up8 _ o D.a4 q) t8 fun c o p1 p2 p3 p4 q=>up8 c o p1 (up5 c o p1 p2 p3 p4 q)
def jD1{k1 k2:Bool}{z TI TO i1 i2 l1 l2:Addr}{n1 n2:Nat}{xs ys:Array Value}{a b:Value}{Q:PySem.Fin->Shared->Prop}(hh:A.handled=none)(D:ZFar z TI TO i1 i2)(d1:LFar z TO i1 i2 l1)(d2:LFar z TO i1 i2 l2)
  (hz:IsZip s.heap z TI TO .none) (ht:IsPair s.heap TI (.ref i1) (.ref i2)) (hu:IsPair s.heap TO a b) (j1:ItOn k1 s.heap i1 l1 n1) (j2:ItOn k2 s.heap i2 l2 n2) (c1:SrcOn k1 s.heap l1 xs) (c2:SrcOn k2 s.heap l2 ys)
  (hend:xs[n1]? = none\/ys[n2]? = none)
  (hE:∀ h' e,(∀ c o,c≠z->c≠TO->c≠i1->c≠i2->s.heap.get? c=some o->h'.get? c=some o)->(∃ o,h'.get? e=some o/\o.cls=.type "StopIteration")->E (.ref e) { s with heap:=h' }) :
  wpAny (model prog w) A (Builtin.«zip.__next__» ⟨[.ref z],[]⟩) Q E s:=by
 show wpAny _ _ (field (.ref z) 2 >>= _) _ _ _;refine zay (wpAny_field hz rfl (x:=.bool false) rfl (show wpAny _ _ (field (.ref z) 3 >>= _) _ _ _ from zay (wpAny_field hz rfl (x:=.ref TI) rfl (zay (wpAny_seqItems ht rfl ?_)))));show wpAny _ _ (Builtin.SmallTypes.ownedTupleIsFree (.ref z) >>= _) _ _ _;refine zay ?_;unfold Builtin.SmallTypes.ownedTupleIsFree;refine zay (wpAny_field hz rfl (x:=.none) rfl (zab ?_));simp only[if_true];refine zay (wpAny_rule (zay (wpAny_field hz rfl (x:=.ref TO) rfl (zay (wpAny_setField_rec hz (by simp) fun g1 z1 e1=>zay ?_)))))
 replace z1:IsZip g1 z TI TO .ellipsis:=z1
 simp only[List.zipIdx_cons,List.zipIdx_nil,List.forIn_cons,List.forIn_nil];refine zay (zay (wpAny_onRaise (show wpAny _ _ (Builtin.SmallTypes.nextOf (.ref i1) >>= _) _ _ _ from ?_)))
 cases hx:xs[n1]? with
 | none =>
  refine zay (jjg hh (j1.mv fun o q=>e1.extBut _ _ D.a3 q) (c1.mv fun o q=>e1.extBut _ _ d1.1 q) hx fun g2 e f2 he=>?_);obtain⟨oe,q1,q2⟩:=he;have z2:IsZip g2 z TI TO .ellipsis:=f2 _ _ D.a3.symm z1;have nez:e≠z:=fun p=>by subst p;rw[z2] at q1;cases q1;simp at q2
  exact wpAny_setField_rec z2 (by simp) fun g3 _ e3=>hE g3 e (fun c o p1 _ p3 _ q=>e3.extBut _ _ p1 (f2 _ _ p3 (e1.extBut _ _ p1 q))) ⟨oe,e3.extBut _ _ nez q1,q2⟩
 | some x =>
  have hy:ys[n2]? = none:=by rcases hend with h|h;rw[hx] at h;cases h;exact h
  refine zay (jlh (j1.mv fun o q=>e1.extBut _ _ D.a3 q) (c1.mv fun o q=>e1.extBut _ _ d1.1 q) hx fun g2 m1 e2=>zab ?_);have u2:IsPair g2 TO a b:=e2.extBut _ _ D.a8 (e1.extBut _ _ D.a2 hu);refine zay (wpAny_seqItems u2 rfl (zay (wpAny_updateSeq_pair u2 fun g3 u3 e3=>zay (wpAny_letGo (zab ?_)))));have up3:∀ c o,c≠z->c≠TO->c≠i1->s.heap.get? c=some o->g3.get? c=some o:=fun c o p1 p2 p3 q=>e3.extBut _ _ p2 (e2.extBut _ _ p3 (e1.extBut _ _ p1 q))
  refine zay (zay (wpAny_onRaise (show wpAny _ _ (Builtin.SmallTypes.nextOf (.ref i2) >>= _) _ _ _ from ?_)));refine zay (jjg hh (j2.mv fun o q=>up3 _ o D.a4 D.a9.symm D.a10.symm q) (c2.mv fun o q=>up3 _ o d2.1 d2.2.1 d2.2.2.1 q) hy fun g4 e f4 he=>?_);obtain⟨oe,q1,q2⟩:=he;have z4:IsZip g4 z TI TO .ellipsis:=f4 _ _ D.a4.symm (e3.extBut _ _ D.a2.symm (e2.extBut _ _ D.a3.symm z1));have nez:e≠z:=fun p=>by subst p;rw[z4] at q1;cases q1;simp at q2
  exact wpAny_setField_rec z4 (by simp) fun g5 _ e5=>hE g5 e (fun c o p1 p2 p3 p4 q=>e5.extBut _ _ p1 (f4 _ _ p4 (up3 c o p1 p2 p3 q))) ⟨oe,e5.extBut _ _ nez q1,q2⟩
def jyc{k1 k2:Bool}{z TI TO i1 i2 l1 l2:Addr}{n1 n2:Nat}{xs ys:Array Value}{x y a b:Value}{Q:Option Value->Shared->Prop}(D:ZFar z TI TO i1 i2)(d1:LFar z TO i1 i2 l1)(d2:LFar z TO i1 i2 l2)
  (hz:IsZip s.heap z TI TO .none) (ht:IsPair s.heap TI (.ref i1) (.ref i2)) (hu:IsPair s.heap TO a b) (j1:ItOn k1 s.heap i1 l1 n1) (j2:ItOn k2 s.heap i2 l2 n2) (c1:SrcOn k1 s.heap l1 xs) (c2:SrcOn k2 s.heap l2 ys)
  (hx:xs[n1]? = some x) (hy:ys[n2]? = some y)
  (hQ:∀ h',IsZip h' z TI TO (rawInt s.heap.objs.size)->IsPair h' TO x y->ItOn k1 h' i1 l1 (n1+1)->ItOn k2 h' i2 l2 (n2+1)->IsPair h' s.heap.objs.size x y ->
   (∀ c o,c≠z->c≠TO->c≠i1->c≠i2->s.heap.get? c=some o->h'.get? c=some o)->Q (some (.ref s.heap.objs.size)) { s with heap:=h' }):wpAny (model prog w) A (pyNext (.ref z)) Q E s:=by
 have ty:s.TypeIs (.ref z) "zip":=⟨_,hz,rfl⟩
 unfold pyNext;exact zay (wpAny_attempt (wpAny_callSpecial?_slot (name:=Str.ofString "__next__") ty F.slot_zip_next (wpAny_call_entry F.slot_zip_next ty F.entry_zip_next
  (jzi D d1 d2 hz ht hu j1 j2 c1 c2 hx hy fun h' b1 b2 b3 b4 b5 b6=>zab (hQ h' b1 b2 b3 b4 b5 b6)) (F.args_zip_next_1 _))))
def jph{k1 k2:Bool}{z TI TO i1 i2 l1 l2:Addr}{n1 n2:Nat}{xs ys:Array Value}{a b:Value}{Q:Option Value->Shared->Prop}(hh:A.handled=none)(D:ZFar z TI TO i1 i2)(d1:LFar z TO i1 i2 l1)(d2:LFar z TO i1 i2 l2)
  (hz:IsZip s.heap z TI TO .none) (ht:IsPair s.heap TI (.ref i1) (.ref i2)) (hu:IsPair s.heap TO a b) (j1:ItOn k1 s.heap i1 l1 n1) (j2:ItOn k2 s.heap i2 l2 n2) (c1:SrcOn k1 s.heap l1 xs) (c2:SrcOn k2 s.heap l2 ys)
  (hend:xs[n1]? = none\/ys[n2]? = none)
  (hQ:∀ h',(∀ c o,c≠z->c≠TO->c≠i1->c≠i2->s.heap.get? c=some o->h'.get? c=some o)->Q none { s with heap:=h' }):wpAny (model prog w) A (pyNext (.ref z)) Q E s:=by
 have ty:s.TypeIs (.ref z) "zip":=⟨_,hz,rfl⟩
 unfold pyNext;refine zay (wpAny_attempt (wpAny_callSpecial?_slot (name:=Str.ofString "__next__") ty F.slot_zip_next (wpAny_call_entry F.slot_zip_next ty F.entry_zip_next (jD1 hh D d1 d2 hz ht hu j1 j2 c1 c2 hend fun h' e hk he=>?_) (F.args_zip_next_1 _))));obtain⟨o,ho,hc⟩:=he;exact zay (wpAny_isInstance (T:="StopIteration") (b:=true) ⟨o,ho,hc⟩ isSubtype_stop (zab (hQ _ hk)))
abbrev zA(h:Heap)(o1 o2:Obj):Heap:=(h.push o1).push o2
abbrev zB(h:Heap)(o1 o2:Obj):Heap:=(zA h o1 o2).push { cls:=.type "tuple",data:=.seq #[.ref h.objs.size,.ref (h.push o1).objs.size] }
abbrev zC(h:Heap)(o1 o2:Obj):Heap:=(zB h o1 o2).push { cls:=.type "tuple",data:=.seq #[.none,.none] }
abbrev zD(h:Heap)(o1 o2:Obj):Heap:=(zC h o1 o2).push { cls:=.type "zip",data:=.fields #[.none,.bool false,.bool false,.ref (zA h o1 o2).objs.size,.ref (zB h o1 o2).objs.size] }
def jvi{k1 k2:Bool}(l1 l2:Addr)(xs ys:Array Value):Meets (Builtin.«zip.__new__» ⟨[.type "zip",.ref l1,.ref l2],[]⟩) (fun _ R s=>SrcOn k1 s.heap l1 xs/\SrcOn k2 s.heap l2 ys /\
  ∀ o1 o2,ItOn k1 (s.heap.push o1) s.heap.objs.size l1 0->ItOn k2 (zA s.heap o1 o2) (s.heap.push o1).objs.size l2 0->R (.ok (.ret (.ref (zC s.heap o1 o2).objs.size))) { s with heap:=zD s.heap o1 o2 }) :=
 .of_wp fun prog w A R s h=>by
  obtain⟨hp,g,d,tk,os⟩:=s;obtain⟨c1,c2,h⟩:=h;have hsub:=sub_zip;have q1:SrcOn k1 (Shared.heap ⟨hp,g,d,tk,os⟩) l1 xs:=c1
  wp_walk using ju4 q1
  intro o1 w1;have q2:SrcOn k2 (Shared.heap ⟨hp.push o1,g,d,tk,os⟩) l2 ys:=SrcOn.mv c2 fun o e=>zaz _ e
  wp_walk using ju4 q2
  intro o2 w2
  wp_walk
  exact⟨_,rfl,h o1 o2 w1 w2⟩
end
section
variable {X:Cx}{U:qb}{Z:St}{H:Hp}{s:Shared}
def Inv.spun{fp:List Addr}{h':Heap}{t':Nat}{T:Addr}{vs:List V}{its:List Value}(I:Inv X U Z H s)(hf:∀ b∈fp,FpOk X U H b)(k:∀ b o,b∉fp->s.heap.get? b=some o->h'.get? b=some o)
  (ko:∀ b∈fp,∃ o,h'.get? b=some o) (hT:s.heap.get? T=none) (hn:H T=none) (hv:Vals vs its) (hz:vs.length<=sizeLine) (ht:IsTup h' T its.toArray):Inv X U Z (upd H T (.tup vs)) { s with heap:=h',toks:=t' }:=by
 have nT:∀ b o,s.heap.get? b=some o->b≠T:=fun b o e z=>by rw[z,hT] at e;cases e
 have nf:∀ b u,H b=some u->b∉fp:=fun b u e z=>by rw[(hf b z).1] at e;cases e
 refine I.step (g':=s.gens) (d':=s.drawn) (ch:=fp) (fun b hb=>?_) (fun b o _ _ hc e _=>k b o hc e) (fun b o _ _ hc e _=>⟨o.slots,k b o hc e⟩) (fun b o _ e n=>by rw[jal (nT b o e)];exact n)
  (fun b o hc e=>⟨o,k b o hc e⟩) (fun b xs e=>by rw[jal (jbb e hn)];exact e) (fun b o u e=>by rw[jal (jbb e hn)];exact e) (fun b ps e=>⟨#[],by rw[jal (jbb e hn),e];simp⟩) (fun m hm=>?_) (fun b u e=>?_) I.bare
 ·obtain⟨_,f1,_,f3,f4,f5⟩:=hf b hb;exact⟨f3,f1,f4,f5⟩
 ·obtain⟨o,es,ep,ho,r⟩:=hm;exact⟨o,es,ep,k _ o (fun z=>(hf _ z).2.1 rfl) ho,r⟩
 ·by_cases hb:b=T
  ·subst hb;rw[jaq] at e;cases e
   exact⟨hz,its,hv,ht⟩
  ·rw[jal hb] at e;refine (I.hok b u e).stay (fun c v hc q=>k c v ?_ q) (fun c q=>by rw[jal (jbb q hn)];exact q) fun c xs q=>by rw[jal (jbb q hn)];exact q
   rcases hc with z|z
   ·rw[z];exact nf b u e
   ·exact nf c _ z
def Inv.spun0{fp:List Addr}{h':Heap}{t':Nat}(I:Inv X U Z H s)(hf:∀ b∈fp,FpOk X U H b)(k:∀ b o,b∉fp->s.heap.get? b=some o->h'.get? b=some o):Inv X U Z H { s with heap:=h',toks:=t' }:=by
 have nf:∀ b u,H b=some u->b∉fp:=fun b u e z=>by rw[(hf b z).1] at e;cases e
 refine I.step (g':=s.gens) (d':=s.drawn) (ch:=fp) (fun b hb=>?_) (fun b o _ _ hc e _=>k b o hc e) (fun b o _ _ hc e _=>⟨o.slots,k b o hc e⟩) (fun b o _ e n=>n)
  (fun b o hc e=>⟨o,k b o hc e⟩) (fun b xs e=>e) (fun b o u e=>e) (fun b ps e=>⟨#[],by rw[e];simp⟩) (fun m hm=>?_) (fun b u e=>?_) I.bare
 ·obtain⟨_,f1,_,f3,f4,f5⟩:=hf b hb;exact⟨f3,f1,f4,f5⟩
 ·obtain⟨o,es,ep,ho,r⟩:=hm;exact⟨o,es,ep,k _ o (fun z=>(hf _ z).2.1 rfl) ho,r⟩
 ·refine (I.hok b u e).stay (fun c v hc q=>k c v ?_ q) (fun c q=>q) fun c xs q=>q
  rcases hc with z|z
  ·rw[z];exact nf b u e
  ·exact nf c _ z
def SqV(k:Bool)(K:W.Frag)(H:Hp)(l:Addr)(xs:List V):Prop:=if k=true then SqT K H l xs else SqL K H l xs
def Inv.src{k:Bool}{l:Addr}{xs:List V}(I:Inv X U Z H s)(h:SqV k X.K H l xs):∃ its:List Value,Vals xs its/\SrcOn k s.heap l its.toArray/\xs.length<=sizeLine:=by
 cases k with
 | true =>
  obtain⟨its,r,p,z⟩:=I.tuple (h:SqT X.K H l xs);exact⟨its,r,p,z⟩
 | false =>
  obtain⟨its,r,p,z⟩:=I.list (h:SqL X.K H l xs);exact⟨its,r,p.isList,z⟩
def Inv.src_inj{k:Bool}{l:Addr}{xs ys:List V}(I:Inv X U Z H s)(h:SqV k X.K H l xs)(h':SqV k X.K H l ys):xs=ys:=by
 cases k with
 | true=>exact I.tuple_inj (h:SqT X.K H l xs) h'
 | false=>exact I.list_inj (h:SqL X.K H l xs) h'
def jka{k:Bool}{l:Addr}{xs:List V}(I:Inv X U Z H s)(h:SqV k X.K H l xs){b:Addr}(f:FpOk X U H b):l≠b:=by
 intro e;subst e;obtain⟨f0,f1,f2,f3,_⟩:=f;have base:∀ o,X.K.lookup l=some o->False:=fun o q=>by
  have hb:=I.ok.mod.kin l o q;rcases f3 with z|z
  ·exact I.ok.noex l o hb z
  ·exact absurd (zcx (zbv hb) (zdx I.ok.bsz z)) (Nat.lt_irrefl _)
 cases k with
 | true =>
  rcases (h:SqT X.K H l xs) with q|⟨o,its,n,q,_⟩
  ·rcases q with q|⟨o,q⟩<;>(rw[f0] at q;cases q)
  ·exact base o q
 | false =>
  rcases (h:SqL X.K H l xs) with q|⟨o,its,n,q,_⟩
  ·rcases q with q|⟨o,q⟩<;>(rw[f0] at q;cases q)
  ·exact base o q
end
def Itz(k1 k2:Bool)(K:W.Frag)(l1 l2:Addr):It :=
  ⟨fun i H=>∃ xs ys x y,SqV k1 K H l1 xs/\SqV k2 K H l2 ys/\xs[i]? = some x/\ys[i]? = some y,
   fun i H v H'=>∃ T x y,H T=none/\v=.ref T/\H'=upd H T (.tup [x,y])/\(∀ xs,SqV k1 K H l1 xs->xs[i]? = some x)/\(∀ ys,SqV k2 K H l2 ys->ys[i]? = some y),
   fun i H=>∃ xs ys,SqV k1 K H l1 xs/\SqV k2 K H l2 ys/\(xs.length<=i\/ys.length<=i)⟩
def jzd{P:Program}{w:World}{K:W.Frag}{es:List Expr}{kk:Nat}{tp:Pos}(k1 k2:Bool)(l1 l2 z TI TO i1 i2:Addr)(D:ZFar z TI TO i1 i2) :
  Turn P w K (.Tuple es kk tp) (Itz k1 k2 K l1 l2) [z,TI,TO,i1,i2] z (fun i h=>IsZip h z TI TO .none/\IsPair h TI (.ref i1) (.ref i2)/\(∃ a b,IsPair h TO a b)/\ItOn k1 h i1 l1 i/\ItOn k2 h i2 l2 i) where
 mem:=by simp
 obj:=fun i h st b hb=>by
  obtain⟨q1,q2,⟨a,b',q3⟩,q4,q5⟩:=st;simp only[List.mem_cons,List.not_mem_nil,or_false] at hb;rcases hb with rfl|rfl|rfl|rfl|rfl
  ·exact⟨_,q1,fun v e=>nomatch e⟩
  ·exact⟨_,q2,fun v e=>nomatch e⟩
  ·exact⟨_,q3,fun v e=>nomatch e⟩
  ·obtain⟨o,vs,e,d⟩:=q4.ob;exact⟨o,e,fun v z=>by rw[d] at z;cases z⟩
  ·obtain⟨o,vs,e,d⟩:=q5.ob;exact⟨o,e,fun v z=>by rw[d] at z;cases z⟩
 keep:=fun i h h' st k=>by
  obtain⟨q1,q2,⟨a,b',q3⟩,q4,q5⟩:=st;exact⟨k z (by simp) _ q1,k TI (by simp) _ q2,⟨a,b',k TO (by simp) _ q3⟩,q4.mv fun o e=>k i1 (by simp) o e,q5.mv fun o e=>k i2 (by simp) o e⟩
 item:=by
  intro X hP hw hK hc i U s Z H E I hf st hg;subst hP hw hK;obtain⟨q1,q2,⟨a,b',q3⟩,q4,q5⟩:=st;obtain⟨xs,ys,x,y,sx,sy,hx,hy⟩:=hg;obtain⟨ix,rx,cx,_⟩:=I.src sx;obtain⟨iy,ry,cy,_⟩:=I.src sy;obtain⟨u,hu,ru⟩:=rx.get hx;obtain⟨v,hv,rv⟩:=ry.get hy;have far:∀ {k:Bool} {l:Addr} {xs:List V},SqV k X.K H l xs->LFar z TO i1 i2 l:=fun h=>⟨jka I h (hf z (by simp)),jka I h (hf TO (by simp)),jka I h (hf i1 (by simp)),jka I h (hf i2 (by simp))⟩
  refine jyc D (far sx) (far sy) q1 q2 q3 q4 q5 cx cy (x:=u) (y:=v) (by simpa using hu) (by simpa using hv) fun h' b1 b2 b3 b4 b5 b6=>⟨_,rfl,?_⟩
  have keep:∀ b o,b∉[z,TI,TO,i1,i2]->s.heap.get? b=some o->h'.get? b=some o:=fun b o hb e=>by
   simp only[List.mem_cons,List.not_mem_nil,or_false,not_or] at hb;exact b6 b o hb.1 hb.2.2.1 hb.2.2.2.1 hb.2.2.2.2 e
  have e2:IsPair h' TI (.ref i1) (.ref i2):=b6 TI _ D.a1 D.a5 D.a6 D.a7 q2;have hfr:H s.heap.objs.size=none:=I.hok.fresh (zac _);have hno:s.heap.get? s.heap.objs.size=none:=Heap.get?_none_of_le (zac _);have Tz:s.heap.objs.size≠z:=Nat.ne_of_gt (zbv q1);refine wpAny_letOwnedTupleGo_zip b1 fun h2 z2 s2=>?_
  have up2:∀ b o,b≠z->h'.get? b=some o->h2.get? b=some o:=fun b o hb e=>s2.extBut _ _ hb e
  have keep2:∀ b o,b∉[z,TI,TO,i1,i2]->s.heap.get? b=some o->h2.get? b=some o:=fun b o hb e=>up2 b o (fun q=>hb (by simp[q])) (keep b o hb e)
  have tu:IsTup h2 s.heap.objs.size [u,v].toArray:=⟨_,up2 _ _ Tz b5,rfl,0,rfl⟩
  have I2:Inv X U Z (upd H s.heap.objs.size (.tup [x,y])) { s with heap:=h2 }:=I.spun (t':=s.toks) hf keep2 (fun b hb=>by
   simp only[List.mem_cons,List.not_mem_nil,or_false] at hb;rcases hb with rfl|rfl|rfl|rfl|rfl
   ·exact⟨_,z2⟩
   ·exact⟨_,up2 _ _ D.a1 e2⟩
   ·exact⟨_,up2 _ _ D.a2 b2⟩
   ·obtain⟨o,vs,e,_⟩:=b3.ob;exact⟨o,up2 _ _ D.a3 e⟩
   ·obtain⟨o,vs,e,_⟩:=b4.ob;exact⟨o,up2 _ _ D.a4 e⟩) hno hfr (.cons ru (.cons rv .nil)) (by show 2<=sizeLine;decide) tu
  refine⟨.ref s.heap.objs.size,_,I2,rfl,⟨_,x,y,hfr,rfl,rfl,fun xs' h=>by rw[I.src_inj h sx];exact hx,fun ys' h=>by rw[I.src_inj h sy];exact hy⟩,?_,fun b hb=>?_⟩
  ·exact⟨z2,up2 _ _ D.a1 e2,⟨_,_,up2 _ _ D.a2 b2⟩,b3.mv fun o e=>up2 _ o D.a3 e,b4.mv fun o e=>up2 _ o D.a4 e⟩
  ·have:b≠s.heap.objs.size:=fun q=>by
    subst q;simp only[List.mem_cons,List.not_mem_nil,or_false] at hb;rcases hb with q|q|q|q|q
    ·exact Tz q
    ·exact absurd (zbv q2) (by rw[q];exact Nat.lt_irrefl _)
    ·exact absurd (zbv q3) (by rw[q];exact Nat.lt_irrefl _)
    ·obtain⟨o,vs,e,_⟩:=q4.ob;exact absurd (zbv e) (by rw[q];exact Nat.lt_irrefl _)
    ·obtain⟨o,vs,e,_⟩:=q5.ob;exact absurd (zbv e) (by rw[q];exact Nat.lt_irrefl _)
   rw[jal this];exact (hf b hb).1
 done:=by
  intro X hP hw hK hc i U s Z H E I hf st hg;subst hP hw hK;obtain⟨q1,q2,⟨a,b',q3⟩,q4,q5⟩:=st;obtain⟨xs,ys,sx,sy,hend⟩:=hg;obtain⟨ix,rx,cx,_⟩:=I.src sx;obtain⟨iy,ry,cy,_⟩:=I.src sy;have far:∀ {k:Bool} {l:Addr} {xs:List V},SqV k X.K H l xs->LFar z TO i1 i2 l:=fun h=>⟨jka I h (hf z (by simp)),jka I h (hf TO (by simp)),jka I h (hf i1 (by simp)),jka I h (hf i2 (by simp))⟩
  have lx:=rx.length;have ly:=ry.length;refine jph (I.ok.hd hc) D (far sx) (far sy) q1 q2 q3 q4 q5 cx cy ?_ fun h' k=>⟨rfl,I.spun0 (t':=s.toks) hf fun b o hb e=>?_⟩
  ·rcases hend with h|h
   ·exact .inl (by simp;omega)
   ·exact .inr (by simp;omega)
  ·simp only[List.mem_cons,List.not_mem_nil,or_false,not_or] at hb;exact k b o hb.1 hb.2.2.1 hb.2.2.2.1 hb.2.2.2.2 e
 self:=fun _ _ _ _ _ st h=>wpAny_pyIter_zip st.1 h
def zfar(n:Nat):ZFar (n+4) (n+2) (n+3) n (n+1):=⟨show (n+2:Nat)≠n+4 by omega,show (n+3:Nat)≠n+4 by omega,show (n:Nat)≠n+4 by omega,show (n+1:Nat)≠n+4 by omega,show (n+2:Nat)≠n+3 by omega,
 show (n+2:Nat)≠n by omega,show (n+2:Nat)≠n+1 by omega,show (n+3:Nat)≠n by omega,show (n+3:Nat)≠n+1 by omega,show (n:Nat)≠n+1 by omega⟩
section
variable {X:Cx}
def iZip(K:W.Frag)(ta:TA):TI:=fun Z H R=>ta Z H fun vs H1=>∃ k1 k2 l1 l2 xs ys,vs=[.ref l1,.ref l2]/\SqV k1 K H1 l1 xs/\SqV k2 K H1 l2 ys/\R (Itz k1 k2 K l1 l2) H1
def jF6{a b:Expr}{ta:TA}{es:List Expr}{kk:Nat}{tp p pos:Pos}(hg:Gl X "zip")(hm:X.mg "zip"=none)(ha:PA X [a,b] ta)(hs:starEach [a,b] X.env=[(false,eval a X.env),(false,eval b X.env)]:=by rfl)(hs2:starEach [b] X.env=[(false,eval b X.env)]:=by rfl) :
  PI X (.Tuple es kk tp) (.Call (.Name "zip" p) [a,b] [] pos) (iZip X.K ta):=by
 intro U s Z H R I h;refine Call_ (jmp I hg hm boot_zip (PyProof.Rows.callWith_type1 (thn (ha pos U s Z H _ I h) fun us s1 hzz=>?_) (by rw[hs,hs2]) (by rw[hs2];rfl)));obtain⟨vs,H1,I1,r1,q1⟩:=hzz;obtain⟨k1,k2,l1,l2,xs,ys,e,sx,sy,q⟩:=q1;subst e;obtain⟨u1,u2,rfl,e1,e2⟩:=r1.two;cases e1;cases e2;obtain⟨ix,rx,cx,_⟩:=I1.src sx;obtain⟨iy,ry,cy,_⟩:=I1.src sy;refine callType_new F.called_zip (by decide) (F.typeCall_zip_2 _ _) (F.newCall_zip_2 _ _) (fun obj=>F.args_object_init_3 obj _ _) F.entry_zip_new (jvi l1 l2 ix.toArray iy.toArray) ⟨cx,cy,fun o1 o2 w1 w2=>?_⟩;have n1:(s1.heap.push o1).objs.size=s1.heap.objs.size+1:=Heap.size_push ..;have n2:(zA s1.heap o1 o2).objs.size=s1.heap.objs.size+2:=by show (Heap.push _ _).objs.size=_;rw[Heap.size_push,n1]
 have n3:(zB s1.heap o1 o2).objs.size=s1.heap.objs.size+3:=by show (Heap.push _ _).objs.size=_;rw[Heap.size_push,n2]
 have n4:(zC s1.heap o1 o2).objs.size=s1.heap.objs.size+4:=by show (Heap.push _ _).objs.size=_;rw[Heap.size_push,n3]
 have g5:(zD s1.heap o1 o2).get? (zC s1.heap o1 o2).objs.size=some _:=zbz _ rfl;have g4:(zD s1.heap o1 o2).get? (zB s1.heap o1 o2).objs.size=some _:=zaz _ (zbz _ rfl);have g3:(zD s1.heap o1 o2).get? (zA s1.heap o1 o2).objs.size=some _:=zaz _ (zaz _ (zbz _ rfl));have kk2:∀ c o,(zA s1.heap o1 o2).get? c=some o->(zD s1.heap o1 o2).get? c=some o:=fun c o e=>zaz _ (zaz _ (zaz _ e))
 have kk1:∀ c o,(s1.heap.push o1).get? c=some o->(zD s1.heap o1 o2).get? c=some o:=fun c o e=>kk2 c o (zaz _ e)
 have kk0:∀ c o,s1.heap.get? c=some o->(zD s1.heap o1 o2).get? c=some o:=fun c o e=>kk1 c o (zaz _ e)
 rw[n1] at w2 g3;rw[n2] at g3;rw[n3] at g4;rw[n4,n2,n3] at g5;show _/\_;rw[n4];refine⟨⟨_,g5,rfl⟩,wpAny_pyIter_zip g5 ?_⟩;have D:ZFar (s1.heap.objs.size+4) (s1.heap.objs.size+2) (s1.heap.objs.size+3) s1.heap.objs.size (s1.heap.objs.size+1):=zfar _;refine⟨s1.heap.objs.size+4,[s1.heap.objs.size+4,s1.heap.objs.size+2,s1.heap.objs.size+3,s1.heap.objs.size,s1.heap.objs.size+1],_,_,H1,rfl,I1.kept (t':=s1.toks) fun c o e=>kk0 c o e,
  jzd k1 k2 l1 l2 _ _ _ _ _ D,⟨g5,g3,⟨_,_,g4⟩,w1.mv fun o e=>kk1 _ o e,w2.mv fun o e=>kk2 _ o e⟩,fun b hb=>?_,q⟩
 have hb':s1.heap.objs.size<=b:=by
  simp only[List.mem_cons,List.not_mem_nil,or_false] at hb;show (s1.heap.objs.size:Nat)<=(b:Nat);have hb2:(b:Nat)=b:=rfl;rcases hb with q|q|q|q|q<;>(rw[q];first|exact zac _|exact Nat.le_add_right _ _)
 exact I1.fpOk hb' (I1.hok.fresh hb')
end
section
end
def iSeq(K:W.Frag)(tl:TE):TI:=fun Z H R=>tl Z H fun x H1=>(∃ a,x=.ref a/\(∃ xs,SqL K H1 a xs)/\R (Itl K a) H1)\/(∃ a,x=.ref a/\(∃ xs,SqT K H1 a xs)/\R (Itt K a) H1)
def jF5{X:Cx}{tg l:Expr}{tl:TE}(hl:PE X l tl):PI X tg l (iSeq X.K tl):=by
 intro U s Z H R I h;refine thn (hl U s Z H _ I h) fun v s1 hzz=>?_
 obtain⟨x,H1,I1,r1,q1⟩:=hzz;have fp1:∀ b∈[s1.heap.objs.size],FpOk X U H1 b:=fun b hb=>by
  have e:b=s1.heap.objs.size:=by simpa using hb
  subst e;exact I1.fpOk (zac _) (I1.hok.fresh (zac _))
 rcases q1 with ⟨a,e,⟨xs,hq⟩,q⟩|⟨a,e,⟨xs,hq⟩,q⟩
 ·subst e;cases r1;obtain⟨its,rv,p,hz⟩:=I1.list hq;exact wpAny_pyIter_list p.isList ⟨s1.heap.objs.size,[s1.heap.objs.size],_,_,H1,rfl,I1.kept (t':=s1.toks) fun b o e=>zaz _ e,jw3 a _,⟨_,zbz _ rfl,rfl,rfl⟩,fp1,q⟩
 ·subst e;cases r1;obtain⟨its,rv,p,hz⟩:=I1.tuple hq;exact wpAny_pyIter_tuple (show s1.heap.IsTuple a its.toArray from p) ⟨s1.heap.objs.size,[s1.heap.objs.size],_,_,H1,rfl,I1.kept (t':=s1.toks) fun b o e=>zaz _ e,jty a _,⟨_,zbz _ rfl,rfl,rfl⟩,fp1,q⟩
def Itv(val:Nat->V)(n:Nat):It:=⟨fun i _=>i<n,fun i H x H'=>H'=H/\x=val i,fun i _=>i=n⟩
def jpt(nm:String):Bool:=!["enumerate","zip","dict_itemiterator","dict_reverseitemiterator","odict_iterator","itertools.zip_longest","itertools.pairwise"].contains nm
def jjn{P:Program}{w:World}{K:W.Frag}{tg:Expr}(it:Addr)(val:Nat->V)(n:Nat)(Stn:Nat->Heap->Prop)(W:∀ A:Around,A.handled=none->Walks P w A it [it] [it] n (fun i v=>RelV (val i) v) Stn)
  (ob:∀ i h,Stn i h->∃ o nm vs,h.get? it=some o/\o.cls=.type nm/\o.data=.fields vs/\jpt nm=true)
  (sf:∀ (A:Around) (i:Nat) (s:Shared) (Q:qc) (E:qc),Stn i s.heap->Q (.ref it) s->wpAny (model P w) A (pyIter (.ref it)) Q E s):Turn P w K tg (Itv val n) [it] it Stn where
 mem:=by simp
 obj:=fun i h st b hb=>by
  have e:b=it:=by simpa using hb
  subst e;obtain⟨o,nm,vs,q1,_,q3,_⟩:=ob i h st;exact⟨o,q1,fun v z=>by rw[q3] at z;cases z⟩
 keep:=fun i h h' st k=>(W { handled:=none,frames:=some [] } rfl).frame i h h' st k
 item:=by
  intro X hP hw hK hc i U s Z H E I hf st hg;subst hP hw hK;refine (W X.A (I.ok.hd hc)).item i s _ _ hg st fun v h' tk hv st' kk=>⟨v,rfl,?_⟩
  obtain⟨o,nm,vs,q1,q2,q3,q4⟩:=ob _ _ st';have I1:Inv X U Z H { s with heap:=h',toks:=tk }:=I.spun0 hf kk;exact go_of (s:={ s with heap:=h',toks:=tk }) q1 q2 q3 (by unfold jpt at q4;simpa using q4) ⟨val i,H,I1,hv,⟨rfl,rfl⟩,st',fun b hb=>(hf b hb).1⟩
 done:=by
  intro X hP hw hK hc i U s Z H E I hf st hg;subst hP hw hK;have hg':i=n:=hg;subst hg';exact (W X.A (I.ok.hd hc)).done s _ _ st fun h' tk kk=>⟨rfl,I.spun0 hf kk⟩
 self:=fun A i s Q E st h=>sf A i s Q E st h
section
variable {X:Cx}{tg:Expr}
def jpv{U:qb}{Z:St}{H:Hp}{s:Shared}{R:It->Hp->Prop}{E:qc}{lo hi st:Int}{t u v:Tok}{tk:Nat}(I:Inv X U Z H s)(hst:st=1)
  (q:R (Itv (fun i=>.int (lo+(i:Nat)*st)) (Builtin.Range.rangeSize lo hi st).toNat) H):wpAny (model X.prog X.w) X.A (pyIter (.ref s.heap.objs.size)) (PIE X U Z tg R) E { s with heap:=s.heap.push { cls:=.type "range",data:=.fields #[.int lo t,.int hi u,.int st v] },toks:=tk }:=by
 have I1:Inv X U Z H { s with heap:=s.heap.push { cls:=.type "range",data:=.fields #[.int lo t,.int hi u,.int st v] },toks:=tk }:=I.kept fun b o e=>zaz _ e
 subst hst;have hn:0<=Builtin.Range.rangeSize lo hi 1:=by rw[rangeSize_one];split<;>omega
 generalize hN:(Builtin.Range.rangeSize lo hi 1).toNat=N at q;have hN':Builtin.Range.rangeSize lo hi 1=(N:Int):=by omega
 have fpk:∀ b∈[(s.heap.push { cls:=.type "range",data:=.fields #[.int lo t,.int hi u,.int 1 v] }).objs.size],FpOk X U H b:=fun b hb=>by
  have e:b=(s.heap.push { cls:=.type "range",data:=.fields #[.int lo t,.int hi u,.int 1 v] }).objs.size:=by simpa using hb
  subst e;exact I1.fpOk (zac _) (I1.hok.fresh (zac _))
 by_cases hsm:Builtin.Range.small lo hi 1=true
 ·refine wpAny_pyIter_range (IsRange.new ..) hsm ?_;refine⟨_,[_],_,_,H,rfl,I1.kept (t':=tk) fun b o e=>zaz _ e,jjn _ _ N _ (fun A hA=>Walks.range hA _ lo 1 N) (fun i h e=>⟨_,_,_,e,rfl,rfl,rfl⟩) (fun A i s Q E e h=>wpAny_pyIter_rangeiter e h),?_,fpk,q⟩;show IsRangeIter _ _ (lo+((0:Nat):Int)*1) ((N:Int)-((0:Nat):Int)) 1;rw[<- hN'];have e1:lo+((0:Nat):Int)*1=lo:=by simp
  have e2:Builtin.Range.rangeSize lo hi 1-((0:Nat):Int)=Builtin.Range.rangeSize lo hi 1:=by simp
  rw[e1,e2];exact zbz _ rfl
 ·refine wpAny_pyIter_longrange (IsRange.new ..) (by simpa using hsm) ?_;refine⟨_,[_],_,_,H,rfl,I1.kept (t':=tk) fun b o e=>zaz _ e,jjn _ _ N _ (fun A hA=>Walks.longrange hA _ lo 1 N) (fun i h e=>⟨_,_,_,e,rfl,rfl,rfl⟩) (fun A i s Q E e h=>wpAny_pyIter_longiter e h),?_,fpk,q⟩;show IsLongIter _ _ (lo+((0:Nat):Int)*1) ((N:Int)-((0:Nat):Int)) 1;rw[<- hN'];have e1:lo+((0:Nat):Int)*1=lo:=by simp
  have e2:Builtin.Range.rangeSize lo hi 1-((0:Nat):Int)=Builtin.Range.rangeSize lo hi 1:=by simp
  rw[e1,e2];exact zbz _ rfl
def iRgA(ta:TA):TI:=fun Z H R=>ta Z H fun vs H1=>(∃ j:Int,vs=[.int j]/\R (Itv (fun i=>.int (0+(i:Nat)*1)) (Builtin.Range.rangeSize 0 j 1).toNat) H1) \/
 (∃ i j:Int,vs=[.int i,.int j]/\R (Itv (fun n=>.int (i+(n:Nat)*1)) (Builtin.Range.rangeSize i j 1).toNat) H1)
def jym{a:Expr}{es:List Expr}{ta:TA}{p pos:Pos}(hg:Gl X "range")(hm:X.mg "range"=none)(ha:PA X (a::es) ta)(hs:starEach (a::es) X.env=(false,eval a X.env)::starEach es X.env:=by rfl)(hp:zbT pos es X.env:=by rfl) :
  PI X tg (.Call (.Name "range" p) (a::es) [] pos) (iRgA ta):=by
 intro U s Z H R I h;refine Call_ (jmp I hg hm boot_range (PyProof.Rows.callWith_type1 (thn (ha pos U s Z H _ I h) fun us s1 hzz=>?_) hs hp));obtain⟨vs,H1,I1,r1,q1⟩:=hzz;rcases q1 with ⟨j,e,q⟩|⟨i,j,e,q⟩
 ·subst e;obtain⟨u,rfl,t,rfl⟩:=r1.one;exact call_range_1 (jpv I1 rfl q)
 ·subst e;obtain⟨u,v,rfl,⟨t,rfl⟩,⟨t',rfl⟩⟩:=r1.two;exact call_range_2 (jpv I1 rfl q)
end
end L2
namespace DL
open L2
def seqD:D->Option (List D)
 | .lst ds=>some ds
 | .tup ds=>some ds
 | _=>none
def ji8(f:DSt->M D):DSt->M (List D):=fun Y=>(f Y).b fun d=>M.o (seqD d)
def jcr(lo:Int)(n:Nat):List D:=(List.range n).map fun i=>.int (lo+(i:Nat))
def jce:List D->Option (List D)
 | [.int j]=>some (jcr 0 j.toNat)
 | [.int i,.int j]=>some (jcr i (j-i).toNat)
 | _=>none
def zipD:List D->List D->List D
 | x::xs,y::ys=>.tup [x,y]::zipD xs ys
 | _,_=>[]
def jgt:List D->Option (List D)
 | [x,y]=>match seqD x,seqD y with
  | some xs,some ys=>some (zipD xs ys)
  | _,_=>none
 | _=>none
def jBp:Int->List D->List D
 | _,[]=>[]
 | k,d::ds=>.tup [.int k,d]::jBp (k+1) ds
def jxl:List D->Option (List D)
 | [.lst xs]=>some (jBp 0 xs)
 | _=>none
def jha(k:List D->Option (List D))(f:DSt->M (List D)):DSt->M (List D):=fun Y=>(f Y).b fun ds=>M.o (k ds)
theorem jsz:∀ {xs ys:List D} {i:Nat} {d:D},(zipD xs ys)[i]? = some d->∃ x y,xs[i]? = some x/\ys[i]? = some y/\d=.tup [x,y]
 | [],_,_,_,h=>by simp[zipD] at h
 | _::_,[],_,_,h=>by simp[zipD] at h
 | x::xs,y::ys,0,d,h=>by simp[zipD] at h;exact⟨x,y,rfl,rfl,h.symm⟩
 | x::xs,y::ys,i+1,d,h=>by
  obtain⟨a,b,q1,q2,q3⟩:=jsz (xs:=xs) (ys:=ys) (i:=i) (d:=d) (by simpa[zipD] using h);exact⟨a,b,by simpa using q1,by simpa using q2,q3⟩
theorem js0:∀ (xs ys:List D),(zipD xs ys).length=min xs.length ys.length
 | [],_=>by simp[zipD]
 | _::_,[]=>by simp[zipD]
 | x::xs,y::ys=>by simp[zipD,js0 xs ys]
section
variable {J:Rho}{X:Cx}{O:List Nat}{E:XK}{a b tg iter e elt:Expr}{es:List Expr}{fa:DSt->M D}{fl:DSt->M (List D)}{pos p:Pos}
def sqv_t{K:W.Frag}{H:Hp}{l:Addr}{xs:List V}:SqV true K H l xs↔SqT K H l xs:=Iff.rfl
def sqv_l{K:W.Frag}{H:Hp}{l:Addr}{xs:List V}:SqV false K H l xs↔SqL K H l xs:=Iff.rfl
def jso{k:Bool}{K:W.Frag}{H H':Hp}{l:Addr}{xs:List V}(e:Same H H')(h:SqV k K H l xs):SqV k K H' l xs:=by
 cases k with
 | true=>exact jeb (H:=H) e h
 | false=>exact je5 (H:=H) e h
def jEz{J:Rho}{K:W.Frag}{ds:List D}{Hv:Hp}{l:Addr}{xs:List V}(h:SqL K Hv l xs)(hr:Reps J K Hv ds xs):ItD J K (Itl K l) ds Hv:=by
 intro H' G' i f hG;have h':SqL K H' l xs:=je5 (f.trans jay) h;refine⟨fun hi=>?_,fun hi=>⟨xs,h',by rw[hr.length,hi];exact zac _⟩⟩;obtain⟨v,hv,rv⟩:=hr.get (zax hi);refine⟨⟨xs,v,h',hv⟩,fun x H2 y=>?_⟩;obtain⟨rfl,y⟩:=y;refine⟨Same.refl _,_,zax hi,?_⟩;have:=y xs h';rw[hv] at this;cases this
 exact rv.mono f
def jE0{J:Rho}{K:W.Frag}{ds:List D}{Hv:Hp}{l:Addr}{xs:List V}(h:SqT K Hv l xs)(hr:Reps J K Hv ds xs):ItD J K (Itt K l) ds Hv:=by
 intro H' G' i f hG;have h':SqT K H' l xs:=jeb (f.trans jay) h;refine⟨fun hi=>?_,fun hi=>⟨xs,h',by rw[hr.length,hi];exact zac _⟩⟩;obtain⟨v,hv,rv⟩:=hr.get (zax hi);refine⟨⟨xs,v,h',hv⟩,fun x H2 y=>?_⟩;obtain⟨rfl,y⟩:=y;refine⟨Same.refl _,_,zax hi,?_⟩;have:=y xs h';rw[hv] at this;cases this
 exact rv.mono f
def ju5{J:Rho}{K:W.Frag}{Hv:Hp}{val:Nat->V}{ds:List D}{n:Nat}(hl:ds.length=n)(hv:∀ i d,ds[i]? = some d->∀ H,Rep J K H d (val i)):ItD J K (Itv val n) ds Hv:=by
 intro H' G' i f hG;subst hl;refine⟨fun hi=>⟨hi,fun x H2 y=>?_⟩,fun hi=>hi⟩;obtain⟨rfl,rfl⟩:=y;exact⟨Same.refl _,_,zax hi,hv i _ (zax hi) _⟩
def jE1{J:Rho}{K:W.Frag}{k1 k2:Bool}{ds es:List D}{Hv:Hp}{l1 l2:Addr}{xs ys:List V}(h1:SqV k1 K Hv l1 xs)(r1:Reps J K Hv ds xs)(h2:SqV k2 K Hv l2 ys)(r2:Reps J K Hv es ys):ItD J K (Itz k1 k2 K l1 l2) (zipD ds es) Hv:=by
 intro H' G' i f hG;have h1':SqV k1 K H' l1 xs:=jso (f.trans jay) h1;have h2':SqV k2 K H' l2 ys:=jso (f.trans jay) h2;refine⟨fun hi=>?_,fun hi=>⟨xs,ys,h1',h2',?_⟩⟩
 ·obtain⟨d1,d2,q1,q2,q3⟩:=jsz (zax hi);obtain⟨v,hv,rv⟩:=r1.get q1;obtain⟨u,hu,ru⟩:=r2.get q2;refine⟨⟨xs,ys,v,u,h1',h2',hv,hu⟩,fun x H2 y=>?_⟩;obtain⟨T,x1,x2,hT,rfl,rfl,y1,y2⟩:=y;have e1:=y1 xs h1';have e2:=y2 ys h2';rw[hv] at e1;cases e1
  rw[hu] at e2;cases e2
  refine⟨jbs hT,_,zax hi,?_⟩;rw[q3];exact jdz hT (hG T hT) (Reps.cons (rv.mono f) (Reps.cons (ru.mono f) Reps.nil))
 ·rw[js0] at hi;rw[r1.length,r2.length];omega
def jkz(h:DE X O E iter fa):DI X O E tg iter (ji8 fa):=by
 rintro U s Z H R I ⟨J,Hz,F,Y,r,RS0,hf,k⟩;refine jF5 h U s Z H R I ?_;rcases M.b_inv hf with ⟨d,e1,hf⟩|⟨y,e1,rfl⟩
 ·refine⟨J,Hz,F,Y,.ok d,RS0,e1,fun v H1 s1 r1=>?_⟩;obtain⟨ds,hd,rfl⟩:=M.o_inv hf
  cases d with
  | lst es =>
   cases hd;obtain⟨q,xs,rfl,q2,q3⟩:=rep_lst.mp r1;exact .inl ⟨q,rfl,⟨xs,je5 jay q2⟩,k _ H1 s1 (jEz q2 q3)⟩
  | tup es =>
   cases hd;obtain⟨q,xs,rfl,q2,q3⟩:=rep_tup.mp r1;exact .inr ⟨q,rfl,⟨xs,jeb jay q2⟩,k _ H1 s1 (jE0 q2 q3)⟩
  | _=>cases hd
 ·exact⟨J,Hz,F,Y,.error y,RS0,e1,k⟩
def jpw(lo hi:Int):(Builtin.Range.rangeSize lo hi 1).toNat=(hi-lo).toNat:=by
 rw[rangeSize_one];split<;>omega
def jhm(hg:Gl X "range")(hm:X.mg "range"=none)(ha:DA X O E (a::es) fl)(hs:starEach (a::es) X.env=(false,eval a X.env)::starEach es X.env:=by rfl)(hp:zbT pos es X.env:=by rfl) :
  DI X O E tg (.Call (.Name "range" p) (a::es) [] pos) (jha jce fl):=by
 rintro U s Z H R I ⟨J,Hz,F,Y,r,RS0,hf,k⟩;refine jym hg hm ha hs hp U s Z H R I ?_;rcases M.b_inv hf with ⟨d,e1,hf⟩|⟨y,e1,rfl⟩
 ·refine⟨J,Hz,F,Y,.ok d,RS0,e1,fun vs H1 s1 r1=>?_⟩;obtain⟨ds,hd,rfl⟩:=M.o_inv hf;unfold jce at hd
  split at hd
  ·rename_i j;cases hd;obtain⟨v,r',rfl,q1,q2⟩:=reps_cons.mp r1;cases reps_nil.mp q2;cases rep_int.mp q1;refine .inl ⟨j,rfl,k _ H1 s1 ?_⟩;refine ju5 (by unfold jcr;rw[jpw];simp) fun i d hd H=>?_
   unfold jcr at hd;rw[zba] at hd
   cases q:(List.range j.toNat)[i]? with
   | none=>rw[q] at hd;cases hd
   | some m =>
    rw[q] at hd;have:m=i:=by
     have:=(zbb.mp q).2;simpa using this.symm
    subst this;cases hd;exact rep_int.mpr (by rw[Int.mul_one])
  ·rename_i i0 j;cases hd;obtain⟨v,r',rfl,q1,q2⟩:=reps_cons.mp r1;obtain⟨v2,r2,rfl,q3,q4⟩:=reps_cons.mp q2;cases reps_nil.mp q4;cases rep_int.mp q1;cases rep_int.mp q3;refine .inr ⟨i0,j,rfl,k _ H1 s1 ?_⟩;refine ju5 (by unfold jcr;rw[jpw];simp) fun i d hd H=>?_
   unfold jcr at hd;rw[zba] at hd
   cases q:(List.range (j-i0).toNat)[i]? with
   | none=>rw[q] at hd;cases hd
   | some m =>
    rw[q] at hd;have:m=i:=by
     have:=(zbb.mp q).2;simpa using this.symm
    subst this;cases hd;exact rep_int.mpr (by rw[Int.mul_one])
  ·cases hd
 ·exact⟨J,Hz,F,Y,.error y,RS0,e1,k⟩
def jsq{J:Rho}{K:W.Frag}{H:Hp}{d:D}{ds:List D}{v:V}(hd:seqD d=some ds)(h:Rep J K H d v):∃ k l xs,v=.ref l/\SqV k K H l xs/\Reps J K H ds xs:=by
 cases d with
 | lst es=>cases hd;obtain⟨q,xs,rfl,q2,q3⟩:=rep_lst.mp h;exact⟨false,q,xs,rfl,q2,q3⟩
 | tup es=>cases hd;obtain⟨q,xs,rfl,q2,q3⟩:=rep_tup.mp h;exact⟨true,q,xs,rfl,q2,q3⟩
 | _=>cases hd
def jzn{ts:List Expr}{kk:Nat}{tp:Pos}(hg:Gl X "zip")(hm:X.mg "zip"=none)(ha:DA X O E [a,b] fl)(hs:starEach [a,b] X.env=[(false,eval a X.env),(false,eval b X.env)]:=by rfl)(hs2:starEach [b] X.env=[(false,eval b X.env)]:=by rfl) :
  DI X O E (.Tuple ts kk tp) (.Call (.Name "zip" p) [a,b] [] pos) (jha jgt fl):=by
 rintro U s Z H R I ⟨J,Hz,F,Y,r,RS0,hf,k⟩;refine jF6 hg hm ha hs hs2 U s Z H R I ?_;rcases M.b_inv hf with ⟨d,e1,hf⟩|⟨y,e1,rfl⟩
 ·refine⟨J,Hz,F,Y,.ok d,RS0,e1,fun vs H1 s1 r1=>?_⟩;obtain⟨ds,hd,rfl⟩:=M.o_inv hf;unfold jgt at hd
  split at hd
  ·rename_i x y
   split at hd
   ·rename_i xs ys ex ey;cases hd;obtain⟨v,r',rfl,q1,q2⟩:=reps_cons.mp r1;obtain⟨v2,r2,rfl,q3,q4⟩:=reps_cons.mp q2;cases reps_nil.mp q4;obtain⟨k1,l1,us,rfl,z1,z2⟩:=jsq ex q1;obtain⟨k2,l2,ws,rfl,z3,z4⟩:=jsq ey q3;exact⟨k1,k2,l1,l2,us,ws,rfl,jso jay z1,jso jay z3,k _ H1 s1 (jE1 z1 z2 z3 z4)⟩
   ·cases hd
  ·cases hd
 ·exact⟨J,Hz,F,Y,.error y,RS0,e1,k⟩
def jg4(h:D->DSt->Option DSt)(tc:DSt->M Bool)(fe:DSt->M D):List D->DSt->Option (List D)
 | [],_=>some []
 | d::ds,Y=>match h d Y with
  | none=>none
  | some Y1=>match tc Y1 with
   | some (.ok true)=>(match fe Y1 with
    | some (.ok y)=>(jg4 h tc fe ds Y1).map (y::·)
    | _=>none)
   | some (.ok false)=>jg4 h tc fe ds Y1
   | _=>none
def jja(own:Nat)(caps:qf)(Y:DSt):DSt:=List.replicate own none++caps.map fun p=>(Y[p.2]?).join
def jnk(own:Nat)(caps:qf)(fi:DSt->M (List D))(h:D->DSt->Option DSt)(tc:DSt->M Bool)(fe:DSt->M D):DSt->M D:=fun Y=>(fi Y).b fun ds=>M.o ((jg4 h tc fe ds (jja own caps Y)).bind ja2)
def tYes:DSt->M Bool:=fun _=>M.p true
def DC(X:Cx)(O:List Nat)(E:XK)(ifs:List Expr)(f:DSt->M Bool):Prop:=PC0 X ifs (tB X.K O E f)
def jii:DC X O E [] tYes:=by
 rintro U s Z H Q I ⟨J,Hz,F,Y,r,R,hf,h⟩;cases hf;exact jCr U s Z H Q I (h H (Same.refl H))
def jte{own:Nat}{caps:qf}{Y:DSt}{i:Nat}{d:D}(h:(jja own caps Y)[i]? = some (some d)):∃ p,caps[i-own]? = some p/\own<=i/\Y[p.2]? = some (some d):=by
 unfold jja at h
 by_cases hi:i<own
 ·rw[List.getElem?_append_left (by simpa using hi),List.getElem?_replicate,if_pos hi] at h;cases h
 ·rw[List.getElem?_append_right (by simpa using hi),List.length_replicate,zba] at h
  cases e:caps[i-own]? with
  | none=>rw[e] at h;cases h
  | some p =>
   rw[e] at h;exact⟨p,rfl,by omega,join_some (zby h)⟩
def ju1{own:Nat}{caps:qf}{Z:St}{i:Nat}{p:Str×Nat}{v:V}(h:caps[i-own]? = some p)(hi:own<=i)(hv:Z[p.2]? = some (some v)):(jfb own caps Z)[i]? = some (some v):=by
 unfold jfb;rw[List.getElem?_append_right (by simpa using hi),List.length_replicate,zba,h];show some ((Z[p.2]?).join)=_;rw[hv];rfl
def jxf(O:List Nat)(caps:qf):Bool:=caps.all fun p=>!O.contains p.2
inductive CInv(J:Rho)(K:W.Frag)(H1:Hp)(F:qd)(Dd:Addr)(tot:List D)(cd:DSt->Option (List D))(Z:St)(H:Hp):Prop
 | mk (Y:DSt) (done:List D) (zs:List V) (rest:List D) (hR:RS J K H1 H F [] Z Y) (hD:H Dd=some (.lst zs)) (hz:Reps J K (hid H F) done zs) (hr:cd Y=some rest) (ht:done++rest=tot)
def jij{ifs:List Expr}{scope:Scope}{own:List Str}{caps:qf}{fi:DSt->M (List D)}{h:D->DSt->Option DSt}{tc:DSt->M Bool}{fe:DSt->M D}(hc:X.calm=true)(ck:CapsOk X scope caps)(hi:DI X O E tg iter fi)
  (hg:∀ C s0 H0 ex,DG (je9 X scope (own++caps.map (·.1)) C s0 H0 ex) [] tg h) (ht:∀ C s0 H0 ex,DC (je9 X scope (own++caps.map (·.1)) C s0 H0 ex) [] E0 ifs tc)
  (he:∀ C s0 H0 ex,DE (je9 X scope (own++caps.map (·.1)) C s0 H0 ex) [] E0 elt fe) (hcf:jxf O caps=true:=by rfl) (hs:∀ x,foldedSetIterable iter X.env x=pure x:=by intro _;rfl) :
  DE X O E (.ListComp elt [⟨tg,iter,ifs,0⟩] scope pos) (jnk own.length caps fi h tc fe):=by
 rintro U s Z H Q I ⟨J,Hz,F,Y,r,R,hf,k⟩;refine jCs (own:=own) (g:=tG X.K [] h) (tc:=tB X.K [] E0 tc) (te:=tD X.K [] E0 fe) hc ck hi hg ht he hs U s Z H Q I ?_;rcases M.b_inv hf with ⟨ds,e1,hf⟩|⟨y,e1,rfl⟩
 ·refine⟨J,Hz,F,Y,.ok ds,R,e1,fun Jq H1 s1 it Dd hD=>?_⟩;obtain⟨dd,hd,rfl⟩:=M.o_inv hf
  cases hcd:jg4 h tc fe ds (jja own.length caps Y) with
  | none=>rw[hcd] at hd;cases hd
  | some tot =>
   rw[hcd] at hd;have hd':ja2 tot=some dd:=hd;unfold ja2 at hd'
   split at hd'
   ·rename_i hz;cases hd';have R1:=R.mono s1;have pf:=R1.fresh hD
    let F':qd:=fun b=>fob F Z O b || b == Dd
    have F't:∀ b,F' b=true↔fob F Z O b=true\/b=Dd:=fun b=>by show (_ || _)=true↔_;rw[Bool.or_eq_true,beq_iff_eq]
    have vis:∀ {H2:Hp},Same H1 H2->Same (hid H1 (fob F Z O)) (hid H2 F'):=fun {H2} e b o q=>by
     obtain⟨q1,q2⟩:=hid_some.mp q;refine hid_some.mpr ⟨?_,e b o q2⟩
     cases z:F' b with
     | false=>rfl
     | true =>
      rcases (F't b).mp z with z|z
      ·rw[q1] at z;cases z
      ·rw[z,hD] at q2;cases q2
    have R0:RS J X.K H1 (upd H1 Dd (.lst [])) F' [] (jfb own.length caps Z) (jja own.length caps Y):=by
     refine⟨by simp[jfb,jja],jbs hD,fun b hb=>?_,fun i d hd _=>?_,fun i hi=>absurd hi (by simp),fun i hi=>absurd hi (by simp)⟩
     ·rcases (F't b).mp hb with z|z
      ·refine jl2 fun q=>?_
       rw[R1.fresh q] at z;cases z
      ·rw[z,jaq];exact fun q=>nomatch q
     ·obtain⟨p,p1,p2,p3⟩:=jte hd;have hO:p.2∉O:=fun z=>by
       have:=List.all_eq_true.mp hcf p (List.mem_of_getElem? p1);rw[zbc.mpr z] at this;cases this
      obtain⟨v,q1,q2⟩:=R1.val p.2 d p3 hO;exact⟨v,ju1 p1 p2 q1,by rw[jf5];exact q2.mono (vis (jbs hD))⟩
    refine⟨fun i m Z' H'=>m=ds.length-i/\i<=ds.length/\CInv J X.K H1 F' Dd tot (jg4 h tc fe (ds.drop i)) Z' H',
     ⟨ds.length,by simp,Nat.zero_le _,_,[],[],tot,R0,jaq,Reps.nil,hcd,rfl⟩,?_⟩
    rintro i m Z' H' ⟨rfl,hil,Y',done,zs,rest,R',hDd,rz,hr,htot⟩;have fv:Same (hid H1 (fob F Z O)) (hid H' (fob F' Z' [])):=by rw[jf5];exact vis R'.same
    obtain⟨j1,j2⟩:=it H' (fob F' Z' []) i fv fun p hp=>R'.fresh hp
    by_cases hlt:i<ds.length
    ·obtain⟨go,yld⟩:=j1 hlt;refine .inr ⟨go,CInv J X.K H1 F' Dd tot (jg4 h tc fe (ds.drop (i+1))),
      fun Z2 H2 q=>⟨ds.length-(i+1),by omega,rfl,hlt,q⟩,fun x H2 y=>?_⟩
     obtain⟨s2,d,hd,rd⟩:=yld x H2 y;have hdr:ds.drop i=d::ds.drop (i+1):=by
      rw[List.drop_eq_getElem_cons hlt];have:ds[i]=d:=by rw[zax hlt] at hd;exact zby hd
      rw[this]
     rw[hdr] at hr;unfold jg4 at hr
     cases e2:h d Y' with
     | none=>rw[e2] at hr;cases hr
     | some Y1 =>
      rw[e2] at hr;dsimp only at hr;refine⟨J,H1,F',Y',d,Y1,R'.mono s2,rd,e2,fun Z3 ef R3=>?_⟩;have keepD:∀ {H5:Hp},Same H2 H5->H5 Dd=some (.lst zs)/\Reps J X.K (hid H5 F') done zs:=fun {H5} e=>⟨e _ _ (s2 _ _ hDd),rz.mono (jax (s2.trans e))⟩
      split at hr
      ·rename_i e3;refine⟨J,H1,F',Y1,.ok true,R3,e3,fun H4 s4=>iteT ?_⟩
       split at hr
       ·rename_i yv e4;refine⟨J,H1,F',Y1,.ok yv,R3.mono s4,e4,fun v H5 s5 r5=>?_⟩;rw[jf5] at r5;obtain⟨k1,k2⟩:=keepD (s4.trans s5)
        cases e5:jg4 h tc fe (ds.drop (i+1)) Y1 with
        | none=>rw[e5] at hr;cases hr
        | some rest' =>
         rw[e5] at hr;have hr':yv::rest'=rest:=zby hr;have hFD:F' Dd=true:=(F't Dd).mpr (.inr rfl);have hh:hid (upd H5 Dd (.lst (zs++[v]))) F'=hid H5 F':=jgd hFD;refine⟨zs,k1,?_,Y1,done++[yv],zs++[v],rest',?_,jaq,?_,e5,by rw[List.append_assoc,<- htot,<- hr'];rfl⟩
         ·have l1:=k2.length;have l2:=congrArg List.length htot;rw[zcb,<- hr',List.length_cons] at l2;omega
         ·have R5:=R3.mono (s4.trans s5);refine⟨R5.len,jlu R5.same hD,fun b hb=>jl2 (R5.fin b hb),fun j d' hj hO=>?_,fun j hj=>absurd hj (by simp),fun j hj=>absurd hj (by simp)⟩;obtain⟨v',w1,w2⟩:=R5.val j d' hj hO;refine⟨v',w1,?_⟩;rw[jf5] at w2 |-
          rw[hh];exact w2
         ·rw[hh];exact k2.append (Reps.cons r5 Reps.nil)
       ·cases hr
      ·rename_i e3;refine⟨J,H1,F',Y1,.ok false,R3,e3,fun H4 s4=>iteF ?_⟩;obtain⟨k1,k2⟩:=keepD s4;exact⟨Y1,done,zs,rest,R3.mono s4,k1,k2,hr,htot⟩
      ·cases hr
    ·have ei:i=ds.length:=by omega
     subst ei;rw[List.drop_length] at hr;cases hr;rw[List.append_nil] at htot;subst htot;refine .inl ⟨j2 rfl,k _ H' (s1.trans R'.same) ?_⟩;exact rep_lst.mpr ⟨Dd,zs,rfl,SqL.of (hid_some.mpr ⟨pf,hDd⟩),rz.mono (jfk fun b q=>(F't b).mpr (.inl q))⟩
   ·cases hd'
 ·exact⟨J,Hz,F,Y,.error y,R,e1,k⟩
end
mutual
def okD:D->Bool
 | .non=>false
 | .bl _=>false
 | .ty _=>false
 | .obj _=>false
 | .tup ds=>okDs ds
 | .lst ds=>okDs ds
 | _=>true
def okDs:List D->Bool
 | []=>true
 | d::ds=>okD d&&okDs ds
end
mutual
def depD:D->Nat
 | .tup ds=>depDs ds+1
 | .lst ds=>depDs ds+1
 | _=>0
def depDs:List D->Nat
 | []=>0
 | d::ds=>max (depD d) (depDs ds)
end
mutual
def eqB:D->D->Bool
 | .non,.non=>true
 | .bl a,.bl b=>a == b
 | .bl a,.int b=>(if a then 1 else 0) == b
 | .int a,.bl b=>a == (if b then 1 else 0)
 | .int a,.int b=>a == b
 | .str a,.str b=>a == b
 | .tup a,.tup b=>eqBs a b
 | .lst a,.lst b=>eqBs a b
 | _,_=>false
def eqBs:List D->List D->Bool
 | [],[]=>true
 | a::as,b::bs=>eqB a b&&eqBs as bs
 | _,_=>false
end
mutual
def jrz:∀ d:D,okD d=true->eqB d d=true
 | .non,_=>by unfold eqB;rfl
 | .bl _,_=>by unfold eqB;simp
 | .int _,_=>by unfold eqB;simp
 | .str _,_=>by unfold eqB;simp
 | .ty _,h=>by unfold okD at h;cases h
 | .obj _,h=>by unfold okD at h;cases h
 | .tup ds,h=>by unfold okD at h;unfold eqB;exact eqBs_refl ds h
 | .lst ds,h=>by unfold okD at h;unfold eqB;exact eqBs_refl ds h
def eqBs_refl:∀ ds:List D,okDs ds=true->eqBs ds ds=true
 | [],_=>by unfold eqBs;rfl
 | d::ds,h=>by
  unfold okDs at h;rw[Bool.and_eq_true] at h;unfold eqBs;rw[jrz d h.1,eqBs_refl ds h.2];rfl
end
theorem ji5:∀ {as bs:List D},eqBs as bs=true->as.length=bs.length
 | [],[],_=>rfl
 | [],_::_,h=>by unfold eqBs at h;cases h
 | _::_,[],h=>by unfold eqBs at h;cases h
 | a::as,b::bs,h=>by
  unfold eqBs at h;rw[Bool.and_eq_true] at h;simp[ji5 h.2]
theorem ji4:∀ {as bs:List D},as.length=bs.length->∀ (k:Nat->Bool),(∀ j a b,as[j]? = some a->bs[j]? = some b->k j=eqB a b)->(List.range as.length).all k=eqBs as bs
 | [],[],_,k,_=>by unfold eqBs;rfl
 | [],_::_,h,_,_=>by simp at h
 | _::_,[],h,_,_=>by simp at h
 | a::as,b::bs,h,k,hk=>by
  unfold eqBs;rw[List.length_cons,List.range_succ_eq_map,List.all_cons,List.all_map,hk 0 a b rfl rfl];congr 1;exact ji4 (by simpa using h) (k ∘ Nat.succ) fun j x y e1 e2=>hk (j+1) x y (by simpa using e1) (by simpa using e2)
theorem jen:∀ {ds:List D} {i:Nat} {d:D},okDs ds=true->ds[i]? = some d->okD d=true
 | [],_,_,_,e=>by simp at e
 | d::ds,0,x,h,e=>by unfold okDs at h;rw[Bool.and_eq_true] at h;simp at e;subst e;exact h.1
 | d::ds,i+1,x,h,e=>by unfold okDs at h;rw[Bool.and_eq_true] at h;exact jen h.2 (by simpa using e)
theorem jg5:∀ {ds:List D} {i:Nat} {d:D},ds[i]? = some d->depD d<=depDs ds
 | [],_,_,e=>by simp at e
 | d::ds,0,x,e=>by simp at e;subst e;unfold depDs;omega
 | d::ds,i+1,x,e=>by have:=jg5 (ds:=ds) (i:=i) (d:=x) (by simpa using e);unfold depDs;omega
section
variable {J:Rho}{X:Cx}{U:qb}{Z:St}{H:Hp}{s:Shared}
def jFb{l:Addr}{xs ys:List V}(I:Inv X U Z H s)(h1:SqT X.K H l xs)(h2:SqL X.K H l ys):False:=by
 obtain⟨i1,_,p1,_⟩:=I.tuple h1;obtain⟨i2,_,p2,_⟩:=I.list h2;exact SeqAt.ne_of_list_tuple p2.isList p1 rfl
mutual
def jwg(I:Inv X U Z H s):∀ {d e:D} {v:V},okD d=true->okD e=true->Rep J X.K H d v->Rep J X.K H e v->d=e
 | .non,e,v,_,oe,h,k=>by
  cases rep_non.mp h
  cases e with
  | non=>rfl
  | bl _=>exact nomatch rep_bl.mp k
  | int _=>exact nomatch rep_int.mp k
  | str _=>exact nomatch rep_str.mp k
  | ty _=>unfold okD at oe;cases oe
  | obj _=>unfold okD at oe;cases oe
  | tup _=>obtain⟨_,_,z,_⟩:=rep_tup.mp k;cases z
  | lst _=>obtain⟨_,_,z,_⟩:=rep_lst.mp k;cases z
 | .bl b,e,v,_,oe,h,k=>by
  cases rep_bl.mp h
  cases e with
  | non=>exact nomatch rep_non.mp k
  | bl _=>cases rep_bl.mp k;rfl
  | int _=>exact nomatch rep_int.mp k
  | str _=>exact nomatch rep_str.mp k
  | ty _=>unfold okD at oe;cases oe
  | obj _=>unfold okD at oe;cases oe
  | tup _=>obtain⟨_,_,z,_⟩:=rep_tup.mp k;cases z
  | lst _=>obtain⟨_,_,z,_⟩:=rep_lst.mp k;cases z
 | .int b,e,v,_,oe,h,k=>by
  cases rep_int.mp h
  cases e with
  | non=>exact nomatch rep_non.mp k
  | bl _=>exact nomatch rep_bl.mp k
  | int _=>cases rep_int.mp k;rfl
  | str _=>exact nomatch rep_str.mp k
  | ty _=>unfold okD at oe;cases oe
  | obj _=>unfold okD at oe;cases oe
  | tup _=>obtain⟨_,_,z,_⟩:=rep_tup.mp k;cases z
  | lst _=>obtain⟨_,_,z,_⟩:=rep_lst.mp k;cases z
 | .str b,e,v,_,oe,h,k=>by
  cases rep_str.mp h
  cases e with
  | non=>exact nomatch rep_non.mp k
  | bl _=>exact nomatch rep_bl.mp k
  | int _=>exact nomatch rep_int.mp k
  | str _=>cases rep_str.mp k;rfl
  | ty _=>unfold okD at oe;cases oe
  | obj _=>unfold okD at oe;cases oe
  | tup _=>obtain⟨_,_,z,_⟩:=rep_tup.mp k;cases z
  | lst _=>obtain⟨_,_,z,_⟩:=rep_lst.mp k;cases z
 | .ty _,_,_,od,_,_,_=>by unfold okD at od;cases od
 | .obj _,_,_,od,_,_,_=>by unfold okD at od;cases od
 | .tup ds,e,v,od,oe,h,k=>by
  obtain⟨a,xs,rfl,q1,q2⟩:=rep_tup.mp h
  cases e with
  | non=>exact nomatch rep_non.mp k
  | bl _=>exact nomatch rep_bl.mp k
  | int _=>exact nomatch rep_int.mp k
  | str _=>exact nomatch rep_str.mp k
  | ty _=>unfold okD at oe;cases oe
  | obj _=>unfold okD at oe;cases oe
  | tup es =>
   obtain⟨b,ys,z,p1,p2⟩:=rep_tup.mp k;cases z;rw[I.tuple_inj q1 p1] at q2;unfold okD at od oe;rw[reps_inj I od oe q2 p2]
  | lst es =>
   obtain⟨b,ys,z,p1,p2⟩:=rep_lst.mp k;cases z;exact (jFb I q1 p1).elim
 | .lst ds,e,v,od,oe,h,k=>by
  obtain⟨a,xs,rfl,q1,q2⟩:=rep_lst.mp h
  cases e with
  | non=>exact nomatch rep_non.mp k
  | bl _=>exact nomatch rep_bl.mp k
  | int _=>exact nomatch rep_int.mp k
  | str _=>exact nomatch rep_str.mp k
  | ty _=>unfold okD at oe;cases oe
  | obj _=>unfold okD at oe;cases oe
  | tup es =>
   obtain⟨b,ys,z,p1,p2⟩:=rep_tup.mp k;cases z;exact (jFb I p1 q1).elim
  | lst es =>
   obtain⟨b,ys,z,p1,p2⟩:=rep_lst.mp k;cases z;rw[I.list_inj q1 p1] at q2;unfold okD at od oe;rw[reps_inj I od oe q2 p2]
def reps_inj(I:Inv X U Z H s):∀ {ds es:List D} {vs:List V},okDs ds=true->okDs es=true->Reps J X.K H ds vs->Reps J X.K H es vs->ds=es
 | [],[],_,_,_,_,_=>rfl
 | [],_::_,_,_,_,h,k=>by cases reps_nil.mp h;obtain⟨_,_,z,_⟩:=reps_cons.mp k;cases z
 | _::_,[],_,_,_,h,k=>by cases reps_nil.mp k;obtain⟨_,_,z,_⟩:=reps_cons.mp h;cases z
 | d::ds,e::es,vs,od,oe,h,k=>by
  obtain⟨v,r,rfl,h1,h2⟩:=reps_cons.mp h;obtain⟨v',r',z,k1,k2⟩:=reps_cons.mp k;cases z;unfold okDs at od oe;rw[Bool.and_eq_true] at od oe;rw[jwg I od.1 oe.1 h1 k1,reps_inj I od.2 oe.2 h2 k2]
end
def jqh(I:Inv X U Z H s):∀ (n:Nat) (A:Around) (d e:D) (v u:V) (a b:Value),depD d<=n->A.units+n+1<cLine->okD d=true->okD e=true->Rep J X.K H d v->Rep J X.K H e u->RelV v a->RelV u b ->
  SeqAt.RcAt A s a b (eqB d e)/\SeqAt.EqAt A s a b (eqB d e):=by
 intro n
 induction n with
 | zero =>
  intro A d e v u a b hd hu od oe rd re ra rb;have hu':A.units<cLine:=by omega
  have seqT:∀ {es:List D},Rep J X.K H (.tup es) u->∃ l its,b=.ref l/\s.heap.IsTuple l its:=fun h=>by
   obtain⟨l,xs,rfl,q1,_⟩:=rep_tup.mp h;obtain⟨its,_,p,_⟩:=I.tuple q1;exact⟨l,_,rb,p⟩
  have seqL:∀ {es:List D},Rep J X.K H (.lst es) u->∃ l its,b=.ref l/\s.heap.IsList l its:=fun h=>by
   obtain⟨l,xs,rfl,q1,_⟩:=rep_lst.mp h;obtain⟨its,_,p,_⟩:=I.list q1;exact⟨l,_,rb,p.isList⟩
  cases d with
  | ty _=>unfold okD at od;cases od
  | obj _=>unfold okD at od;cases od
  | tup _=>unfold depD at hd;omega
  | lst _=>unfold depD at hd;omega
  | non=>unfold okD at od;cases od
  | bl x=>unfold okD at od;cases od
  | int x =>
   cases rep_int.mp rd;obtain⟨ta,rfl⟩:=ra
   cases e with
   | ty _=>unfold okD at oe;cases oe
   | obj _=>unfold okD at oe;cases oe
   | non=>unfold okD at oe;cases oe
   | bl y=>unfold okD at oe;cases oe
   | int y=>cases rep_int.mp re;obtain⟨t,rfl⟩:=rb;exact⟨SeqAt.RcAt.int_int _ _ _ _,SeqAt.EqAt.int_int _ _ _ _⟩
   | str y=>cases rep_str.mp re;obtain⟨t,rfl⟩:=rb;exact⟨SeqAt.RcAt.int_str _ _ _ _,SeqAt.EqAt.int_str _ _ _ _⟩
   | tup es=>obtain⟨l,its,rfl,p⟩:=seqT re;exact⟨SeqAt.RcAt.int_tuple _ _ p hu',SeqAt.EqAt.int_tuple _ _ p hu'⟩
   | lst es=>obtain⟨l,its,rfl,p⟩:=seqL re;exact⟨SeqAt.RcAt.int_list _ _ p hu',SeqAt.EqAt.int_list _ _ p hu'⟩
  | str x =>
   cases rep_str.mp rd;obtain⟨ta,rfl⟩:=ra
   cases e with
   | ty _=>unfold okD at oe;cases oe
   | obj _=>unfold okD at oe;cases oe
   | non=>unfold okD at oe;cases oe
   | bl y=>unfold okD at oe;cases oe
   | int y=>cases rep_int.mp re;obtain⟨t,rfl⟩:=rb;exact⟨SeqAt.RcAt.str_int _ _ _ _,SeqAt.EqAt.str_int _ _ _ _⟩
   | str y=>cases rep_str.mp re;obtain⟨t,rfl⟩:=rb;exact⟨SeqAt.RcAt.str_str _ _ _ _,SeqAt.EqAt.str_str _ _ _ _⟩
   | tup es=>obtain⟨l,its,rfl,p⟩:=seqT re;exact⟨SeqAt.RcAt.str_tuple _ _ p hu',SeqAt.EqAt.str_tuple _ _ p hu'⟩
   | lst es=>obtain⟨l,its,rfl,p⟩:=seqL re;exact⟨SeqAt.RcAt.str_list _ _ p hu',SeqAt.EqAt.str_list _ _ p hu'⟩
 | succ n ih =>
  intro A d e v u a b hd hu od oe rd re ra rb;have hu':A.units<cLine:=by omega
  have hin:A.in1.units+n+1<cLine:=by show A.units+1+n+1<cLine;omega
  by_cases small:depD d<=n
  ·exact ih A d e v u a b small (by omega) od oe rd re ra rb
  ·-- the two are refs: the same,or apart
   have both:∀ {l m:Addr},v=.ref l->u=.ref m->a=.ref l->b=.ref m->SeqAt.RcAt A s a b (eqB d e)->SeqAt.RcAt A s a b (eqB d e)/\SeqAt.EqAt A s a b (eqB d e):=fun {l m} ev eu ea eb r=>by
    refine⟨r,?_⟩;subst ev eu ea eb
    by_cases z:l=m
    ·subst z;have:d=e:=jwg I od oe rd re;subst this;rw[jrz d od];exact SeqAt.EqAt.same _
    ·exact SeqAt.EqAt.of_refs z r
   cases d with
   | ty _=>unfold okD at od;cases od
   | obj _=>unfold okD at od;cases od
   | non=>unfold depD at small;omega
   | bl _=>unfold depD at small;omega
   | int _=>unfold depD at small;omega
   | str _=>unfold depD at small;omega
   | tup ds =>
    obtain⟨l,xs,rfl,q1,q2⟩:=rep_tup.mp rd;cases ra;obtain⟨ix,rx,px,_⟩:=I.tuple q1;have px':s.heap.IsTuple l ix.toArray:=px;unfold okD at od;unfold depD at hd
    cases e with
    | ty _=>unfold okD at oe;cases oe
    | obj _=>unfold okD at oe;cases oe
    | non=>unfold okD at oe;cases oe
    | bl y=>unfold okD at oe;cases oe
    | int y=>cases rep_int.mp re;obtain⟨t,rfl⟩:=rb;exact⟨SeqAt.RcAt.tuple_int _ _ px' hu',SeqAt.EqAt.tuple_int _ _ px' hu'⟩
    | str y=>cases rep_str.mp re;obtain⟨t,rfl⟩:=rb;exact⟨SeqAt.RcAt.tuple_str _ _ px' hu',SeqAt.EqAt.tuple_str _ _ px' hu'⟩
    | lst es =>
     obtain⟨m,ys,rfl,p1,p2⟩:=rep_lst.mp re;cases rb;obtain⟨iy,ry,py,_⟩:=I.list p1;unfold eqB;exact⟨SeqAt.RcAt.tuple_list px' py.isList hu',SeqAt.EqAt.tuple_list px' py.isList hu'⟩
    | tup es =>
     obtain⟨m,ys,rfl,p1,p2⟩:=rep_tup.mp re;cases rb;obtain⟨iy,ry,py,_⟩:=I.tuple p1;unfold okD at oe;refine both rfl rfl rfl rfl ?_;have lx:=rx.length;have ly:=ry.length;have mx:=q2.length;have my:=p2.length;have R:=SeqAt.RcAt.tuples (e:=fun j=>match ds[j]?,es[j]? with|some x,some y=>eqB x y|_,_=>false) px' (show s.heap.IsTuple m iy.toArray from py) hu' fun j h1 h2=>by
      have h1':j<ix.length:=by simpa using h1
      have h2':j<iy.length:=by simpa using h2
      have hj1:j<ds.length:=by omega
      have hj2:j<es.length:=by omega
      obtain⟨v1,e1,r1⟩:=q2.get (zax hj1);obtain⟨v2,e2,r2⟩:=p2.get (zax hj2);obtain⟨u1,f1,s1⟩:=rx.get e1;obtain⟨u2,f2,s2⟩:=ry.get e2;have g1:ix.toArray[j]=u1:=by rw[zax h1'] at f1;simpa using zby f1
      have g2:iy.toArray[j]=u2:=by rw[zax h2'] at f2;simpa using zby f2
      rw[g1,g2,zax hj1,zax hj2];have dd:=jg5 (zax hj1);exact (ih A.in1 _ _ v1 v2 u1 u2 (by omega) hin (jen od (zax hj1)) (jen oe (zax hj2)) r1 r2 s1 s2).2
     unfold eqB;have fin:((List.range (min ix.toArray.size iy.toArray.size)).all (fun j=>match ds[j]?,es[j]? with|some x,some y=>eqB x y|_,_=>false)&&ix.toArray.size == iy.toArray.size)=eqBs ds es:=by
      simp only[zbx]
      by_cases hl:ds.length=es.length
      ·have e1:min ix.length iy.length=ds.length:=by omega
       have e2:(ix.length == iy.length)=true:=by simp;omega
       rw[e1,e2,Bool.and_true];exact ji4 hl _ fun j x y z1 z2=>by rw[z1,z2]
      ·have e2:(ix.length == iy.length)=false:=by simp;omega
       rw[e2,Bool.and_false]
       cases z:eqBs ds es with
       | false=>rfl
       | true=>exact absurd (ji5 z) hl
     rw[fin] at R;exact R
   | lst ds =>
    obtain⟨l,xs,rfl,q1,q2⟩:=rep_lst.mp rd;cases ra;obtain⟨ix,rx,px,_⟩:=I.list q1;have px':s.heap.IsList l ix.toArray:=px.isList;unfold okD at od;unfold depD at hd
    cases e with
    | ty _=>unfold okD at oe;cases oe
    | obj _=>unfold okD at oe;cases oe
    | non=>unfold okD at oe;cases oe
    | bl y=>unfold okD at oe;cases oe
    | int y=>cases rep_int.mp re;obtain⟨t,rfl⟩:=rb;exact⟨SeqAt.RcAt.list_int _ _ px' hu',SeqAt.EqAt.list_int _ _ px' hu'⟩
    | str y=>cases rep_str.mp re;obtain⟨t,rfl⟩:=rb;exact⟨SeqAt.RcAt.list_str _ _ px' hu',SeqAt.EqAt.list_str _ _ px' hu'⟩
    | tup es =>
     obtain⟨m,ys,rfl,p1,p2⟩:=rep_tup.mp re;cases rb;obtain⟨iy,ry,py,_⟩:=I.tuple p1;unfold eqB;exact⟨SeqAt.RcAt.list_tuple px' py hu',SeqAt.EqAt.list_tuple px' py hu'⟩
    | lst es =>
     obtain⟨m,ys,rfl,p1,p2⟩:=rep_lst.mp re;cases rb;obtain⟨iy,ry,py,_⟩:=I.list p1;unfold okD at oe;refine both rfl rfl rfl rfl ?_;have lx:=rx.length;have ly:=ry.length;have mx:=q2.length;have my:=p2.length;unfold eqB
     by_cases hl:ds.length=es.length
     ·have hsz:ix.toArray.size=iy.toArray.size:=by simp only[zbx];omega
      have R:=SeqAt.RcAt.lists (e:=fun j=>match ds[j]?,es[j]? with|some x,some y=>eqB x y|_,_=>false) px' py.isList hsz hu' fun j h1 h2=>by
       have h1':j<ix.length:=by simpa using h1
       have h2':j<iy.length:=by simpa using h2
       have hj1:j<ds.length:=by omega
       have hj2:j<es.length:=by omega
       obtain⟨v1,e1,r1⟩:=q2.get (zax hj1);obtain⟨v2,e2,r2⟩:=p2.get (zax hj2);obtain⟨u1,f1,s1⟩:=rx.get e1;obtain⟨u2,f2,s2⟩:=ry.get e2;have g1:ix.toArray[j]=u1:=by rw[zax h1'] at f1;simpa using zby f1
       have g2:iy.toArray[j]=u2:=by rw[zax h2'] at f2;simpa using zby f2
       rw[g1,g2,zax hj1,zax hj2];have dd:=jg5 (zax hj1);exact (ih A.in1 _ _ v1 v2 u1 u2 (by omega) hin (jen od (zax hj1)) (jen oe (zax hj2)) r1 r2 s1 s2).2
      have e1:ix.toArray.size=ds.length:=by simp only[zbx];omega
      rw[e1,ji4 hl _ fun j x y z1 z2=>by rw[z1,z2]] at R;exact R
     ·have R:=SeqAt.RcAt.lists_lengths (s:=s) (A:=A) px' py.isList (by simp only[zbx];simp;omega) hu'
      cases z:eqBs ds es with
      | false=>exact R
      | true=>exact absurd (ji5 z) hl
end
def BIGN:Nat:=Classical.choose (⟨2 ^ 100000,rfl⟩:∃ n:Nat,n=2 ^ 100000)
def jt1:BIGN=2 ^ 100000:=Classical.choose_spec (⟨2 ^ 100000,rfl⟩:∃ n:Nat,n=2 ^ 100000)
def BIG:Int:=(BIGN:Int)
def DIVN:Nat:=Classical.choose (⟨2 ^ 9000,rfl⟩:∃ n:Nat,n=2 ^ 9000)
def jt2:DIVN=2 ^ 9000:=Classical.choose_spec (⟨2 ^ 9000,rfl⟩:∃ n:Nat,n=2 ^ 9000)
def DIVB:Int:=(DIVN:Int)
def jh8(i:Int):Bool:=decide (-BIG<i)&&decide (i<BIG)
def gAdd:D->D->Option D
 | .int i,.int j=>some (.int (i+j))
 | .str x,.str y=>if x.length+y.length<=sizeLine then some (.str (x++y)) else none
 | _,_=>none
def gSub:D->D->Option D
 | .int i,.int j=>some (.int (i-j))
 | _,_=>none
def gMul:D->D->Option D
 | .int i,.int j=>if (jh8 i&&jh8 j)=true then some (.int (i*j)) else none
 | .str x,.int n=>if x.length<=4096/\-4096<=n/\n<=4096 then some (.str (Txt.mul x n)) else none
 | _,_=>none
def gMod:D->D->Option D
 | .int i,.int j=>if 0<j then some (.int (i % j)) else none
 | _,_=>none
def jev:D->D->Option D
 | .int i,.int j=>if 0<j/\j<DIVB then some (.int (i / j)) else none
 | _,_=>none
def gPow:D->D->Option D
 | .int i,.int j=>if 0<=j/\j<=1000/\-(2 ^ 60)<i/\i<2 ^ 60 then some (.int (i ^ j.toNat)) else none
 | _,_=>none
def gCmp(p:Int->Int->Bool)(q:Str->Str->Bool):D->D->Option D
 | .int i,.int j=>some (.bl (p i j))
 | .str x,.str y=>some (.bl (q x y))
 | _,_=>none
def gLt:=gCmp (fun i j=>decide (i<j)) (fun x y=>decide (x.cps.toList<y.cps.toList))
def gLe:=gCmp (fun i j=>decide (i<=j)) (fun x y=>!decide (y.cps.toList<x.cps.toList))
def gGt:=gCmp (fun i j=>decide (j<i)) (fun x y=>decide (y.cps.toList<x.cps.toList))
def gGe:=gCmp (fun i j=>decide (j<=i)) (fun x y=>!decide (x.cps.toList<y.cps.toList))
def gEq:D->D->Option D:=fun x y=>if (okD x&&okD y&&decide (depD x<=20))=true then some (.bl (eqB x y)) else none
def gNe:D->D->Option D:=fun x y=>if (okD x&&okD y&&decide (depD x<=20))=true then some (.bl !(eqB x y)) else none
def jzx:D->Bool
 | .non=>true
 | _=>false
def gIs:D->D->Option D
 | x,.non=>some (.bl (jzx x))
 | _,_=>none
def gNeg:D->Option D
 | .int i=>some (.int (-i))
 | _=>none
def gIx:D->D->Option D
 | .lst ds,.int i=>atI ds i
 | .tup ds,.int i=>atI ds i
 | .str z,.int i=>if z.length<=sizeLine then (atI z.cps.toList i).map fun c=>.str ⟨#[c]⟩ else none
 | _,_=>none
def jrl{i:Int}(h:jh8 i=true):Builtin.Int.intBits i<=100001:=by
 unfold jh8 at h;rw[Bool.and_eq_true,decide_eq_true_eq,decide_eq_true_eq] at h;unfold Builtin.Int.intBits
 split
 ·omega
 ·have hn:i.natAbs≠0:=by
   intro z;have:i=0:=by omega
   subst this;simp at *
  have hlt:i.natAbs<BIGN:=by
   unfold BIG at h;omega
  rw[jt1] at hlt;have:=(Nat.log2_lt (k:=100000) hn).mpr hlt;omega
def jA6{i j:Int}(h1:jh8 i=true)(h2:jh8 j=true):IntMulOk i j:=by
 have b1:=jrl h1;have b2:=jrl h2;unfold IntMulOk;have:Builtin.Int.intTooBig ((Builtin.Int.intBits i:Int)+(Builtin.Int.intBits j:Int))=false:=by
  unfold Builtin.Int.intTooBig bitsLine;simp;omega
 intro h;rw[Bool.and_eq_true] at h;have h2:=h.2
 first
  | (rw[this] at h2;cases h2)
  | (push_cast at h2;rw[this] at h2;cases h2)
section
variable {X:Cx}
def jq6:OpD X.K gAdd (fun x y H Q=>rI0 (fun i j=>.int (i+j)) x y H Q\/∃ i j,x=.str i/\y=.str j/\i.length+j.length<=sizeLine/\Q (.str (i++j)) H):=by
 intro x y d hd J H G u v Q hG ru rv k;unfold gAdd at hd
 split at hd
 ·cases hd;exact .inl ⟨_,_,rep_int.mp ru,rep_int.mp rv,k _ H (Same.refl H) (rep_int.mpr rfl)⟩
 ·split at hd
  ·rename_i hz;cases hd;exact .inr ⟨_,_,rep_str.mp ru,rep_str.mp rv,hz,k _ H (Same.refl H) (rep_str.mpr rfl)⟩
  ·cases hd
 ·cases hd
def op_addD:OpR X (binaryOp .Add) (fun x y H Q=>rI0 (fun i j=>.int (i+j)) x y H Q\/∃ i j,x=.str i/\y=.str j/\i.length+j.length<=sizeLine/\Q (.str (i++j)) H):=op_add.or jtm
def jjx:OpD X.K gSub (rI0 fun i j=>.int (i-j)):=by
 intro x y d hd J H G u v Q hG ru rv k;unfold gSub at hd
 split at hd
 ·cases hd;exact⟨_,_,rep_int.mp ru,rep_int.mp rv,k _ H (Same.refl H) (rep_int.mpr rfl)⟩
 ·cases hd
def op_mulD:OpR X (binaryOp .Mult) (fun x y H Q=>rI (fun i j=>(jh8 i&&jh8 j)=true) (fun i j=>.int (i*j)) x y H Q\/∃ z n,x=.str z/\y=.int n/\(z.length<=4096/\-4096<=n/\n<=4096)/\Q (.str (Txt.mul z n)) H):=by
 refine OpR.or (opI fun i j t u s E Q hc q=>PyProof.Rows.mul_int q (by rw[Bool.and_eq_true] at hc;exact jA6 hc.1 hc.2)) ?_;intro U s Z H x y v u Q I rx ry h;obtain⟨z,n,rfl,rfl,⟨h1,h2,h3⟩,q⟩:=h;obtain⟨t,rfl⟩:=rx;obtain⟨t',rfl⟩:=ry;refine SB.mul (PyProof.Rows.mulOk_of 4096 4096 h1 h3 (by omega) (by decide) (by decide)) fun t' k=>⟨.str (Txt.mul z n),H,I.tok _,⟨_,rfl⟩,q⟩
def jCo:OpD X.K gMul (fun x y H Q=>rI (fun i j=>(jh8 i&&jh8 j)=true) (fun i j=>.int (i*j)) x y H Q\/∃ z n,x=.str z/\y=.int n/\(z.length<=4096/\-4096<=n/\n<=4096)/\Q (.str (Txt.mul z n)) H):=by
 intro x y d hd J H G u v Q hG ru rv k;unfold gMul at hd
 split at hd
 ·split at hd
  ·rename_i hz;cases hd;exact .inl ⟨_,_,rep_int.mp ru,rep_int.mp rv,hz,k _ H (Same.refl H) (rep_int.mpr rfl)⟩
  ·cases hd
 ·split at hd
  ·rename_i hz;cases hd;exact .inr ⟨_,_,rep_str.mp ru,rep_int.mp rv,hz,k _ H (Same.refl H) (rep_str.mpr rfl)⟩
  ·cases hd
 ·cases hd
def jbz:OpD X.K gMod (rI (fun _ j=>0<j) fun i j=>.int (i % j)):=by
 intro x y d hd J H G u v Q hG ru rv k;unfold gMod at hd
 split at hd
 ·split at hd
  ·rename_i hz;cases hd;exact⟨_,_,rep_int.mp ru,rep_int.mp rv,hz,k _ H (Same.refl H) (rep_int.mpr rfl)⟩
  ·cases hd
 ·cases hd
def jdb:OpR X (binaryOp .FloorDiv) (rI (fun _ j=>0<j/\j<DIVB) fun i j=>.int (i / j)):=opI fun i j t u s E Q hc q=>by
 have e:i.fdiv j=i / j:=Int.fdiv_eq_ediv_of_nonneg i (Int.le_of_lt hc.1);refine PyProof.Rows.floordiv_int (by omega) (by rw[e];exact q) (.inl (PyProof.noPylong_of_log2 ?_));have hn:j.natAbs≠0:=by omega
 have hlt:j.natAbs<DIVN:=by
  have:=hc.2;unfold DIVB at this;omega
 rw[jt2] at hlt;exact (Nat.log2_lt (k:=9000) hn).mpr hlt
def jdc:OpD X.K jev (rI (fun _ j=>0<j/\j<DIVB) fun i j=>.int (i / j)):=by
 intro x y d hd J H G u v Q hG ru rv k;unfold jev at hd
 split at hd
 ·split at hd
  ·rename_i hz;cases hd;exact⟨_,_,rep_int.mp ru,rep_int.mp rv,hz,k _ H (Same.refl H) (rep_int.mpr rfl)⟩
  ·cases hd
 ·cases hd
def jCp:OpD X.K gPow (rI CPow fun i j=>.int (i ^ j.toNat)):=by
 intro x y d hd J H G u v Q hG ru rv k;unfold gPow at hd
 split at hd
 ·split at hd
  ·rename_i hz;cases hd;exact⟨_,_,rep_int.mp ru,rep_int.mp rv,⟨hz.1,by omega,by omega⟩,k _ H (Same.refl H) (rep_int.mpr rfl)⟩
  ·cases hd
 ·cases hd
def jcw{p:Int->Int->Bool}{q:Str->Str->Bool}:OpD X.K (gCmp p q) (fun x y H Q=>rI0 (fun i j=>.bl (p i j)) x y H Q\/∃ i j,x=.str i/\y=.str j/\Q (.bl (q i j)) H):=by
 intro x y d hd J H G u v Q hG ru rv k;unfold gCmp at hd
 split at hd
 ·cases hd;exact .inl ⟨_,_,rep_int.mp ru,rep_int.mp rv,k _ H (Same.refl H) (rep_bl.mpr rfl)⟩
 ·cases hd;exact .inr ⟨_,_,rep_str.mp ru,rep_str.mp rv,k _ H (Same.refl H) (rep_bl.mpr rfl)⟩
 ·cases hd
def jvu{op:CmpOp}{q:Str->Str->Bool}(h:∀ {prog:Program} {w:World} {A:Around} {E:qc} {s:Shared} {Q:qc} (x y:Str) (t u:Tok),Q (.bool (q x y)) s->wpAny (model prog w) A (compareOp op (.str x t) (.str y u)) Q E s) :
  OpR X (compareOp op) (fun x y H Q=>∃ i j,x=.str i/\y=.str j/\Q (.bl (q i j)) H):=by
 intro U s Z H x y v u Q I rx ry k;obtain⟨i,j,rfl,rfl,k⟩:=k;obtain⟨t,rfl⟩:=rx;obtain⟨t',rfl⟩:=ry;exact h i j t t' ⟨.bl (q i j),H,I,rfl,k⟩
def jji:OpR X (compareOp .Lt) (fun x y H Q=>rI0 (fun i j=>.bl (decide (i<j))) x y H Q\/∃ i j,x=.str i/\y=.str j/\Q (.bl (decide (i.cps.toList<j.cps.toList))) H):=op_lt.or jvs
def jsb:OpR X (compareOp .LtE) (fun x y H Q=>rI0 (fun i j=>.bl (decide (i<=j))) x y H Q\/∃ i j,x=.str i/\y=.str j/\Q (.bl (!decide (j.cps.toList<i.cps.toList))) H):=op_le.or (jvu fun x y t u h=>P.le_str h)
def jpq:OpR X (compareOp .Gt) (fun x y H Q=>rI0 (fun i j=>.bl (decide (j<i))) x y H Q\/∃ i j,x=.str i/\y=.str j/\Q (.bl (decide (j.cps.toList<i.cps.toList))) H):=op_gt.or (jvu fun x y t u h=>P.gt_str h)
def rEqD(K:W.Frag)(neg:Bool):R2:=fun u v H Q=>∃ J x y,okD x=true/\okD y=true/\depD x<=20/\Rep J K H x u/\Rep J K H y v/\Q (.bl (if neg then !eqB x y else eqB x y)) H
def ja6(hu:X.A.units+30<cLine):OpR X (compareOp .Eq) (rEqD X.K false):=by
 intro U s Z H x y v u Q I rx ry h;obtain⟨J,d,e,o1,o2,hd,r1,r2,q⟩:=h;exact (jqh I 20 X.A d e x y v u hd (by omega) o1 o2 r1 r2 rx ry).1 _ _ _ _ ⟨.bl (eqB d e),H,I,rfl,q⟩
def ja7:OpD X.K gEq (rEqD X.K false):=by
 intro x y d hd J H G u v Q hG ru rv k;unfold gEq at hd
 split at hd
 ·rename_i h;rw[Bool.and_eq_true,Bool.and_eq_true,decide_eq_true_eq] at h;cases hd;exact⟨J,x,y,h.1.1,h.1.2,h.2,ru.mono jay,rv.mono jay,k _ H (Same.refl H) (rep_bl.mpr rfl)⟩
 ·cases hd
def jvw:OpD X.K gNe (rEqD X.K true):=by
 intro x y d hd J H G u v Q hG ru rv k;unfold gNe at hd
 split at hd
 ·rename_i h;rw[Bool.and_eq_true,Bool.and_eq_true,decide_eq_true_eq] at h;cases hd;exact⟨J,x,y,h.1.1,h.1.2,h.2,ru.mono jay,rv.mono jay,k _ H (Same.refl H) (rep_bl.mpr rfl)⟩
 ·cases hd
def jvn{J:Rho}{U:qb}{Z:St}{H:Hp}{s:Shared}(I:Inv X U Z H s)(A:Around){ds es:List D}{v u:V}{a b:Value}(hd:depD (.tup ds)<=20)(hu:A.units+24<cLine)(od:okD (.tup ds)=true)(oe:okD (.tup es)=true)
  (rd:Rep J X.K H (.tup ds) v) (re:Rep J X.K H (.tup es) u) (ra:RelV v a) (rb:RelV u b):SeqAt.RcNeAt A s a b (!eqB (.tup ds) (.tup es)):=by
 have hu':A.units<cLine:=by omega
 obtain⟨l,xs,rfl,q1,q2⟩:=rep_tup.mp rd;obtain⟨m,ys,rfl,p1,p2⟩:=rep_tup.mp re;cases ra;cases rb;obtain⟨ix,rx,px,_⟩:=I.tuple q1;obtain⟨iy,ry,py,_⟩:=I.tuple p1;unfold okD at od oe;unfold depD at hd;have lx:=rx.length;have ly:=ry.length;have mx:=q2.length;have my:=p2.length;have R:=SeqAt.RcNeAt.tuples (A:=A) (e:=fun j=>match ds[j]?,es[j]? with|some x,some y=>eqB x y|_,_=>false) (show s.heap.IsTuple l ix.toArray from px) (show s.heap.IsTuple m iy.toArray from py) hu' fun j h1 h2=>by
  have h1':j<ix.length:=by simpa using h1
  have h2':j<iy.length:=by simpa using h2
  have hj1:j<ds.length:=by omega
  have hj2:j<es.length:=by omega
  obtain⟨v1,e1,r1⟩:=q2.get (zax hj1);obtain⟨v2,e2,r2⟩:=p2.get (zax hj2);obtain⟨u1,f1,s1⟩:=rx.get e1;obtain⟨u2,f2,s2⟩:=ry.get e2;have g1:ix.toArray[j]=u1:=by rw[zax h1'] at f1;simpa using zby f1
  have g2:iy.toArray[j]=u2:=by rw[zax h2'] at f2;simpa using zby f2
  rw[g1,g2,zax hj1,zax hj2];have dd:=jg5 (zax hj1);exact (jqh I 20 A.in1 _ _ v1 v2 u1 u2 (by omega) (by show A.units+1+20+1<cLine;omega) (jen od (zax hj1)) (jen oe (zax hj2)) r1 r2 s1 s2).2
 unfold eqB;have fin:((List.range (min ix.toArray.size iy.toArray.size)).all (fun j=>match ds[j]?,es[j]? with|some x,some y=>eqB x y|_,_=>false)&&ix.toArray.size == iy.toArray.size)=eqBs ds es:=by
  simp only[zbx]
  by_cases hl:ds.length=es.length
  ·have e1:min ix.length iy.length=ds.length:=by omega
   have e2:(ix.length == iy.length)=true:=by simp;omega
   rw[e1,e2,Bool.and_true];exact ji4 hl _ fun j x y z1 z2=>by rw[z1,z2]
  ·have e2:(ix.length == iy.length)=false:=by simp;omega
   rw[e2,Bool.and_false]
   cases z:eqBs ds es with
   | false=>rfl
   | true=>exact absurd (ji5 z) hl
 rw[fin] at R;exact R
def jyb{J:Rho}{U:qb}{Z:St}{H:Hp}{s:Shared}(I:Inv X U Z H s)(A:Around){ds es:List D}{v u:V}{a b:Value}(hd:depD (.lst ds)<=20)(hu:A.units+24<cLine)(od:okD (.lst ds)=true)(oe:okD (.lst es)=true)
  (rd:Rep J X.K H (.lst ds) v) (re:Rep J X.K H (.lst es) u) (ra:RelV v a) (rb:RelV u b):SeqAt.RcNeAt A s a b (!eqB (.lst ds) (.lst es)):=by
 have hu':A.units<cLine:=by omega
 obtain⟨l,xs,rfl,q1,q2⟩:=rep_lst.mp rd;obtain⟨m,ys,rfl,p1,p2⟩:=rep_lst.mp re;cases ra;cases rb;obtain⟨ix,rx,px,_⟩:=I.list q1;obtain⟨iy,ry,py,_⟩:=I.list p1;unfold okD at od oe;unfold depD at hd;have lx:=rx.length;have ly:=ry.length;have mx:=q2.length;have my:=p2.length;unfold eqB
 by_cases hl:ds.length=es.length
 ·have hsz:ix.toArray.size=iy.toArray.size:=by simp only[zbx];omega
  have R:=SeqAt.RcNeAt.lists (A:=A) (e:=fun j=>match ds[j]?,es[j]? with|some x,some y=>eqB x y|_,_=>false) px.isList py.isList hsz hu' fun j h1 h2=>by
   have h1':j<ix.length:=by simpa using h1
   have h2':j<iy.length:=by simpa using h2
   have hj1:j<ds.length:=by omega
   have hj2:j<es.length:=by omega
   obtain⟨v1,e1,r1⟩:=q2.get (zax hj1);obtain⟨v2,e2,r2⟩:=p2.get (zax hj2);obtain⟨u1,f1,s1⟩:=rx.get e1;obtain⟨u2,f2,s2⟩:=ry.get e2;have g1:ix.toArray[j]=u1:=by rw[zax h1'] at f1;simpa using zby f1
   have g2:iy.toArray[j]=u2:=by rw[zax h2'] at f2;simpa using zby f2
   rw[g1,g2,zax hj1,zax hj2];have dd:=jg5 (zax hj1);exact (jqh I 20 A.in1 _ _ v1 v2 u1 u2 (by omega) (by show A.units+1+20+1<cLine;omega) (jen od (zax hj1)) (jen oe (zax hj2)) r1 r2 s1 s2).2
  have e1:ix.toArray.size=ds.length:=by simp only[zbx];omega
  rw[e1,ji4 hl _ fun j x y z1 z2=>by rw[z1,z2]] at R;exact R
 ·have R:=SeqAt.RcNeAt.lists_lengths (s:=s) (A:=A) px.isList py.isList (by simp only[zbx];simp;omega) hu'
  cases z:eqBs ds es with
  | false=>exact R
  | true=>exact absurd (ji5 z) hl
def jFt{J:Rho}{U:qb}{Z:St}{H:Hp}{s:Shared}(I:Inv X U Z H s)(A:Around)(d e:D)(v u:V)(a b:Value)(hd:depD d<=20)(hu:A.units+24<cLine)(od:okD d=true)(oe:okD e=true)(rd:Rep J X.K H d v)(re:Rep J X.K H e u)(ra:RelV v a)(rb:RelV u b) :
  SeqAt.RcNeAt A s a b (!eqB d e):=by
 have hu':A.units<cLine:=by omega
 have seqT:∀ {es:List D} {w:V} {c:Value},Rep J X.K H (.tup es) w->RelV w c->∃ l its,c=.ref l/\s.heap.IsTuple l its:=fun h rc=>by
  obtain⟨l,xs,rfl,q1,_⟩:=rep_tup.mp h;obtain⟨its,_,p,_⟩:=I.tuple q1;exact⟨l,_,rc,p⟩
 have seqL:∀ {es:List D} {w:V} {c:Value},Rep J X.K H (.lst es) w->RelV w c->∃ l its,c=.ref l/\s.heap.IsList l its:=fun h rc=>by
  obtain⟨l,xs,rfl,q1,_⟩:=rep_lst.mp h;obtain⟨its,_,p,_⟩:=I.list q1;exact⟨l,_,rc,p.isList⟩
 cases d with
 | ty _=>unfold okD at od;cases od
 | obj _=>unfold okD at od;cases od
 | non=>unfold okD at od;cases od
 | bl x=>unfold okD at od;cases od
 | int x =>
  cases e with
  | ty _=>unfold okD at oe;cases oe
  | obj _=>unfold okD at oe;cases oe
  | non=>unfold okD at oe;cases oe
  | bl y=>unfold okD at oe;cases oe
  | int y=>cases rep_int.mp rd;obtain⟨t1,rfl⟩:=ra;cases rep_int.mp re;obtain⟨t2,rfl⟩:=rb;unfold eqB;exact SeqAt.RcNeAt.int_int _ _ _ _
  | str y=>cases rep_int.mp rd;obtain⟨t1,rfl⟩:=ra;cases rep_str.mp re;obtain⟨t2,rfl⟩:=rb;unfold eqB;exact SeqAt.RcNeAt.int_str _ _ _ _
  | tup y=>cases rep_int.mp rd;obtain⟨t1,rfl⟩:=ra;obtain⟨l2,i2,rfl,p2⟩:=seqT re rb;unfold eqB;exact SeqAt.RcNeAt.int_tuple _ _ p2 hu'
  | lst y=>cases rep_int.mp rd;obtain⟨t1,rfl⟩:=ra;obtain⟨l2,i2,rfl,p2⟩:=seqL re rb;unfold eqB;exact SeqAt.RcNeAt.int_list _ _ p2 hu'
 | str x =>
  cases e with
  | ty _=>unfold okD at oe;cases oe
  | obj _=>unfold okD at oe;cases oe
  | non=>unfold okD at oe;cases oe
  | bl y=>unfold okD at oe;cases oe
  | int y=>cases rep_str.mp rd;obtain⟨t1,rfl⟩:=ra;cases rep_int.mp re;obtain⟨t2,rfl⟩:=rb;unfold eqB;exact SeqAt.RcNeAt.str_int _ _ _ _
  | str y=>cases rep_str.mp rd;obtain⟨t1,rfl⟩:=ra;cases rep_str.mp re;obtain⟨t2,rfl⟩:=rb;unfold eqB;exact SeqAt.RcNeAt.str_str _ _ _ _
  | tup y=>cases rep_str.mp rd;obtain⟨t1,rfl⟩:=ra;obtain⟨l2,i2,rfl,p2⟩:=seqT re rb;unfold eqB;exact SeqAt.RcNeAt.str_tuple _ _ p2 hu'
  | lst y=>cases rep_str.mp rd;obtain⟨t1,rfl⟩:=ra;obtain⟨l2,i2,rfl,p2⟩:=seqL re rb;unfold eqB;exact SeqAt.RcNeAt.str_list _ _ p2 hu'
 | tup x =>
  cases e with
  | ty _=>unfold okD at oe;cases oe
  | obj _=>unfold okD at oe;cases oe
  | non=>unfold okD at oe;cases oe
  | bl y=>unfold okD at oe;cases oe
  | int y=>obtain⟨l1,i1,rfl,p1⟩:=seqT rd ra;cases rep_int.mp re;obtain⟨t2,rfl⟩:=rb;unfold eqB;exact SeqAt.RcNeAt.tuple_int _ _ p1 hu'
  | str y=>obtain⟨l1,i1,rfl,p1⟩:=seqT rd ra;cases rep_str.mp re;obtain⟨t2,rfl⟩:=rb;unfold eqB;exact SeqAt.RcNeAt.tuple_str _ _ p1 hu'
  | tup y=>exact jvn I A hd hu od oe rd re ra rb
  | lst y=>obtain⟨l1,i1,rfl,p1⟩:=seqT rd ra;obtain⟨l2,i2,rfl,p2⟩:=seqL re rb;unfold eqB;exact SeqAt.RcNeAt.tuple_list p1 p2 hu'
 | lst x =>
  cases e with
  | ty _=>unfold okD at oe;cases oe
  | obj _=>unfold okD at oe;cases oe
  | non=>unfold okD at oe;cases oe
  | bl y=>unfold okD at oe;cases oe
  | int y=>obtain⟨l1,i1,rfl,p1⟩:=seqL rd ra;cases rep_int.mp re;obtain⟨t2,rfl⟩:=rb;unfold eqB;exact SeqAt.RcNeAt.list_int _ _ p1 hu'
  | str y=>obtain⟨l1,i1,rfl,p1⟩:=seqL rd ra;cases rep_str.mp re;obtain⟨t2,rfl⟩:=rb;unfold eqB;exact SeqAt.RcNeAt.list_str _ _ p1 hu'
  | tup y=>obtain⟨l1,i1,rfl,p1⟩:=seqL rd ra;obtain⟨l2,i2,rfl,p2⟩:=seqT re rb;unfold eqB;exact SeqAt.RcNeAt.list_tuple p1 p2 hu'
  | lst y=>exact jyb I A hd hu od oe rd re ra rb
def jvt(hu:X.A.units+30<cLine):OpR X (compareOp .NotEq) (rEqD X.K true):=by
 intro U s Z H x y v u Q I rx ry h;obtain⟨J,d,e,o1,o2,hd,r1,r2,q⟩:=h;exact jFt I X.A d e x y v u hd (by omega) o1 o2 r1 r2 rx ry _ _ _ _ ⟨.bl (!eqB d e),H,I,rfl,q⟩
def jz8:OpD X.K gIs (fun x y H Q=>y=.non/\Q (.bl (decide (x=.non))) H):=by
 intro x y d hd J H G u v Q hG ru rv k
 cases y with
 | non =>
  cases hd;refine⟨rep_non.mp rv,?_⟩;have e:decide (u=V.non)=jzx x:=by
   cases x with
   | non=>cases rep_non.mp ru;rfl
   | bl _=>cases rep_bl.mp ru;rfl
   | int _=>cases rep_int.mp ru;rfl
   | str _=>cases rep_str.mp ru;rfl
   | ty _=>cases rep_ty.mp ru;rfl
   | obj _=>obtain⟨_,_,rfl⟩:=rep_obj.mp ru;rfl
   | tup _=>obtain⟨_,_,rfl,_⟩:=rep_tup.mp ru;rfl
   | lst _=>obtain⟨_,_,rfl,_⟩:=rep_lst.mp ru;rfl
  rw[e];exact k _ H (Same.refl H) (rep_bl.mpr rfl)
 | _=>cases hd
def jj4:UnD X.K gNeg (rU fun i=>.int (-i)):=by
 intro x d hd J H G u Q hG ru k
 cases x with
 | int i=>cases hd;exact⟨i,rep_int.mp ru,k _ H (Same.refl H) (rep_int.mpr rfl)⟩
 | _=>cases hd
def jra{J:Rho}{K:W.Frag}{H:Hp}{ds:List D}{xs:List V}{i:Int}{d:D}(h:Reps J K H ds xs)(e:atI ds i=some d):∃ v,atI xs i=some v/\Rep J K H d v:=by
 unfold atI at e |-
 rw[h.length]
 cases z:ixN ds.length i with
 | none=>rw[z] at e;cases e
 | some j=>rw[z] at e;exact h.get e
def jav:OpD X.K gIx (rIx X.K):=by
 intro x y d hd J H G u v Q hG ru rv k;unfold gIx at hd
 split at hd
 ·obtain⟨a,xs,rfl,q1,q2⟩:=rep_lst.mp ru;obtain⟨w,e,r⟩:=jra q2 hd;exact .inl ⟨a,xs,_,w,rfl,rep_int.mp rv,je5 jay q1,e,k w H (Same.refl H) r⟩
 ·obtain⟨a,xs,rfl,q1,q2⟩:=rep_tup.mp ru;obtain⟨w,e,r⟩:=jra q2 hd;exact .inr (.inl ⟨a,xs,_,w,rfl,rep_int.mp rv,jeb jay q1,e,k w H (Same.refl H) r⟩)
 ·split at hd
  ·rename_i z i hz
   cases e:atI z.cps.toList i with
   | none=>rw[e] at hd;cases hd
   | some c =>
    rw[e] at hd;cases hd;exact .inr (.inr ⟨z,i,c,rep_str.mp ru,rep_int.mp rv,hz,e,k _ H (Same.refl H) (rep_str.mpr rfl)⟩)
  ·cases hd
 ·cases hd
def kLen:List D->Option D
 | [.lst ds]=>some (.int ds.length)
 | [.tup ds]=>some (.int ds.length)
 | [.str z]=>if z.length<=sizeLine then some (.int z.length) else none
 | _=>none
def jlr{J:Rho}{K:W.Frag}{H:Hp}{d:D}{vs:List V}(h:Reps J K H [d] vs):∃ v,vs=[v]/\Rep J K H d v:=by
 obtain⟨v,r,rfl,q1,q2⟩:=reps_cons.mp h;cases reps_nil.mp q2;exact⟨v,rfl,q1⟩
def jIm{J:Rho}{K:W.Frag}{H:Hp}{d e:D}{vs:List V}(h:Reps J K H [d,e] vs):∃ v u,vs=[v,u]/\Rep J K H d v/\Rep J K H e u:=by
 obtain⟨v,r,rfl,q1,q2⟩:=reps_cons.mp h;obtain⟨u,rfl,q3⟩:=jlr q2;exact⟨v,u,rfl,q1,q3⟩
def jbh:CallR X (.builtin "len") (fun xs H Q=>(∃ p ys,xs=[.ref p]/\(SqL X.K H p ys\/SqT X.K H p ys)/\Q (.int ys.length) H)\/∃ z,xs=[.str z]/\z.length<=sizeLine/\Q (.int z.length) H):=call_len_seq.or jo0
def jcz:CaD X.K kLen (fun xs H Q=>(∃ p ys,xs=[.ref p]/\(SqL X.K H p ys\/SqT X.K H p ys)/\Q (.int ys.length) H)\/∃ z,xs=[.str z]/\z.length<=sizeLine/\Q (.int z.length) H):=by
 intro xs d hd J H G us Q hG ru k;unfold kLen at hd
 split at hd
 ·cases hd;obtain⟨v,rfl,q⟩:=jlr ru;obtain⟨a,ys,rfl,q1,q2⟩:=rep_lst.mp q;exact .inl ⟨a,ys,rfl,.inl (je5 jay q1),k _ H (Same.refl H) (rep_int.mpr (by rw[q2.length]))⟩
 ·cases hd;obtain⟨v,rfl,q⟩:=jlr ru;obtain⟨a,ys,rfl,q1,q2⟩:=rep_tup.mp q;exact .inl ⟨a,ys,rfl,.inr (jeb jay q1),k _ H (Same.refl H) (rep_int.mpr (by rw[q2.length]))⟩
 ·split at hd
  ·rename_i z hz;cases hd;obtain⟨v,rfl,q⟩:=jlr ru;cases rep_str.mp q;exact .inr ⟨z,rfl,hz,k _ H (Same.refl H) (rep_int.mpr rfl)⟩
  ·cases hd
 ·cases hd
def kTuple:List D->Option D
 | [.lst ds]=>some (.tup ds)
 | [.tup ds]=>some (.tup ds)
 | _=>none
def jd8:CaD X.K kTuple (fun xs H Q=>∃ p ys,xs=[.ref p]/\((SqL X.K H p ys/\∀ l,H l=none->Q (.ref l) (upd H l (.tup ys)))\/(SqT X.K H p ys/\Q (.ref p) H))):=by
 intro xs d hd J H G us Q hG ru k;unfold kTuple at hd
 split at hd
 ·cases hd;obtain⟨v,rfl,q⟩:=jlr ru;obtain⟨a,ys,rfl,q1,q2⟩:=rep_lst.mp q;exact⟨a,ys,rfl,.inl ⟨je5 jay q1,fun l hl=>k _ _ (jbs hl) (jdz hl (hG l hl) q2)⟩⟩
 ·cases hd;obtain⟨v,rfl,q⟩:=jlr ru;obtain⟨a,ys,rfl,q1,q2⟩:=rep_tup.mp q;exact⟨a,ys,rfl,.inr ⟨jeb jay q1,k _ H (Same.refl H) q⟩⟩
 ·cases hd
def kList:List D->Option D
 | [.lst ds]=>some (.lst ds)
 | [.tup ds]=>some (.lst ds)
 | _=>none
def kMin:List D->Option D
 | [.int i,.int j]=>some (.int (if j<i then j else i))
 | _=>none
def kInt:List D->Option D
 | [.int i]=>some (.int i)
 | [.bl k]=>some (.int (if k then 1 else 0))
 | _=>none
def isiD(T:String):D->Option Bool
 | .int _=>some (T == "int")
 | .tup _=>some (T == "tuple")
 | _=>none
def kIsi:List D->Option D
 | [d,.ty T]=>if T="int"\/T="bool"\/T="tuple" then (isiD T d).map .bl else none
 | _=>none
end
section
variable {X:Cx}
def rIsi(K:W.Frag):List V->Hp->VK->Prop:=fun xs H Q=>∃ J d v T b,xs=[v,.ty T]/\Rep J K H d v/\kIsi [d,.ty T]=some (.bl b)/\Q (.bl b) H
def joy:CallR X (.builtin "isinstance") (rIsi X.K):=by
 intro U s Z H xs us Q I r h;obtain⟨J,d,v,T,b,rfl,rd,hk,q⟩:=h;obtain⟨u,c,rfl,ru,rc⟩:=r.two;cases rc;have fin:∀ tk,EP X U Z Q (.bool b) { s with toks:=tk }:=fun tk=>⟨.bl b,H,I.tok _,rfl,q⟩
 have hk2:(if T="int"\/T="bool"\/T="tuple" then (isiD T d).map D.bl else none)=some (.bl b):=hk
 clear hk
 by_cases hT:T="int"\/T="bool"\/T="tuple"
 ·rw[if_pos hT] at hk2;have hk:=hk2
  clear hk2
  cases d with
  | ty _=>cases hk
  | obj _=>cases hk
  | non=>cases hk
  | bl x=>cases hk
  | int x =>
   cases rep_int.mp rd;obtain⟨t,rfl⟩:=ru
   rcases hT with rfl|rfl|rfl<;>(cases hk;exact W.kia_one W.kitx_int I.kIn True.intro rfl (fun z=>nomatch z) fin)
  | str x=>cases hk
  | tup x =>
   obtain⟨a,ys,rfl,q1,q2⟩:=rep_tup.mp rd;cases ru;obtain⟨its,_,⟨o,e,hc,_⟩,_⟩:=I.tuple q1;rcases hT with rfl|rfl|rfl<;>(cases hk;exact W.kia_one W.kitx_tuple I.kIn ⟨o,e,hc⟩ rfl (fun z=>nomatch z) fin)
  | lst x=>cases hk
 ·rw[if_neg hT] at hk2;cases hk2
def jub:CaD X.K kIsi (rIsi X.K):=by
 intro xs d hd J H G us Q hG ru k;have hd0:=hd;unfold kIsi at hd
 split at hd
 ·rename_i d0 T
  split at hd
  ·obtain⟨v,u,rfl,q1,q2⟩:=jIm ru;cases rep_ty.mp q2
   cases e:isiD T d0 with
   | none=>rw[e] at hd;cases hd
   | some b =>
    rw[e] at hd;cases hd;exact⟨J,d0,v,T,b,rfl,q1.mono jay,hd0,k _ H (Same.refl H) (rep_bl.mpr rfl)⟩
  ·cases hd
 ·cases hd
def juj{O:List Nat}{E:XK}{x:Str}{T:String}{pos:Pos}(hg:Gl X x)(hm:X.mg x=none)(hv:bootBuiltins x=some (.type T))(hn:x≠"__name__":=by decide)(hd:(x == ("__debug__":Str))=false:=by decide):DE X O E (.Name x pos) (fC (.ty T)) :=
 jky (t:=tC (.ty T)) (v:=.ty T) (jvy (v:=.ty T) hg hm hv rfl hn hd) fun _ _=>rep_ty.mpr rfl
def ji2{O:List Nat}{E:XK}{x:Str}{i:Int}{t:Tok}{pos:Pos}(hg:Gl X x)(hm:X.mg x=some (.int i t))(hd:(x == ("__debug__":Str))=false:=by decide):DE X O E (.Name x pos) (fC (.int i)) :=
 jky (t:=tC (.int i)) (v:=.int i) (joa (v:=.int i) hg hm ⟨t,rfl⟩ hd) fun _ _=>rep_int.mpr rfl
end
inductive spD(K:W.Frag)(n:Nat)(m:List D->M D)(vs:List V)(H:Hp)(Q:VK)(E:XK):Prop
 | mk (hn:vs.length=n) (J:Rho) (ds:List D) (r:Except XD D) (F:qd) (hF:∀ b,F b=true->H b≠none) (hr:Reps J K (hid H F) ds vs) (hf:m ds=some r) (k:match (generalizing:=false) r with
  | .ok d=>∀ v H',Same H H'->Rep J K (hid H' F) d v->Q v H'
  | .error x=>okX K H E x)
inductive CalX(P:Program)(w:World)(K:W.Frag)(mg:qa)(base:Heap)(k:Nat)(x:Str)(n:Nat)(sp:Sp):Prop
 | mk (f:Addr) (fd:FuncData) (ps:List Str) (h1:ps.length=n) (h2:mg x=some (.ref f)) (h3:W.keepIn K (.ref f)=true) (h4:Binds K fd ps []) (h5:FnOk P w K mg base CX0 k f fd ps sp)
structure Cal(P:Program)(w:World)(K:W.Frag)(mg:qa)(base:Heap)(k:Nat)(x:Str)(n:Nat)(m:List D->M D):Prop where
 ex:CalX P w K mg base k x n (spD K n m)
 ar:∀ ds r,m ds=some r->ds.length=n
def jb3(K:W.Frag)(mg:qa)(x:Str)(st:Stmt)(ps:List Str):Prop:=∃ f fd,mg x=some (.ref f)/\Fun K x x st f fd/\Binds K fd ps []
def startD(n:Nat)(ds:List D):DSt:=ds.map some++List.replicate (n-ds.length) none
def outD:Out->M D
 | .rt d=>M.p d
 | .nx _=>M.p .non
 | _=>none
def mir(n N:Nat)(g:DSt->M Out):List D->M D:=fun ds=>if ds.length=n then (g (startD N ds)).b outD else none
def jj3{N:Nat}{ds:List D}{i:Nat}{d:D}(h:(startD N ds)[i]? = some (some d)):ds[i]? = some d:=by
 unfold startD at h
 by_cases hi:i<ds.length
 ·rw[List.getElem?_append_left (by simpa using hi),zba] at h
  cases e:ds[i]? with
  | none=>rw[e] at h;cases h
  | some a=>rw[e] at h;cases h;rfl
 ·rw[List.getElem?_append_right (by simpa using hi),List.getElem?_replicate] at h
  split at h<;>cases h
def jlz{N:List Str}{vs:List V}{i:Nat}{v:V}(h:vs[i]? = some v):(L2.start N vs)[i]? = some (some v):=by
 unfold L2.start;have hi:i<vs.length:=(zbb.mp h).1;rw[List.getElem?_append_left (by simpa using hi),zba,h];rfl
section
variable {P:Program}{w:World}{K:W.Frag}{mg:qa}{base:Heap}
def fn_D{x:Str}{st:Stmt}{N ps:List Str}{k:Nat}{O':List Nat}{g:DSt->M Out}{f:Addr}{fd:FuncData}(F:Fun K x x st f fd)(S:FnScope N ps (jad st))
  (hbody:∀ (f:Addr) (cdv:Value) (A:Around) (outer:List Env) (s:Shared) (H:Hp) (E:XK),Room k (A.deeper (PyProof.Rows.envOfC x (jad st) s.heap.objs.size f cdv)) ->
   DSs (cxOf CX0 P w K mg base N x (jad st) f cdv A outer s H E).nox [] O' [] E (jaw st) g):FnOk P w K mg base CX0 (k+1) f fd ps (spD K ps.length (mir ps.length N.length g)):=by
 refine F.ok S (fun vs H Q E h=>h.1) fun cdv A outer s H vs Q E hr h=>?_
 obtain⟨hl,J,ds,r,F',fin,rp,hmr,k0⟩:=h;refine⟨_,hbody f cdv A outer s H E hr,?_⟩;have hpl:ps.length<=N.length:=by have:=congrArg List.length S.pre;rw[List.length_take] at this;omega
 have hdl:ds.length=ps.length:=by rw[<- rp.length];exact hl
 unfold mir at hmr;rw[if_pos hdl] at hmr;have R:RS J K H H F' [] (L2.start N vs) (startD N.length ds):=by
  refine⟨?_,Same.refl H,fin,fun i d hd _=>?_,fun i hi=>absurd hi (by simp),fun i hi=>absurd hi (by simp)⟩
  ·simp[L2.start,startD,rp.length]
  ·obtain⟨v,e,rv⟩:=rp.get (jj3 hd);exact⟨v,jlz e,by rw[jf5];exact rv⟩
 rcases M.b_inv hmr with ⟨o,e1,hmr⟩|⟨y,e1,rfl⟩
 ·refine⟨J,H,F',_,.ok o,R,e1,?_⟩
  cases o with
  | rt d=>cases hmr;exact fun v H' s' rv=>k0 v H' s' rv
  | nx Y=>cases hmr;exact fun Z' H' f' R'=>k0 .non H' R'.same (rep_non.mpr rfl)
  | bk Y=>cases hmr
  | ct Y=>cases hmr
 ·exact⟨J,H,F',_,.error y,R,e1,k0⟩
def jca{x:Str}{st:Stmt}{N ps:List Str}{k:Nat}{O':List Nat}{g:DSt->M Out}(hf:jb3 K mg x st ps)(S:FnScope N ps (jad st))
  (hbody:∀ (f:Addr) (cdv:Value) (A:Around) (outer:List Env) (s:Shared) (H:Hp) (E:XK),Room k (A.deeper (PyProof.Rows.envOfC x (jad st) s.heap.objs.size f cdv)) ->
   DSs (cxOf CX0 P w K mg base N x (jad st) f cdv A outer s H E).nox [] O' [] E (jaw st) g):Cal P w K mg base (k+1) x ps.length (mir ps.length N.length g):=by
 obtain⟨f,fd,hm,F,hb⟩:=hf;refine⟨⟨f,fd,ps,rfl,hm,F.kp,hb,fn_D F S hbody⟩,fun ds r h=>?_⟩;unfold mir at h
 split at h
 ·assumption
 ·cases h
def jkn{h:Heap}{x:Str}{st:Stmt}{ps:List Str}{f:Addr}{oc:Value}{od an:Option Addr}{osl:qe}{kV doc pm cdv ct:Value}(X:K.In h)(G:h.Ns mainGlobals mg)
  (hb:∀ (kV doc pm:Value) (an:Option Addr) (cdv ct:Value) (us:List Value),us.length=ps.length->bindArgs (W.fnOf x x (jbp st) (jaw st) (jad st) .none kV doc pm an cdv ct) ⟨us,[]⟩=pure (ps.zip us))
  (a:W.nsIn K mainGlobals x=some (some (.ref f))) (l:K.lookup f=some ⟨oc,od,.func (W.fnOf x x (jbp st) (jaw st) (jad st) .none kV doc pm an cdv ct),osl⟩)
  (c:W.codeIn K cdv x=true) (k:W.keepIn K (.ref f)=true):jb3 K mg x st ps:=by
 have F:=jr1 (st:=st) l c k;exact⟨f,_,W.mg_of X G a,F,F.binds hb⟩
def juu{st:Stmt}{x:Str}{f:Addr}(hf:jb3 K mg "law" st [x])(hm:mg "law"=some (.ref f))
  (hb:∀ (kV doc pm:Value) (an:Option Addr) (cdv ct:Value) (s:Shared) (u:Value),BindsTo s (W.fnOf "law" "law" (jbp st) (jaw st) (jad st) .none kV doc pm an cdv ct) ⟨[u],[]⟩ [(x,u)]) :
  ∃ fd,Fun K "law" "law" st f fd/\∀ (s:Shared) (u:Value),BindsTo s fd ⟨[u],[]⟩ [(x,u)]:=by
 obtain⟨f',fd,hm',F,_⟩:=hf;rw[hm] at hm';cases hm';refine⟨fd,F,fun s u=>?_⟩;obtain⟨oc,od,kV,doc,pm,an,cdv,ct,osl,rfl,lk,hcd⟩:=F.ex;exact hb kV doc pm an cdv ct s u
end
def jau(m:List D->M D)(fl:DSt->M (List D)):DSt->M D:=fun Y=>(fl Y).b m
section
variable {X:Cx}{O:List Nat}{E:XK}{e:Expr}{es:List Expr}{fl:DSt->M (List D)}{pos p:Pos}{x:Str}{k n:Nat}{m:List D->M D}
def jan(C:Cal X.prog X.w X.K X.mg X.base k x n m)(hr:Room k X.A)(ha:DA X O E (e::es) fl)(hg:Gl X x:=by rfl)(hdb:(x == ("__debug__":Str))=false:=by decide)(he:zsE e es X.env:=by rfl)
  (hpl:zbT pos es X.env:=by rfl):DE X O E (.Call (.Name x p) (e::es) [] pos) (jau m fl):=by
 obtain⟨f,fd,ps,hl,hm,hk,hb,F⟩:=C.ex;rintro U s Z H Q I ⟨J,Hz,G,Y,r,R,hf,h⟩;refine jn9 F hr hg hm hk hb .nil (fun _ _ _ _ _ _ _ z=>z.elim) ha hdb he hpl U s Z H Q I (E:=E) ?_;rcases M.b_inv hf with ⟨ds,e1,hf⟩|⟨y,e1,rfl⟩
 ·refine⟨J,Hz,G,Y,.ok ds,R,e1,fun vs H1 s1 r1=>?_⟩;show spD X.K n m (vs++[]) H1 Q E;rw[List.append_nil];refine⟨by rw[r1.length];exact C.ar ds r hf,J,ds,r,fob G Z O,fun b hb z=>?_,r1,hf,?_⟩
  ·rw[(R.mono s1).fresh z] at hb;cases hb
  ·cases r with
   | ok d=>exact fun v H' s' rv=>h v H' (s1.trans s') rv
   | error y=>exact fun c dx H' s' xr=>h c dx H' (R.same.trans (s1.trans s')) xr
 ·exact⟨J,Hz,G,Y,.error y,R,e1,h⟩
end
def hu30{A:Around}{k:Nat}(hr:Room k A):A.units+30<cLine:=Nat.lt_of_le_of_lt (Nat.add_le_add_left (by decide:30<=64) _) hr.units
def jd7:bootBuiltins "len"=some (.builtin "len"):=by decide +kernel
def jdh:bootBuiltins "isinstance"=some (.builtin "isinstance"):=by decide +kernel
def je8:bootBuiltins "tuple"=some (.type "tuple"):=by decide +kernel
def jfg:bootBuiltins "int"=some (.type "int"):=by decide +kernel
def jua:bootBuiltins "str"=some (.type "str"):=by decide +kernel
def jA8:bootBuiltins "bool"=some (.type "bool"):=by decide +kernel
def jD6:bootBuiltins "all"=some (.builtin "all"):=by decide +kernel
def gCat:D->D->Option D
 | .int i,.int j=>some (.int (i+j))
 | .str x,.str y=>if x.length+y.length<=sizeLine then some (.str (x++y)) else none
 | .lst xs,.lst ys=>if xs.length+ys.length<=sizeLine then some (.lst (xs++ys)) else none
 | .tup xs,.tup ys=>if xs.length+ys.length<=sizeLine/\xs≠[]/\ys≠[] then some (.tup (xs++ys)) else none
 | _,_=>none
def jC6(K:W.Frag):R2:=fun x y H Q=>∃ l b xs zs,x=.ref l/\y=.ref b/\SqL K H l xs/\SqL K H b zs/\xs.length+zs.length<=sizeLine/\∀ p,H p=none->Q (.ref p) (upd H p (.lst (xs++zs)))
section
variable {X:Cx}{O O':List Nat}{E:XK}{b e:Expr}{es:List Expr}{fa fb:DSt->M D}{fl:DSt->M (List D)}{pos:Pos}
def op_catQ:OpR X (binaryOp .Add) (jC6 X.K):=by
 intro U s Z H x y v u Q I rx ry h;obtain⟨l,b,xs,zs,rfl,rfl,hH,hB,hz,q⟩:=h;cases rx;cases ry;obtain⟨its,r,⟨⟨cls,dd,data,sl⟩,n,ho,hc,_,hd⟩,_⟩:=I.list hH;obtain⟨its2,r2,⟨⟨cls2,dd2,data2,sl2⟩,n2,ho2,hc2,_,hd2⟩,_⟩:=I.list hB;simp only at hc hd hc2 hd2;subst hc hd hc2 hd2;have l1:=r.length;have l2:=r2.length;have ea:its.toArray++its2.toArray=(its++its2).toArray:=by simp
 refine concat_meets ⟨_,ho,rfl⟩ ⟨_,ho2,rfl⟩ noFill_list_add seq_list_add PySem.F.slot_list_add PySem.F.entry_list_add (PySem.F.args_list_add_2 _ _) (PyProof.Rows.list_addW l b its.toArray its2.toArray n n2 dd dd2 sl sl2 (by simp only[zbx];omega)) ⟨ho,ho2,?_⟩;rw[ea];exact⟨.ref _,_,I.lnew (t':=s.toks) (r.append r2) (by rw[zcb];omega),rfl,q _ I.fresh⟩
def jaj:OpR X (binaryOp .Add) (fun x y H Q=>(rI0 (fun i j=>.int (i+j)) x y H Q\/∃ i j,x=.str i/\y=.str j/\i.length+j.length<=sizeLine/\Q (.str (i++j)) H)\/jC6 X.K x y H Q\/jC7 X.K x y H Q):=op_addD.or (op_catQ.or jCm)
def jak:OpD X.K gCat (fun x y H Q=>(rI0 (fun i j=>.int (i+j)) x y H Q\/∃ i j,x=.str i/\y=.str j/\i.length+j.length<=sizeLine/\Q (.str (i++j)) H)\/jC6 X.K x y H Q\/jC7 X.K x y H Q):=by
 intro x y d hd J H G u v Q hG ru rv k;unfold gCat at hd
 split at hd
 ·cases hd;exact .inl (.inl ⟨_,_,rep_int.mp ru,rep_int.mp rv,k _ H (Same.refl H) (rep_int.mpr rfl)⟩)
 ·split at hd
  ·rename_i hz;cases hd;exact .inl (.inr ⟨_,_,rep_str.mp ru,rep_str.mp rv,hz,k _ H (Same.refl H) (rep_str.mpr rfl)⟩)
  ·cases hd
 ·split at hd
  ·rename_i hz;cases hd;obtain⟨l,xs,rfl,q1,q2⟩:=rep_lst.mp ru;obtain⟨m,ys,rfl,p1,p2⟩:=rep_lst.mp rv;exact .inr (.inl ⟨l,m,xs,ys,rfl,rfl,je5 jay q1,je5 jay p1,by rw[q2.length,p2.length];exact hz,fun p hp=>k _ _ (jbs hp) (jgj hp (hG p hp) (q2.append p2))⟩)
  ·cases hd
 ·split at hd
  ·rename_i hz;cases hd;obtain⟨l,xs,rfl,q1,q2⟩:=rep_tup.mp ru;obtain⟨m,ys,rfl,p1,p2⟩:=rep_tup.mp rv;have n1:xs≠[]:=fun z=>by have:=q2.length;rw[z] at this;exact hz.2.1 (List.length_eq_zero_iff.mp this.symm)
   have n2:ys≠[]:=fun z=>by have:=p2.length;rw[z] at this;exact hz.2.2 (List.length_eq_zero_iff.mp this.symm)
   exact .inr (.inr ⟨l,m,xs,ys,rfl,rfl,jeb jay q1,jeb jay p1,n1,by rw[q2.length,p2.length];exact hz.1,fun z=>absurd z n2,fun _ p hp=>k _ _ (jbs hp) (jdz hp (hG p hp) (q2.append p2))⟩)
  ·cases hd
 ·cases hd
def fRep(fl:DSt->M (List D))(fb:DSt->M D):DSt->M D:=fun Y=>(fl Y).b fun xs=>if xs.length<=sizeLine then (fb Y).b fun y=>match y with
  | .int k=>if -(2 ^ 63)<=k/\k<2 ^ 63/\xs.length*k.toNat<=sizeLine then M.p (.lst (List.replicate k.toNat xs).flatten) else none
  | _=>none
 else none
theorem Reps.rep{J:Rho}{K:W.Frag}{H:Hp}{ds:List D}{vs:List V}(h:Reps J K H ds vs):∀ k:Nat,Reps J K H (List.replicate k ds).flatten (List.replicate k vs).flatten
 | 0=>Reps.nil
 | k+1=>by rw[List.replicate_succ,List.flatten_cons,List.replicate_succ,List.flatten_cons];exact h.append (Reps.rep h k)
def jul{p2:Pos}(hl:DA X O E es fl)(hb:DE X O E b fb):DE X O E (.BinOp (.List es p2) .Mult b pos) (fRep fl fb):=by
 rintro U s Z H Q I ⟨J,Hz,F,Y,rr,R,hf,k⟩;refine jF3 jFw (jsc hl) hb U s Z H Q I ?_;rcases M.b_inv hf with ⟨xs,e1,hf⟩|⟨x,e1,rfl⟩
 ·refine⟨J,Hz,F,Y,.ok xs,R,e1,fun us H1 s1 r1=>?_⟩
  split at hf
  ·rename_i hz0;refine⟨by rw[r1.length];exact hz0,fun p hp=>?_⟩;have s2:Same H1 (upd H1 p (.lst us)):=jbs hp;rcases M.b_inv hf with ⟨y,e2,hf⟩|⟨y,e2,rfl⟩
   ·cases y with
    | int n =>
     dsimp only at hf
     split at hf
     ·rename_i hz;cases hf;refine⟨J,Hz,F,Y,.ok (.int n),R.mono (s1.trans s2),e2,fun w H2 s3 r2=>?_⟩;cases rep_int.mp r2;refine⟨p,n,us,rfl,rfl,s3 _ _ jaq,hz.1,hz.2.1,by rw[r1.length];exact hz.2.2,fun q hq=>?_⟩;have R2:=R.mono (s1.trans (s2.trans s3));exact k _ _ (s1.trans (s2.trans (s3.trans (jbs hq)))) (jgj hq (R2.fresh hq) ((r1.mono (jax (s2.trans s3))).rep n.toNat))
     ·cases hf
    | _=>cases hf
   ·exact⟨J,Hz,F,Y,.error y,R.mono (s1.trans s2),e2,k⟩
  ·cases hf
 ·exact⟨J,Hz,F,Y,.error x,R,e1,k⟩
inductive tOD(K:W.Frag)(O:List Nat)(E:XK)(f:DSt->M (Option Int))(Z:St)(H:Hp)(Q:Option Int->Hp->Prop):Prop
 | mk (J:Rho) (Hz:Hp) (F:qd) (Y:DSt) (r:Except XD (Option Int)) (R:RS J K Hz H F O Z Y) (hf:f Y=some r) (k:match (generalizing:=false) r with
  | .ok o=>∀ H',Same H H'->Q o H'
  | .error x=>okX K Hz E x)
def DO(X:Cx)(O:List Nat)(E:XK)(e:Option Expr)(f:DSt->M (Option Int)):Prop:=PO X e (tOD X.K O E f)
def jir:DSt->M (Option Int):=fun _=>M.p none
def intD:D->Option (Option Int)
 | .int i=>some (some i)
 | _=>none
def jcj(f:DSt->M D):DSt->M (Option Int):=fun Y=>(f Y).b fun d=>M.o (intD d)
def jf3:DO X O E none jir:=by
 rintro U s Z H Q I ⟨J,Hz,F,Y,r,R,hf,k⟩;cases hf;exact jCv U s Z H Q I (k H (Same.refl H))
def jdd(h:DE X O E e fa):DO X O E (some e) (jcj fa):=by
 rintro U s Z H Q I ⟨J,Hz,F,Y,r,R,hf,k⟩;refine jCw h U s Z H Q I ?_;rcases M.b_inv hf with ⟨x,e1,hf⟩|⟨x,e1,rfl⟩
 ·refine⟨J,Hz,F,Y,.ok x,R,e1,fun v H1 s1 r1=>?_⟩;obtain⟨o,ho,rfl⟩:=M.o_inv hf
  cases x with
  | int i=>cases ho;exact⟨i,rep_int.mp r1,k H1 s1⟩
  | _=>cases ho
 ·exact⟨J,Hz,F,Y,.error x,R,e1,k⟩
def cutL{α:Type}(xs:List α)(lo hi:Option Int):List α:=(xs.drop (HT.sIx xs.length 0 lo)).take (HT.sIx xs.length xs.length hi-HT.sIx xs.length 0 lo)
def cutD:D->Option Int->Option Int->Option D
 | .lst ds,lo,hi=>some (.lst (cutL ds lo hi))
 | .tup ds,lo,hi=>if HT.sIx ds.length 0 lo=0/\HT.sIx ds.length ds.length hi=ds.length then none else some (.tup (cutL ds lo hi))
 | .str x,lo,hi=>if x.length<=sizeLine then some (.str (Txt.slice x lo hi)) else none
 | _,_,_=>none
def rSlS:V->Option Int->Option Int->Hp->VK->Prop:=fun x lo hi H Q=>∃ z,x=.str z/\z.length<=sizeLine/\Q (.str (Txt.slice z lo hi)) H
def jGs:SlR X rSlS:=by
 intro U s Z H x v vl vu lo hi sl Q I rx hs pl pu h;obtain⟨z,rfl,hz,q⟩:=h;obtain⟨t,rfl⟩:=rx;have fin:∀ {l u:Option (Int×Tok)},l.map (·.1)=lo->u.map (·.1)=hi->s.heap.IsSlice sl l u none->wpAny (model X.prog X.w) X.A (getItem (.str z t) (.ref sl)) (EP X U Z Q) X.xe s:=fun {l u} e1 e2 h=>by
  refine wpAny_getItem_str_slice (l:=l) (u:=u) (st:=none) h rfl ?_;have hw:∀ t' k,EP X U Z Q (.str (Txt.slice z lo hi) t') { s with toks:=k }:=fun t' k=>⟨.str (Txt.slice z lo hi),H,I.tok _,⟨_,rfl⟩,q⟩
  rw[<- e1,<- e2] at hw;exact post_val_or_str ⟨zdx (Txt.slice_le z _ _) hz,hw⟩
 obtain⟨os,ho,hc,hd⟩:=hs;refine⟨"str",_,PySem.F.slot_str_getitem.lookup,typeIs_str _ _ _,?_⟩
 cases pl with
 | none=>cases pu with
  | none=>exact fin (l:=none) (u:=none) rfl rfl ⟨os,ho,hc,hd⟩
  | int j tj=>exact fin (l:=none) (u:=some (j,tj)) rfl rfl ⟨os,ho,hc,hd⟩
 | int i ti=>cases pu with
  | none=>exact fin (l:=some (i,ti)) (u:=none) rfl rfl ⟨os,ho,hc,hd⟩
  | int j tj=>exact fin (l:=some (i,ti)) (u:=some (j,tj)) rfl rfl ⟨os,ho,hc,hd⟩
theorem Reps.take{J:Rho}{K:W.Frag}{H:Hp}:∀ {ds:List D} {vs:List V} (n:Nat),Reps J K H ds vs->Reps J K H (ds.take n) (vs.take n)
 | _,_,0,_=>by simp;exact Reps.nil
 | [],_,n+1,h=>by rw[reps_nil.mp h];exact Reps.nil
 | d::ds,_,n+1,h=>by
  obtain⟨v,r,rfl,q,t⟩:=reps_cons.mp h;exact Reps.cons q (Reps.take n t)
theorem Reps.drop{J:Rho}{K:W.Frag}{H:Hp}:∀ {ds:List D} {vs:List V} (n:Nat),Reps J K H ds vs->Reps J K H (ds.drop n) (vs.drop n)
 | _,_,0,h=>h
 | [],_,n+1,h=>by rw[reps_nil.mp h];exact Reps.nil
 | d::ds,_,n+1,h=>by
  obtain⟨v,r,rfl,q,t⟩:=reps_cons.mp h;exact Reps.drop n t
def Reps.cut{J:Rho}{K:W.Frag}{H:Hp}{ds:List D}{vs:List V}(h:Reps J K H ds vs)(lo hi:Option Int):Reps J K H (cutL ds lo hi) (cutV vs lo hi):=by
 unfold cutL cutV;rw[h.length];exact (h.drop _).take _
def fSl(fa:DSt->M D)(fl fh:DSt->M (Option Int)):DSt->M D:=fun Y=>(fa Y).b fun x=>(fl Y).b fun lo=>(fh Y).b fun hi=>M.o (cutD x lo hi)
def jc9{lo hi:Option Expr}{fl fh:DSt->M (Option Int)}{p2:Pos}(ha:DE X O E e fa)(hl:DO X O E lo fl)(hh:DO X O E hi fh):DE X O E (.Subscript e (.Slice lo hi none p2) pos) (fSl fa fl fh):=by
 rintro U s Z H Q I ⟨J,Hz,F,Y,r,R,hf,k⟩;refine jyk (sl_list.or (sl_tup.or jGs)) ha hl hh U s Z H Q I ?_;rcases M.b_inv hf with ⟨x,e1,hf⟩|⟨x,e1,rfl⟩
 ·refine⟨J,Hz,F,Y,.ok x,R,e1,fun v H1 s1 r1=>?_⟩;rcases M.b_inv hf with ⟨l,e2,hf⟩|⟨y,e2,rfl⟩
  ·refine⟨J,Hz,F,Y,.ok l,R.mono s1,e2,fun H2 s2=>?_⟩;rcases M.b_inv hf with ⟨h,e3,hf⟩|⟨y,e3,rfl⟩
   ·refine⟨J,Hz,F,Y,.ok h,R.mono (s1.trans s2),e3,fun H3 s3=>?_⟩;obtain⟨d,hd,rfl⟩:=M.o_inv hf;have r3:=r1.mono (jax (s2.trans s3));have R3:=R.mono (s1.trans (s2.trans s3));have sm:=s1.trans (s2.trans s3)
    cases x with
    | lst ds =>
     cases hd;obtain⟨q,xs,rfl,q2,q3⟩:=rep_lst.mp r3;exact .inl ⟨q,xs,rfl,je5 jay q2,fun p hp=>k _ _ (sm.trans (jbs hp)) (jgj hp (R3.fresh hp) (q3.cut l h))⟩
    | tup ds =>
     have hd':(if HT.sIx ds.length 0 l=0/\HT.sIx ds.length ds.length h=ds.length then none else some (D.tup (cutL ds l h)))=some d:=hd
     split at hd'
     ·cases hd'
     ·rename_i hn;cases hd';obtain⟨q,xs,rfl,q2,q3⟩:=rep_tup.mp r3;exact .inr (.inl ⟨q,xs,rfl,jeb jay q2,by rw[q3.length];exact hn,fun p hp=>k _ _ (sm.trans (jbs hp)) (jdz hp (R3.fresh hp) (q3.cut l h))⟩)
    | str z =>
     have hd':(if z.length<=sizeLine then some (D.str (Txt.slice z l h)) else none)=some d:=hd
     split at hd'
     ·rename_i hz;cases hd';exact .inr (.inr ⟨z,rep_str.mp r3,hz,k _ _ sm (rep_str.mpr rfl)⟩)
     ·cases hd'
    | _=>cases hd
   ·exact⟨J,Hz,F,Y,.error y,R.mono (s1.trans s2),e3,k⟩
  ·exact⟨J,Hz,F,Y,.error y,R.mono s1,e2,k⟩
 ·exact⟨J,Hz,F,Y,.error x,R,e1,k⟩
def jkc:D->Bool
 | .non=>true
 | .bl _=>true
 | .int _=>true
 | .str _=>true
 | _=>false
def inD(x:D)(ds:List D):Bool:=ds.any fun y=>eqB y x
def gIn:D->D->Option D:=fun x y=>match seqD y with
 | some ds=>if (jkc x&&ds.all jkc)=true then some (.bl (inD x ds)) else none
 | none=>none
def ji6:D->D->Option D:=fun x y=>match seqD y with
 | some ds=>if (jkc x&&ds.all jkc)=true then some (.bl !(inD x ds)) else none
 | none=>none
def jnm{J:Rho}{K:W.Frag}{H:Hp}{d:D}{v:V}(h:jkc d=true)(r:Rep J K H d v):jmf v=true:=by
 cases d with
 | non=>cases rep_non.mp r;rfl
 | bl _=>cases rep_bl.mp r;rfl
 | int _=>cases rep_int.mp r;rfl
 | str _=>cases rep_str.mp r;rfl
 | _=>cases h
def jBq{J:Rho}{K:W.Frag}{H:Hp}{d e:D}{v u:V}(h:jkc d=true)(h2:jkc e=true)(r:Rep J K H d v)(r2:Rep J K H e u):eqV v u=eqB d e:=by
 cases d with
 | non=>cases rep_non.mp r;(cases e with
  | non=>cases rep_non.mp r2;unfold eqB;rfl
  | bl _=>cases rep_bl.mp r2;unfold eqB;rfl
  | int _=>cases rep_int.mp r2;unfold eqB;rfl
  | str _=>cases rep_str.mp r2;unfold eqB;rfl
  | _=>cases h2)
 | bl _=>cases rep_bl.mp r;(cases e with
  | non=>cases rep_non.mp r2;unfold eqB;rfl
  | bl _=>cases rep_bl.mp r2;unfold eqB;rfl
  | int _=>cases rep_int.mp r2;unfold eqB;rfl
  | str _=>cases rep_str.mp r2;unfold eqB;rfl
  | _=>cases h2)
 | int _=>cases rep_int.mp r;(cases e with
  | non=>cases rep_non.mp r2;unfold eqB;rfl
  | bl _=>cases rep_bl.mp r2;unfold eqB;rfl
  | int _=>cases rep_int.mp r2;unfold eqB;rfl
  | str _=>cases rep_str.mp r2;unfold eqB;rfl
  | _=>cases h2)
 | str _=>cases rep_str.mp r;(cases e with
  | non=>cases rep_non.mp r2;unfold eqB;rfl
  | bl _=>cases rep_bl.mp r2;unfold eqB;rfl
  | int _=>cases rep_int.mp r2;unfold eqB;rfl
  | str _=>cases rep_str.mp r2;unfold eqB;rfl
  | _=>cases h2)
 | _=>cases h
theorem juz{J:Rho}{K:W.Frag}{H:Hp}{x:D}{v:V}(hx:jkc x=true)(rx:Rep J K H x v):∀ {ds:List D} {vs:List V},ds.all jkc=true->Reps J K H ds vs->vs.all jmf=true/\inV v vs=inD x ds
 | [],_,_,h=>by rw[reps_nil.mp h];exact⟨rfl,rfl⟩
 | d::ds,_,ha,h=>by
  obtain⟨u,r,rfl,q,t⟩:=reps_cons.mp h;rw[List.all_cons,Bool.and_eq_true] at ha;obtain⟨i1,i2⟩:=juz hx rx ha.2 t;refine⟨by rw[List.all_cons,jnm ha.1 q,i1];rfl,?_⟩;unfold inV inD at i2 |-
  rw[List.any_cons,List.any_cons,jBq ha.1 hx q rx,i2]
def jmt:OpD X.K gIn (rIn X.K false):=by
 intro x y d hd J H G u v Q hG ru rv k;unfold gIn at hd
 split at hd
 ·rename_i ds hs
  split at hd
  ·rename_i hz;cases hd;rw[Bool.and_eq_true] at hz;obtain⟨kk,l,xs,rfl,q1,q2⟩:=jsq hs rv;obtain⟨i1,i2⟩:=juz hz.1 ru hz.2 q2;refine⟨l,xs,rfl,?_,jnm hz.1 ru,i1,k _ H (Same.refl H) (rep_bl.mpr (by rw[i2];rfl))⟩
   cases kk with
   | true=>exact .inr (jeb jay (sqv_t.mp q1))
   | false=>exact .inl (je5 jay (sqv_l.mp q1))
  ·cases hd
 ·cases hd
def jpr:OpD X.K ji6 (rIn X.K true):=by
 intro x y d hd J H G u v Q hG ru rv k;unfold ji6 at hd
 split at hd
 ·rename_i ds hs
  split at hd
  ·rename_i hz;cases hd;rw[Bool.and_eq_true] at hz;obtain⟨kk,l,xs,rfl,q1,q2⟩:=jsq hs rv;obtain⟨i1,i2⟩:=juz hz.1 ru hz.2 q2;refine⟨l,xs,rfl,?_,jnm hz.1 ru,i1,k _ H (Same.refl H) (rep_bl.mpr (by rw[i2];rfl))⟩
   cases kk with
   | true=>exact .inr (jeb jay (sqv_t.mp q1))
   | false=>exact .inl (je5 jay (sqv_l.mp q1))
  ·cases hd
 ·cases hd
def jBi{t:DSt->M Bool}(hO:∀ i∈O',i∈O)(h:DT X O' E e t):DT X O E e t:=by
 rintro U s Z H Q I ⟨J,Hz,F,Y,r,R,hf,k⟩;refine h U s Z H Q I ⟨J,Hz,F,Y,r,R.thaw hO,hf,?_⟩
 cases r with
 | ok d=>exact k
 | error x=>exact k
def gAug(i:Nat)(g:D->D->Option D)(f:DSt->M D):DSt->M Out:=fun Y=>(M.o (Y[i]?).join).b fun x=>(f Y).b fun y=>(M.o (g x y)).b fun d=>M.p (.nx (Y.set i (some d)))
end
section
variable {X:Cx}{O B:List Nat}{E:XK}{a b e o:Expr}{fa fo fe:DSt->M D}{pos:Pos}
def jun{i:Nat}{x:Str}{pos':Pos}{op:Operator}{g:D->D->Option D}{r:R2}(hN:X.N.Nodup)(hop:OpR X (inplaceOp op) r)(hg:OpD X.K g r)(he:DE X O E e fa)(ho:O.contains i=false:=by rfl)(hi:X.N[i]? = some x:=by rfl)(hx:Loc X.env.scope x:=by first|exact Or.inl rfl|exact Or.inr rfl)
  (hf:X.fn x=true\/X.env.scope.names.lookup x=some .local:=by first|exact .inl rfl|exact .inr rfl|assumption):DS X O O B E (.AugAssign (.Name x pos') op e pos) (gAug i g fa):=by
 rintro U s Z H Dn I ⟨J,Hz,F,Y,rr,R,hgg,k⟩;have ho':i∉O:=fun z=>by rw[zbc.mpr z] at ho;cases ho
 refine jGa (ti:=r) hN hi hx he (fun U s Z H x y v u Q I rx ry q=>hop U s Z H x y v u Q I rx ry q) hf U s Z H Dn I ?_;rcases M.b_inv hgg with ⟨x0,e0,hgg⟩|⟨y,e0,rfl⟩
 ·obtain⟨x1,hx1,ee⟩:=M.o_inv e0;cases ee;obtain⟨v,q1,q2⟩:=R.val i x0 (join_some hx1) ho';refine⟨v,q1,?_⟩;rcases M.b_inv hgg with ⟨y,e1,hgg⟩|⟨y,e1,rfl⟩
  ·refine⟨J,Hz,F,Y,.ok y,R,e1,fun u H1 s1 r1=>?_⟩;rcases M.b_inv hgg with ⟨d,e2,hgg⟩|⟨z,e2,rfl⟩
   ·cases hgg;obtain⟨d1,hd1,ee⟩:=M.o_inv e2;cases ee;have R1:=R.mono s1;exact hg x0 y d hd1 J H1 _ v u _ (fun p hp=>R1.fresh hp) (q2.mono (jax s1)) r1 fun w H2 s2 r2=>k _ H2 (jsn ho' (s1.trans s2)) ((R.mono (s1.trans s2)).set ho' r2)
   ·obtain⟨_,_,ee⟩:=M.o_inv e2;cases ee
  ·exact⟨J,Hz,F,Y,.error y,R,e1,k⟩
 ·obtain⟨_,_,ee⟩:=M.o_inv e0;cases ee
def gAsg(h:D->DSt->Option DSt)(f:DSt->M D):DSt->M Out:=fun Y=>(f Y).b fun d=>match h d Y with
 | some Y'=>M.p (.nx Y')
 | none=>none
def jru{tg:Expr}{h:D->DSt->Option DSt}(he:DE X O E e fa)(hg:DG X O tg h)(hs:swapsWithSole [tg] e pos.line X.env=pure false:=by rfl)(hw:swappedStores [tg] e X.env=pure none:=by rfl)
  (h1:(assignEach [tg] X.env).map (·.2)=[assign tg X.env]:=by rfl):DS X O O B E (.Assign [tg] e pos) (gAsg h fa):=by
 rintro U s Z H Dn I ⟨J,Hz,F,Y,r,R,hgg,k⟩;refine jF9 he hg hs hw h1 U s Z H Dn I ?_;rcases M.b_inv hgg with ⟨d,e1,hgg⟩|⟨y,e1,rfl⟩
 ·refine⟨J,Hz,F,Y,.ok d,R,e1,fun v H1 s1 r1=>?_⟩
  cases e2:h d Y with
  | none=>rw[e2] at hgg;cases hgg
  | some Y' =>
   rw[e2] at hgg;cases hgg;exact⟨J,Hz,F,Y,d,Y',R.mono s1,r1,e2,fun Z' ef R'=>k Z' H1 (by rw[ef];exact jax s1) R'⟩
 ·exact⟨J,Hz,F,Y,.error y,R,e1,k⟩
def juv(i j l:Nat):D->DSt->Option DSt:=fun d Y=>match d with
 | .tup [x,y,z]=>some (((Y.set i (some x)).set j (some y)).set l (some z))
 | _=>none
def jBf{i j l:Nat}{x y z:Str}{px py pz:Pos}{kk:Nat}(hc:X.calm=true)(hN:X.N.Nodup)(ho:O.contains i=false:=by rfl)(ho2:O.contains j=false:=by rfl)(ho3:O.contains l=false:=by rfl)(hi:X.N[i]? = some x:=by rfl)(hj:X.N[j]? = some y:=by rfl)(hl:X.N[l]? = some z:=by rfl)
  (hx:Loc X.env.scope x:=by first|exact Or.inl rfl|exact Or.inr rfl) (hy:Loc X.env.scope y:=by first|exact Or.inl rfl|exact Or.inr rfl) (hz:Loc X.env.scope z:=by first|exact Or.inl rfl|exact Or.inr rfl)
  (hf:X.fn x=true\/X.env.scope.names.lookup x=some .local:=by first|exact .inl rfl|exact .inr rfl|assumption) (hf2:X.fn y=true\/X.env.scope.names.lookup y=some .local:=by first|exact .inl rfl|exact .inr rfl|assumption) (hf3:X.fn z=true\/X.env.scope.names.lookup z=some .local:=by first|exact .inl rfl|exact .inr rfl|assumption) :
  DG X O (.Tuple [.Name x px,.Name y py,.Name z pz] kk pos) (juv i j l):=by
 rintro U s Z H v u Q I r ⟨J,Hz,F,Y,d,Y',R,rd,e,k⟩;have ho':i∉O:=fun z=>by rw[zbc.mpr z] at ho;cases ho
 have ho2':j∉O:=fun z=>by rw[zbc.mpr z] at ho2;cases ho2
 have ho3':l∉O:=fun z=>by rw[zbc.mpr z] at ho3;cases ho3
 unfold juv at e
 split at e
 ·rename_i d1 d2 d3;cases e;obtain⟨p,xs,rfl,q2,q3⟩:=rep_tup.mp rd;obtain⟨v1,xs1,rfl,r1,q3⟩:=reps_cons.mp q3;obtain⟨v2,xs2,rfl,r2,q3⟩:=reps_cons.mp q3;obtain⟨v3,xs3,rfl,r3,q3⟩:=reps_cons.mp q3;cases reps_nil.mp q3;refine jAd hc (jjj (jjy hN hi hx hf) (jjj (jjy hN hj hy hf2) (jjj (jjy hN hl hz hf3) jv2))) rfl rfl U s Z H _ u Q I r ?_;refine⟨p,_,rfl,jeb jay q2,rfl,v1,_,rfl,v2,_,rfl,v3,_,rfl,rfl,?_⟩;have e2:fob F (((Z.set i (some v1)).set j (some v2)).set l (some v3)) O=fob F Z O:=(jbr ho3').trans ((jbr ho2').trans (jbr ho'));refine k _ e2 ?_;have R1:=R.set ho' r1;have R2:=R1.set ho2' (by rw[jbr ho'];exact r2);exact R2.set ho3' (by rw[jbr ho2',jbr ho'];exact r3)
 ·cases e
def SmR(X:Cx)(name:Str)(r:Str->V->Hp->VK->Prop):Prop:=∀ (U:qb) (s:Shared) (Z:St) (x:Str) (t:Tok) (pos:Pos) (a:Sem Value) (Q:VK),
 wpAny (model X.prog X.w) X.A a (fun v s₁=>∃ y H1,Inv X U Z H1 s₁/\RelV y v/\r x y H1 Q) X.xe s->MethodOnS X.prog X.w X.A X.xe name (.str x t) pos [(false,a)] (EP X U Z Q) s
def SmD(K:W.Frag)(g:Str->D->Option D)(r:Str->V->Hp->VK->Prop):Prop:=∀ x y d,g x y=some d->∀ (J:Rho) (H:Hp) (G:qd) v (Q:VK),(∀ p,H p=none->G p=false)->Rep J K (hid H G) y v->(∀ w H',Same H H'->Rep J K (hid H' G) d w->Q w H')->r x v H Q
def fSm(g:Str->D->Option D)(fo fe:DSt->M D):DSt->M D:=fun Y=>(fo Y).b fun x=>match x with
 | .str z=>(fe Y).b fun y=>M.o (g z y)
 | _=>none
def jHw{name:Str}{g:Str->D->Option D}{r:Str->V->Hp->VK->Prop}{apos:Pos}(hr:SmR X name r)(hg:SmD X.K g r)(ho:DE X O E o fo)(he:DE X O E e fe)(hbase:attributeBase o name X.env (eval o X.env)=eval o X.env:=by rfl)(hs:starEach [e] X.env=[(false,eval e X.env)]:=by rfl)(hline:(apos.endLine == pos.line)=true:=by rfl) :
  DE X O E (.Call (.Attribute o name apos) [e] [] pos) (fSm g fo fe):=by
 rintro U s Z H Q I ⟨J,Hz,F,Y,rr,R,hf,k⟩;refine Call_method1 hbase hs hline (thn (ho U s Z H (fun v H1=>∃ z,v=.str z/\tD X.K O E fe Z H1 fun y H2=>r z y H2 Q) I ?_) fun u s1 ⟨v,H1,I1,rv,z,hz,q⟩=>?_)
 ·rcases M.b_inv hf with ⟨x,e1,hf⟩|⟨x,e1,rfl⟩
  ·refine⟨J,Hz,F,Y,.ok x,R,e1,fun u H1 s1 r1=>?_⟩
   cases x with
   | str z =>
    refine⟨z,rep_str.mp r1,?_⟩;rcases M.b_inv hf with ⟨y,e2,hf⟩|⟨y,e2,rfl⟩
    ·refine⟨J,Hz,F,Y,.ok y,R.mono s1,e2,fun v H2 s2 r2=>?_⟩;obtain⟨d,hd,rfl⟩:=M.o_inv hf;exact hg z y d hd J H2 _ v Q (fun p hp=>(R.mono (s1.trans s2)).fresh hp) r2 fun w H3 s3 r3=>k w H3 (s1.trans (s2.trans s3)) r3
    ·exact⟨J,Hz,F,Y,.error y,R.mono s1,e2,k⟩
   | _=>cases hf
  ·exact⟨J,Hz,F,Y,.error x,R,e1,k⟩
 ·subst hz;obtain⟨t,rfl⟩:=rv;exact hr U s1 Z z t pos _ Q (thn (he U s1 Z H1 _ I1 q) fun u s2 ⟨y,H2,I2,ry,q2⟩=>⟨y,H2,I2,ry,q2⟩)
def jnp(x:Str):D->Option D
 | .str y=>some (.bl (Txt.startswith x y))
 | _=>none
def jwv:SmR X "startswith" (fun x y H Q=>∃ z,y=.str z/\Q (.bl (Txt.startswith x z)) H):=fun U s Z x t pos a Q h=>SB.startswith (thn h fun v s1 ⟨y,H1,I1,ry,z,hz,q⟩=>by
 subst hz;obtain⟨u,rfl⟩:=ry;exact⟨z,u,rfl,.bl _,H1,I1,rfl,q⟩)
def jtv:SmD X.K jnp (fun x y H Q=>∃ z,y=.str z/\Q (.bl (Txt.startswith x z)) H):=by
 intro x y d hd J H G v Q hG rv k
 cases y with
 | str z=>cases hd;exact⟨z,rep_str.mp rv,k _ H (Same.refl H) (rep_bl.mpr rfl)⟩
 | _=>cases hd
def kStr:List D->Option D
 | [.int i]=>if i.natAbs.log2<1920 then some (.str (toString i)) else none
 | _=>none
def jqf:CaD X.K kStr (fun xs H Q=>∃ i,xs=[.int i]/\i.natAbs.log2<1920/\Q (.str (toString i)) H):=by
 intro xs d hd J H G us Q hG ru k;unfold kStr at hd
 split at hd
 ·split at hd
  ·rename_i i hz;cases hd;obtain⟨v,rfl,q1⟩:=jlr ru;cases rep_int.mp q1;exact⟨_,rfl,hz,k _ H (Same.refl H) (rep_str.mpr rfl)⟩
  ·cases hd
 ·cases hd
def kIntT:List D->Option D
 | [.int i]=>some (.int i)
 | [.bl k]=>some (.int (if k then 1 else 0))
 | [.str x]=>if x.length<=640 then (PySem.intText? x).map .int else none
 | _=>none
def jcq:CallR X (.type "int") (fun xs H Q=>((∃ i,xs=[.int i]/\Q (.int i) H)\/∃ k,xs=[.bl k]/\Q (.int (if k then 1 else 0)) H)\/∃ x n,xs=[.str x]/\x.length<=640/\PySem.intText? x=some n/\Q (.int n) H) :=
 call_int1.or (by
  intro U s Z H xs us Q I r h;obtain⟨x,n,rfl,hl,hn,q⟩:=h;obtain⟨u,rfl,t,rfl⟩:=r.one;exact W.KIN.call_text hn hl ⟨.int n,H,I.tok _,⟨_,rfl⟩,q⟩)
def jc8:CaD X.K kIntT (fun xs H Q=>((∃ i,xs=[.int i]/\Q (.int i) H)\/∃ k,xs=[.bl k]/\Q (.int (if k then 1 else 0)) H)\/∃ x n,xs=[.str x]/\x.length<=640/\PySem.intText? x=some n/\Q (.int n) H):=by
 intro xs d hd J H G us Q hG ru k;unfold kIntT at hd
 split at hd
 ·cases hd;obtain⟨v,rfl,q1⟩:=jlr ru;cases rep_int.mp q1;exact .inl (.inl ⟨_,rfl,k _ H (Same.refl H) (rep_int.mpr rfl)⟩)
 ·cases hd;obtain⟨v,rfl,q1⟩:=jlr ru;cases rep_bl.mp q1;exact .inl (.inr ⟨_,rfl,k _ H (Same.refl H) (rep_int.mpr rfl)⟩)
 ·split at hd
  ·rename_i x hz;obtain⟨v,rfl,q1⟩:=jlr ru;cases rep_str.mp q1
   cases e:PySem.intText? x with
   | none=>rw[e] at hd;cases hd
   | some n =>
    rw[e] at hd;cases hd;exact .inr ⟨x,n,rfl,hz,e,k _ H (Same.refl H) (rep_int.mpr rfl)⟩
  ·cases hd
 ·cases hd
def jf2{x:Str}{z:Str}{t:Tok}(hg:Gl X x)(hm:X.mg x=some (.str z t))(hd:(x == ("__debug__":Str))=false:=by decide):DE X O E (.Name x pos) (fC (.str z)) :=
 jky (t:=tC (.str z)) (v:=.str z) (joa (v:=.str z) hg hm ⟨t,rfl⟩ hd) fun _ _=>rep_str.mpr rfl
end
end DL
namespace L2
open PyProof.Rows
def jDg(lo hi st:Int)(h:0<st):0<=Builtin.Range.rangeSize lo hi st:=by
 unfold Builtin.Range.rangeSize;rw[if_pos h]
 split
 ·have:=Int.ediv_nonneg (a:=hi-lo-1) (b:=st) (by omega) (by omega);omega
 ·omega
section
variable {X:Cx}{tg:Expr}
def jyw{U:qb}{Z:St}{H:Hp}{s:Shared}{R:It->Hp->Prop}{E:qc}{lo hi st:Int}{t u v:Tok}{tk:Nat}(I:Inv X U Z H s)(hst:0<st)
  (q:R (Itv (fun i=>.int (lo+(i:Nat)*st)) (Builtin.Range.rangeSize lo hi st).toNat) H):wpAny (model X.prog X.w) X.A (pyIter (.ref s.heap.objs.size)) (PIE X U Z tg R) E { s with heap:=s.heap.push { cls:=.type "range",data:=.fields #[.int lo t,.int hi u,.int st v] },toks:=tk }:=by
 have I1:Inv X U Z H { s with heap:=s.heap.push { cls:=.type "range",data:=.fields #[.int lo t,.int hi u,.int st v] },toks:=tk }:=I.kept fun b o e=>zaz _ e
 have hn:0<=Builtin.Range.rangeSize lo hi st:=jDg lo hi st hst;generalize hN:(Builtin.Range.rangeSize lo hi st).toNat=N at q;have hN':Builtin.Range.rangeSize lo hi st=(N:Int):=by omega
 have fpk:∀ b∈[(s.heap.push { cls:=.type "range",data:=.fields #[.int lo t,.int hi u,.int st v] }).objs.size],FpOk X U H b:=fun b hb=>by
  have e:b=(s.heap.push { cls:=.type "range",data:=.fields #[.int lo t,.int hi u,.int st v] }).objs.size:=by simpa using hb
  subst e;exact I1.fpOk (zac _) (I1.hok.fresh (zac _))
 have e1:lo+((0:Nat):Int)*st=lo:=by simp
 have e2:Builtin.Range.rangeSize lo hi st-((0:Nat):Int)=Builtin.Range.rangeSize lo hi st:=by simp
 by_cases hsm:Builtin.Range.small lo hi st=true
 ·refine wpAny_pyIter_range (IsRange.new ..) hsm ?_;refine⟨_,[_],_,_,H,rfl,I1.kept (t':=tk) fun b o e=>zaz _ e,jjn _ _ N _ (fun A hA=>Walks.range hA _ lo st N) (fun i h e=>⟨_,_,_,e,rfl,rfl,rfl⟩) (fun A i s Q E e h=>wpAny_pyIter_rangeiter e h),?_,fpk,q⟩;show IsRangeIter _ _ (lo+((0:Nat):Int)*st) ((N:Int)-((0:Nat):Int)) st;rw[<- hN',e1,e2];exact zbz _ rfl
 ·refine wpAny_pyIter_longrange (IsRange.new ..) (by simpa using hsm) ?_;refine⟨_,[_],_,_,H,rfl,I1.kept (t':=tk) fun b o e=>zaz _ e,jjn _ _ N _ (fun A hA=>Walks.longrange hA _ lo st N) (fun i h e=>⟨_,_,_,e,rfl,rfl,rfl⟩) (fun A i s Q E e h=>wpAny_pyIter_longiter e h),?_,fpk,q⟩;show IsLongIter _ _ (lo+((0:Nat):Int)*st) ((N:Int)-((0:Nat):Int)) st;rw[<- hN',e1,e2];exact zbz _ rfl
def iRg3(ta:TA):TI:=fun Z H R=>ta Z H fun vs H1=>∃ i j k:Int,vs=[.int i,.int j,.int k]/\0<k/\k<2 ^ 60/\R (Itv (fun n=>.int (i+(n:Nat)*k)) (Builtin.Range.rangeSize i j k).toNat) H1
def jv3{a:Expr}{es:List Expr}{ta:TA}{p pos:Pos}(hg:Gl X "range")(hm:X.mg "range"=none)(ha:PA X (a::es) ta)(hs:starEach (a::es) X.env=(false,eval a X.env)::starEach es X.env:=by rfl)(hp:zbT pos es X.env:=by rfl) :
  PI X tg (.Call (.Name "range" p) (a::es) [] pos) (iRg3 ta):=by
 intro U s Z H R I h;refine Call_ (jmp I hg hm boot_range (PyProof.Rows.callWith_type1 (thn (ha pos U s Z H _ I h) fun us s1 hzz=>?_) hs hp));obtain⟨vs,H1,I1,r1,q1⟩:=hzz;obtain⟨i,j,k,e,hk,hk2,q⟩:=q1;subst e
 cases r1 with
 | cons p1 r1 =>
  cases r1 with
  | cons p2 r1 =>
   cases r1 with
   | cons p3 r1 =>
    cases r1;obtain⟨t1,rfl⟩:=p1;obtain⟨t2,rfl⟩:=p2;obtain⟨t3,rfl⟩:=p3;refine call_range_3 (by omega) (jyw I1 hk q) (.inl (PyProof.noPylong_of_log2 ?_));have hn:k.natAbs≠0:=by omega
    have:k.natAbs<2 ^ 60:=by omega
    exact Nat.lt_trans ((Nat.log2_lt (k:=60) hn).mpr this) (by decide)
end
end L2
namespace DL
open L2
section
variable {X:Cx}{O:List Nat}{E:XK}{a b tg e o:Expr}{es:List Expr}{fl:DSt->M (List D)}{pos p:Pos}
def jcs(lo:Int)(st:Int)(n:Nat):List D:=(List.range n).map fun i=>.int (lo+(i:Nat)*st)
def jft:List D->Option (List D)
 | [.int i,.int j,.int k]=>if 0<k/\k<2 ^ 60 then some (jcs i k (Builtin.Range.rangeSize i j k).toNat) else none
 | _=>none
def jum(hg:Gl X "range")(hm:X.mg "range"=none)(ha:DA X O E (a::es) fl)(hs:starEach (a::es) X.env=(false,eval a X.env)::starEach es X.env:=by rfl)(hp:zbT pos es X.env:=by rfl) :
  DI X O E tg (.Call (.Name "range" p) (a::es) [] pos) (jha jft fl):=by
 rintro U s Z H R I ⟨J,Hz,F,Y,r,RS0,hf,k⟩;refine jv3 hg hm ha hs hp U s Z H R I ?_;rcases M.b_inv hf with ⟨d,e1,hf⟩|⟨y,e1,rfl⟩
 ·refine⟨J,Hz,F,Y,.ok d,RS0,e1,fun vs H1 s1 r1=>?_⟩;obtain⟨ds,hd,rfl⟩:=M.o_inv hf;unfold jft at hd
  split at hd
  ·rename_i i0 j kk
   split at hd
   ·rename_i hk;cases hd;obtain⟨v,r',rfl,q1,q2⟩:=reps_cons.mp r1;obtain⟨v2,r2,rfl,q3,q4⟩:=reps_cons.mp q2;obtain⟨v3,r3,rfl,q5,q6⟩:=reps_cons.mp q4;cases reps_nil.mp q6;cases rep_int.mp q1;cases rep_int.mp q3;cases rep_int.mp q5;refine⟨i0,j,kk,rfl,hk.1,hk.2,k _ H1 s1 ?_⟩;refine ju5 (by unfold jcs;simp) fun i d hd H=>?_
    unfold jcs at hd;rw[zba] at hd
    cases q:(List.range (Builtin.Range.rangeSize i0 j kk).toNat)[i]? with
    | none=>rw[q] at hd;cases hd
    | some m =>
     rw[q] at hd;have:m=i:=by
      have:=(zbb.mp q).2;simpa using this.symm
     subst this;cases hd;exact rep_int.mpr rfl
   ·cases hd
  ·cases hd
 ·exact⟨J,Hz,F,Y,.error y,RS0,e1,k⟩
def blsD:List D->Option (List Bool)
 | []=>some []
 | .bl b::ds=>(blsD ds).map (b::·)
 | _::_=>none
theorem jt8:∀ {ds:List D} {ns:List Bool},blsD ds=some ns->ds=ns.map .bl
 | [],_,h=>by cases h;rfl
 | .bl i::ds,ns,h=>by
  unfold blsD at h
  cases e:blsD ds with
  | none=>rw[e] at h;cases h
  | some ms=>rw[e] at h;cases h;rw[jt8 e];rfl
 | .non::_,_,h=>by cases h
 | .int _::_,_,h=>by cases h
 | .str _::_,_,h=>by cases h
 | .ty _::_,_,h=>by cases h
 | .obj _::_,_,h=>by cases h
 | .tup _::_,_,h=>by cases h
 | .lst _::_,_,h=>by cases h
theorem reps_bls{J:Rho}{K:W.Frag}{H:Hp}:∀ {ns:List Bool} {vs:List V},Reps J K H (ns.map .bl) vs↔vs=ns.map V.bl
 | [],vs=>reps_nil
 | n::ns,vs=>by
  rw[List.map_cons,reps_cons];constructor
  ·rintro⟨v,r,rfl,h1,h2⟩;rw[rep_bl.mp h1,reps_bls.mp h2];rfl
  ·rintro rfl;exact⟨_,_,rfl,rep_bl.mpr rfl,reps_bls.mpr rfl⟩
def kAll:List D->Option D
 | [.lst ds]=>(blsD ds).map fun ns=>.bl (ns.all id)
 | _=>none
def jt4(ns:List Bool):(List.range ns.length).all (fun i=>ns.getD i true)=ns.all id:=by
 induction ns with
 | nil=>rfl
 | cons n ns ih =>
  rw[List.length_cons,List.range_succ_eq_map,List.all_cons,List.all_map,List.all_cons];congr 1
def jud(hc:X.calm=true):CallR X (.builtin "all") (fun xs H Q=>∃ p,∃ ns:List Bool,xs=[.ref p]/\SqL X.K H p (ns.map V.bl)/\Q (.bl (ns.all id)) H):=by
 intro U s Z H xs us Q I r h;obtain⟨p,ns,rfl,hq,q⟩:=h;obtain⟨u,rfl,rx⟩:=r.one;cases rx;obtain⟨its,rv,src,hz⟩:=I.list hq;have hl:=rv.length;rw[zav] at hl;have hh:X.A.in1.handled=none:=I.ok.hd hc;have src':s.heap.IsList p its.toArray:=src.isList;have hp:p<s.heap.objs.size:=by obtain⟨o,e,_⟩:=src';exact zbv e
 refine call_all_walk ?_;refine wpAny_pyIter_list src' ?_;refine⟨_,_,_,_,_,_,(fun i=>ns.getD i true),rfl,Walks.list hh s.heap.objs.size p (zcv hp) its.toArray,⟨⟨_,zbz _ rfl,rfl,rfl⟩,src'.at fun o e=>zaz _ e⟩,fun i v s' Q' E' hP hQ=>?_,fun h' tk kp=>?_⟩
 ·have e:its.toArray[i]? = some v:=hP;have hi:i<ns.length:=by rw[hl];have:=(Array.getElem?_eq_some_iff.mp e).1;simpa using this
  obtain⟨v',e1,r1⟩:=rv.get (i:=i) (x:=.bl ns[i]) (by rw[zba,zax hi];rfl);have:v=v':=by
   have e':its[i]? = some v:=by simpa using e
   rw[e'] at e1;exact zby e1
  subst this;have r1':v=.bool ns[i]:=r1;subst r1';refine wpAny_truthy_bool ?_;dsimp only at hQ;rw[List.getD_eq_getElem?_getD,zax hi] at hQ;exact hQ
 ·refine⟨.bl (ns.all id),H,I.kept fun b o e=>kp b o ?_ (zaz _ e),?_,q⟩
  ·intro z;have:b=s.heap.objs.size:=by simpa using z
   rw[this] at e;exact absurd (zbv e) (Nat.lt_irrefl _)
  ·have:its.toArray.size=ns.length:=by rw[zbx];omega
   rw[this,jt4];rfl
def jBa:CaD X.K kAll (fun xs H Q=>∃ p,∃ ns:List Bool,xs=[.ref p]/\SqL X.K H p (ns.map V.bl)/\Q (.bl (ns.all id)) H):=by
 intro xs d hd J H G us Q hG ru k;unfold kAll at hd
 split at hd
 ·rename_i ds
  cases e:blsD ds with
  | none=>rw[e] at hd;cases hd
  | some ns =>
   rw[e] at hd;cases hd;obtain⟨v,rfl,q⟩:=jlr ru;obtain⟨l,ys,rfl,q1,q2⟩:=rep_lst.mp q;rw[jt8 e] at q2;rw[reps_bls.mp q2] at q1;exact⟨l,ns,rfl,je5 jay q1,k _ H (Same.refl H) (rep_bl.mpr rfl)⟩
 ·cases hd
end
end DL
namespace L2
open PyProof.Rows
def jke:fillsNumberSlot (.type "tuple") "mul"=pure false :=
 PySem.fillsNumberSlot_seq (id:="tuple.__mul__") (r:=some (.builtin "tuple.__rmul__")) PySem.F.slot_tuple_mul.lookup (by decide +kernel) PySem.F.slot_tuple_rmul.lookup (by decide +kernel)
def jpx:seqRepeat? (.type "tuple")=pure (some (.builtin "tuple.__mul__")):=by
 unfold seqRepeat?;rw[PySem.seqSlot_of (T:="tuple") (name:="__mul__") (id:="tuple.__mul__") PySem.F.slot_tuple_mul.lookup (by decide +kernel),PySem.seqSlot_of (T:="tuple") (name:="__rmul__") (id:="tuple.__rmul__") PySem.F.slot_tuple_rmul.lookup (by decide +kernel)];rfl
def jmj(a:Int)(t:Tok)(l:Addr)(items:Array Value)(n:Nat)(dd:Option Addr)(sl:qe) :
  Meets (Builtin.«int.__rmul__» ⟨[.int a t,.ref l],[]⟩) (fun _ R s=>s.heap.get? l=some { cls:=.type "tuple",dict:=dd,data:=.seq items n,slots:=sl }/\R (.ok (.ret Value.notImplemented)) s) :=
 .of_wp fun prog w A R s h=>by obtain⟨hp,g,d,tk,os⟩:=s;obtain⟨hl,h⟩:=h;wp_walk;exact⟨_,rfl,h⟩
def jtw(l:Addr)(items:Array Value)(n:Nat)(u:Tok)(dd:Option Addr)(sl:qe)(hne:items.isEmpty=false) :
  Meets (Builtin.«tuple.__mul__» ⟨[.ref l,.int 1 u],[]⟩) (fun _ R s=>s.heap.get? l=some { cls:=.type "tuple",dict:=dd,data:=.seq items n,slots:=sl }/\R (.ok (.ret (.ref l))) s) :=
 .of_wp fun prog w A R s h=>by
  obtain⟨hp,g,d,tk,os⟩:=s;obtain⟨hl,h⟩:=h
  have f1:=AutoSeq1.idx_int
  wp_walk
  exact⟨_,rfl,h⟩
def jtx(l:Addr)(items:Array Value)(n:Nat)(k:Int)(u:Tok)(dd:Option Addr)(sl:qe)(hne:items.isEmpty=false)(h2:2<=k)(h3:k<=1000)(hsz:items.size*k.toNat<=100000) :
  Meets (Builtin.«tuple.__mul__» ⟨[.ref l,.int k u],[]⟩) (fun _ R s=>s.heap.get? l=some { cls:=.type "tuple",dict:=dd,data:=.seq items n,slots:=sl }/\R (.ok (.ret (.ref s.heap.objs.size))) { s with heap:=s.heap.push { cls:=.type "tuple",data:=.seq (List.foldl (fun x1 x2=>x1++x2) #[] (List.replicate k.toNat items)) } }) :=
 .of_wp fun prog w A R s h=>by
  obtain⟨hp,g,d,tk,os⟩:=s;obtain⟨hl,h⟩:=h
  have f1:=AutoSeq1.idx_int;have c1:(decide (k < -(2 ^ 63)) || decide (k >= 2 ^ 63))=false:=by simp;omega
  have c2:(items.isEmpty || k == 1)=false:=by rw[hne];simp;omega
  have c3:(decide (k<=0) || items.isEmpty)=false:=by rw[hne];simp;omega
  obtain⟨m,rfl⟩:=Int.eq_ofNat_of_zero_le (show 0<=k by omega);have hs:(items.size:Int)*(m:Int)=((items.size*m:Nat):Int):=by push_cast;rfl
  have hsz':items.size*m<=100000:=by simpa using hsz
  have c4:¬ ((items.size:Int)*(m:Int) > (2 ^ 63-1) / 8):=by rw[hs];omega
  have c5:Builtin.Tuple.tupleTooMany ((items.size:Int)*(m:Int))=false:=by
   rw[hs];unfold Builtin.Tuple.tupleTooMany;simp[sizeLine];omega
  wp_walk
  refine wpAny_ite_false (decide_eq_false (by rw[c1];decide)) ?_
  wp_walk
  refine wpAny_ite_false (decide_eq_false (by rw[c2];decide)) ?_
  wp_walk
  refine wpAny_ite_false (decide_eq_false (by rw[c3];decide)) ?_
  try dsimp only
  refine wpAny_ite_false (decide_eq_false c4) ?_
  try dsimp only
  refine wpAny_ite_false (decide_eq_false (by rw[c5];decide)) ?_
  try dsimp only
  refine zay ?_;unfold Builtin.Tuple.tupleExact;refine wpAny_newObj_type ?_ ?_
  ·exact zab ⟨_,rfl,h⟩
  ·show (List.foldl (fun x1 x2=>x1++x2) #[] (List.replicate ((m:Nat):Int).toNat items)).size<=sizeLine;rw[AutoListH.size_joined];have:100000<=sizeLine:=by decide
   rw[Nat.mul_comm] at hsz';simp;omega
end L2
namespace DL
open L2
def jGf(K:W.Frag):R2:=fun x y H Q=>∃ l k xs,x=.ref l/\y=.int k/\SqT K H l xs/\xs≠[]/\1<=k/\k<=1000/\xs.length*k.toNat<=100000/\(k=1->Q (.ref l) H)/\(k≠1->∀ p,H p=none->Q (.ref p) (upd H p (.tup (List.replicate k.toNat xs).flatten)))
section
variable {X:Cx}{b e:Expr}
def jCn:OpR X (binaryOp .Mult) (jGf X.K):=by
 intro U s Z H x y v u Q I rx ry h;obtain⟨l,k,xs,rfl,rfl,hH,hne,h1,h2,hz,q1,q2⟩:=h;cases rx;obtain⟨t,rfl⟩:=ry;obtain⟨its,r,⟨⟨cls,dd,data,sl⟩,e,hc,n,hd⟩,_⟩:=I.tuple hH;simp only at hc hd;subst hc hd;have l1:=r.length;have hne':its.toArray.isEmpty=false:=by
  cases its with
  | nil=>exact absurd (List.length_eq_zero_iff.mp l1) hne
  | cons _ _=>rfl
 have hlen:its.toArray.size*k.toNat<=100000:=by rw[zbx,<- l1];exact hz
 have hnew:List.foldl (fun x1 x2=>x1++x2) #[] (List.replicate k.toNat its.toArray)=(List.replicate k.toNat its).flatten.toArray:=by
  have:=jk2 its k.toNat [];rw[List.nil_append] at this;exact this
 refine wpAny_binaryOp_repeat_ref (T:="tuple") (U:="int") (by decide) ⟨_,e,rfl⟩ (fun s'=>typeIs_int s' k t) jke F.fills_int_mul F.slot_int_rmul jpx F.slot_int_index.lookup
  (call_meets F.slot_int_rmul (typeIs_int s k t) F.entry_int_rmul (F.args_int_rmul_2 _ _) (jmj k t l its.toArray n dd sl)
   ⟨e,rfl,⟨_,e,rfl⟩,?_⟩)
 by_cases hk:k=1
 ·subst hk;exact call_meets F.slot_tuple_mul ⟨_,e,rfl⟩ F.entry_tuple_mul (F.args_tuple_mul_2 _ _) (jtw l its.toArray n t dd sl hne') ⟨e,.ref l,H,I,rfl,q1 rfl⟩
 ·refine call_meets F.slot_tuple_mul ⟨_,e,rfl⟩ F.entry_tuple_mul (F.args_tuple_mul_2 _ _) (jtx l its.toArray n k t dd sl hne' (by omega) h2 hlen) ⟨e,?_⟩;rw[hnew];refine⟨.ref s.heap.objs.size,_,I.laid (t':=s.toks) (o:=.tup (List.replicate k.toNat xs).flatten) (fun b ob q=>zaz _ q) (zac _) ?_,rfl,q2 hk _ (I.hok.fresh (zac _))⟩;refine⟨?_,_,r.rep k.toNat,PyProof.Rows.IsTup.new _ _⟩;rw[ju7,Nat.mul_comm];have:100000<=sizeLine:=by decide
  omega
def jci:D->D->Option D
 | .tup xs,.int k=>if xs≠[]/\1<=k/\k<=1000/\xs.length*k.toNat<=100000 then some (.tup (List.replicate k.toNat xs).flatten) else none
 | x,y=>gMul x y
def jGe(K:W.Frag):R2:=fun x y H Q=>(rI (fun i j=>(jh8 i&&jh8 j)=true) (fun i j=>.int (i*j)) x y H Q\/∃ z n,x=.str z/\y=.int n/\(z.length<=4096/\-4096<=n/\n<=4096)/\Q (.str (Txt.mul z n)) H)\/jGf K x y H Q
def jc5:OpR X (binaryOp .Mult) (jGe X.K):=op_mulD.or jCn
def jcc:OpD X.K jci (jGe X.K):=by
 intro x y d hd J H G u v Q hG ru rv k;unfold jci at hd
 split at hd
 ·split at hd
  ·rename_i hz;cases hd;obtain⟨l,xs,rfl,q1,q2⟩:=rep_tup.mp ru;have n1:xs≠[]:=fun z=>by have:=q2.length;rw[z] at this;exact hz.1 (List.length_eq_zero_iff.mp this.symm)
   refine .inr ⟨l,_,xs,rfl,rep_int.mp rv,jeb jay q1,n1,hz.2.1,hz.2.2.1,by rw[q2.length];exact hz.2.2.2,fun e=>?_,fun _ p hp=>k _ _ (jbs hp) (jdz hp (hG p hp) (q2.rep _))⟩;subst e;refine k _ H (Same.refl H) ?_;simpa using ru
  ·cases hd
 ·exact .inl (jCo (X:=X) x y d hd J H G u v Q hG ru rv k)
end
end DL
namespace L2
open PyProof.Rows
abbrev xOb(C:Addr)(od:Option Addr)(vs:Array Value)(sl:qe):Obj:=⟨.ref C,od,.fields vs,sl⟩
def XO(a C:Addr)(od:Option Addr)(f:Bool):HO:=.ext fun h=>∃ vs sl,h.get? a=some (xOb C od vs sl)/\(f=true->vs[1]? = some .none)
inductive XDv(a:Addr)(fs:List (Str×V))(h:Heap):Prop
 | mk (mA:qa) (hn:h.Ns1 a mA) (hr:∀ f,RelO (fs.lookup f) (mA f)) (hw:PySem.Within mA (fs.map (·.1))) (hl:fs.length<=1000)
def XDc(a:Addr)(fs:List (Str×V)):HO:=.ext (XDv a fs)
def jHk{a C:Addr}{od:Option Addr}{f:Bool}{xs:List V}:XO a C od f≠.tup xs:=fun z=>by unfold XO at z;cases z
def jJh{a:Addr}{fs:List (Str×V)}{xs:List V}:XDc a fs≠.tup xs:=fun z=>by unfold XDc at z;cases z
end L2
namespace DL
open L2
inductive SO where
 | ins (c:Str) (fs:List (Str×D))|lst (ds:List D)|exc (c:Str) (j:Option Nat×Bool)|xd (fs:List (Str×D))
abbrev Sto:=List SO
abbrev MS(α:Type):=Sto->Option (Except XD α×Sto)
def MS.b{α β:Type}(m:MS α)(f:α->MS β):MS β:=fun Ω=>match m Ω with
 | none=>none
 | some (.error x,Ω')=>some (.error x,Ω')
 | some (.ok a,Ω')=>f a Ω'
def MS.p{α:Type}(a:α):MS α:=fun Ω=>some (.ok a,Ω)
def MS.l{α:Type}(m:M α):MS α:=fun Ω=>m.map fun r=>(r,Ω)
def MS.o{α:Type}(m:Option α):MS α:=fun Ω=>m.map fun r=>(.ok r,Ω)
inductive MS.BInv{α β:Type}(m:MS α)(f:α->MS β)(Ω Ω':Sto)(r:Except XD β):Prop
 | ok (a:α) (Ω1:Sto) (h1:m Ω=some (.ok a,Ω1)) (h2:f a Ω1=some (r,Ω'))
 | err (x:XD) (h1:m Ω=some (.error x,Ω')) (h2:r=.error x)
def MS.b_inv{α β:Type}{m:MS α}{f:α->MS β}{Ω Ω':Sto}{r:Except XD β}(h:m.b f Ω=some (r,Ω')):MS.BInv m f Ω Ω' r:=by
 unfold MS.b at h
 cases e:m Ω with
 | none=>rw[e] at h;cases h
 | some p =>
  rw[e] at h;obtain⟨q,Ω1⟩:=p
  cases q with
  | error x=>cases h;exact .err x e rfl
  | ok a=>exact .ok a Ω1 e h
def MS.l_inv{α:Type}{m:M α}{Ω Ω':Sto}{r:Except XD α}(h:MS.l m Ω=some (r,Ω')):m=some r/\Ω'=Ω:=by
 unfold MS.l at h
 cases e:m with
 | none=>rw[e] at h;cases h
 | some p=>rw[e] at h;cases h;exact⟨rfl,rfl⟩
def MS.o_inv{α:Type}{m:Option α}{Ω Ω':Sto}{r:Except XD α}(h:MS.o m Ω=some (r,Ω')):∃ a,m=some a/\r=.ok a/\Ω'=Ω:=by
 unfold MS.o at h
 cases e:m with
 | none=>rw[e] at h;cases h
 | some p=>rw[e] at h;cases h;exact⟨p,rfl,rfl,rfl⟩
@[simp] theorem MS.b_p{α β:Type}(a:α)(f:α->MS β):(MS.p a).b f=f a:=rfl
def MS.b_ok{α β:Type}{m:MS α}{f:α->MS β}{Ω Ω1:Sto}{a:α}(h:m Ω=some (.ok a,Ω1)):m.b f Ω=f a Ω1:=by unfold MS.b;rw[h]
def RLe(J J':Rho):Prop:=∀ i a,J i=some a->J' i=some a
def RLe.refl(J:Rho):RLe J J:=fun _ _ h=>h
def RLe.trans{J J' J'':Rho}(a:RLe J J')(b:RLe J' J''):RLe J J'':=fun i x h=>b i x (a i x h)
section
variable {J J':Rho}{K:W.Frag}{H:Hp}
mutual
def Rep.rho(e:RLe J J'):∀ {d:D} {v:V},Rep J K H d v->Rep J' K H d v
 | .non,_,h=>by unfold Rep at h |-;exact h
 | .bl _,_,h=>by unfold Rep at h |-;exact h
 | .int _,_,h=>by unfold Rep at h |-;exact h
 | .str _,_,h=>by unfold Rep at h |-;exact h
 | .ty _,_,h=>by unfold Rep at h |-;exact h
 | .obj _,_,h=>by
  unfold Rep at h |-
  obtain⟨a,q1,q2⟩:=h;exact⟨a,e _ _ q1,q2⟩
 | .tup _,_,h=>by
  unfold Rep at h |-
  obtain⟨a,xs,q1,q2,q3⟩:=h;exact⟨a,xs,q1,q2,Reps.rho e q3⟩
 | .lst _,_,h=>by
  unfold Rep at h |-
  obtain⟨a,xs,q1,q2,q3⟩:=h;exact⟨a,xs,q1,q2,Reps.rho e q3⟩
def Reps.rho(e:RLe J J'):∀ {ds:List D} {vs:List V},Reps J K H ds vs->Reps J' K H ds vs
 | [],_,h=>by unfold Reps at h |-;exact h
 | _::_,_,h=>by
  unfold Reps at h |-
  obtain⟨v,vs,q1,q2,q3⟩:=h;exact⟨v,vs,q1,Rep.rho e q2,Reps.rho e q3⟩
end
def putD(f:Str)(d:D):List (Str×D)->List (Str×D)
 | []=>[(f,d)]
 | (g,x)::r=>if g=f then (g,d)::r else (g,x)::putD f d r
def Flds(J:Rho)(K:W.Frag)(H:Hp):List (Str×D)->List (Str×V)->Prop
 | [],vs=>vs=[]
 | (f,d)::fs,vs=>∃ v r,vs=(f,v)::r/\Rep J K H d v/\Flds J K H fs r
theorem Flds.mono(e:RLe J J')(s:Same H H'):∀ {fs:List (Str×D)} {vs:List (Str×V)},Flds J K H fs vs->Flds J' K H' fs vs
 | [],_,h=>h
 | (f,d)::fs,_,⟨v,r,q1,q2,q3⟩=>⟨v,r,q1,(q2.rho e).mono s,Flds.mono e s q3⟩
theorem Flds.length:∀ {fs:List (Str×D)} {vs:List (Str×V)},Flds J K H fs vs->vs.length=fs.length
 | [],_,h=>by cases h;rfl
 | (f,d)::fs,_,⟨v,r,q1,q2,q3⟩=>by subst q1;simp[Flds.length q3]
theorem Flds.get:∀ {fs:List (Str×D)} {vs:List (Str×V)} {f:Str} {d:D},Flds J K H fs vs->fs.lookup f=some d->∃ v,vs.lookup f=some v/\Rep J K H d v
 | [],_,_,_,_,e=>by cases e
 | (g,x)::fs,_,f,d,⟨v,r,q1,q2,q3⟩,e=>by
  subst q1;simp only[List.lookup_cons] at e |-
  cases h:f == g with
  | true=>rw[h] at e;cases e;exact⟨v,rfl,q2⟩
  | false=>rw[h] at e;exact Flds.get q3 e
theorem Flds.none:∀ {fs:List (Str×D)} {vs:List (Str×V)} {f:Str},Flds J K H fs vs->fs.lookup f=Option.none->vs.lookup f=Option.none
 | [],_,_,h,_=>by cases h;rfl
 | (g,x)::fs,_,f,⟨v,r,q1,q2,q3⟩,e=>by
  subst q1;simp only[List.lookup_cons] at e |-
  cases h:f == g with
  | true=>rw[h] at e;cases e
  | false=>rw[h] at e;exact Flds.none q3 e
theorem Flds.put{f:Str}{d:D}{v:V}(hr:Rep J K H d v):∀ {fs:List (Str×D)} {vs:List (Str×V)},Flds J K H fs vs->Flds J K H (putD f d fs) (putF f v vs)
 | [],_,h=>by cases h;exact⟨v,[],rfl,hr,rfl⟩
 | (g,x)::fs,_,⟨u,r,q1,q2,q3⟩=>by
  subst q1;unfold putD putF
  by_cases h:g=f
  ·rw[if_pos h,if_pos h];exact⟨v,r,rfl,hr,q3⟩
  ·rw[if_neg h,if_neg h];exact⟨u,_,rfl,q2,Flds.put hr q3⟩
end
inductive InsOk(J:Rho)(S:qd)(K:W.Frag)(mg:qa)(H Hv:Hp)(a:Addr)(c:Str)(fs:List (Str×D)):Prop
 | mk (C dx:Addr) (vfs:List (Str×V)) (h1:mg c=some (.ref C)) (h2:H a=some (.ins C dx vfs)) (h3:H dx=some (.own a)) (h4:S dx=true) (h5:Flds J K Hv fs vfs)
inductive TabG(Hv:Hp)(l c:Nat)(q:Str)(ps:Array Value):Prop
 | nil (h:ps=#[])
 | one (c':Addr) (o:Obj) (vs:Array Value) (t:Tok) (h:ps=#[rawInt l,rawInt c,.ref c']) (h1:Hv c'=some (.frz o (.own 0))) (h2:o.data=.fields vs) (h3:vs[1]? = some (.str q t))
def TabG.mono{Hv Hv':Hp}{l c:Nat}{q:Str}{ps:Array Value}(s:Same Hv Hv'):TabG Hv l c q ps->TabG Hv' l c q ps
 | .nil h=>.nil h
 | .one c' o vs t h h1 h2 h3=>.one c' o vs t h (s _ _ h1) h2 h3
inductive ExcOk(J:Rho)(mg:qa)(H:Hp)(a:Addr)(c:Str):Option Nat×Bool->Prop
 | no (f:Bool) (C:Addr) (h1:mg c=some (.ref C)) (h2:H a=some (XO a C none f)):ExcOk J mg H a c (none,f)
 | yes (f:Bool) (j:Nat) (C dx:Addr) (h1:mg c=some (.ref C)) (h2:J j=some dx) (h3:H a=some (XO a C (some dx) f)):ExcOk J mg H a c (some j,f)
def ExcOk.mono{J J':Rho}{mg:qa}{H H':Hp}{a:Addr}{c:Str}{j:Option Nat×Bool}(l:∀ i b,J i=some b->J' i=some b)(e:H' a=H a)(h:ExcOk J mg H a c j):ExcOk J' mg H' a c j:=by
 cases h with
 | no f C h1 h2=>exact .no f C h1 (by rw[e];exact h2)
 | yes f j C dx h1 h2 h3=>exact .yes f j C dx h1 (l _ _ h2) (by rw[e];exact h3)
def SOk(J:Rho)(S:qd)(K:W.Frag)(mg:qa)(H Hv:Hp)(a:Addr):SO->Prop
 | .ins c fs=>InsOk J S K mg H Hv a c fs
 | .lst ds=>∃ xs,H a=some (.lst xs)/\Reps J K Hv ds xs
 | .exc c j=>ExcOk J mg H a c j
 | .xd fs=>∃ vfs,H a=some (XDc a vfs)/\Flds J K Hv fs vfs
inductive AtOk(J:Rho)(S:qd)(K:W.Frag)(mg:qa)(H Hv:Hp)(i:Nat)(so:SO):Prop
 | mk (a:Addr) (h1:J i=some a) (h2:S a=true) (h3:SOk J S K mg H Hv a so)
def TV(H Hv:Hp):Prop:=∀ b xs,H b=some (.tup xs)->Hv b=some (.tup xs)
def jl1{H Hv:Hp}{a:Addr}{o:HO}(t:TV H Hv)(ho:∀ xs,o≠.tup xs):TV (upd H a o) Hv:=fun b xs q=>by
 by_cases hb:b=a
 ·subst hb;rw[jaq] at q;cases q;exact absurd rfl (ho xs)
 ·rw[jal hb] at q;exact t b xs q
def jw4{H Hv Hv':Hp}(t:TV H Hv)(v:Same Hv Hv'):TV H Hv':=fun b xs q=>v b _ (t b xs q)
def jDq{H H':Hp}{F:qd}(t:TV H (hid H F))(fr:∀ b,H b=none->F b=false)(e:Same H H'):TV H' (hid H' F):=fun b xs q=>by
 cases z:H b with
 | none=>exact hid_some.mpr ⟨fr b z,q⟩
 | some o =>
  have:=e b o z;rw[q] at this;cases this;exact jax e b _ (t b xs z)
structure StoOk(J:Rho)(S:qd)(K:W.Frag)(mg:qa)(H Hv:Hp)(Ω:Sto):Prop where
 ats:∀ (i:Nat) so,Ω[i]? = some so->AtOk J S K mg H Hv i so
 inj:∀ i j a,J i=some a->J j=some a->i=j
 top:∀ i,Ω.length<=i->J i=none
 fin:∀ b,S b=true->H b≠none
 tv:TV H Hv
abbrev nof:qd:=fun _=>false
def un(F S:qd):qd:=fun b=>F b || S b
def un_t{F S:qd}{b:Addr}:un F S b=true↔F b=true\/S b=true:=by unfold un;rw[Bool.or_eq_true]
def un_f{F S:qd}{b:Addr}:un F S b=false↔F b=false/\S b=false:=by unfold un;rw[Bool.or_eq_false_iff]
section
variable {J:Rho}{S:qd}{K:W.Frag}{mg:qa}{H H' Hv Hv':Hp}{Ω:Sto}
theorem SOk.mono{a:Addr}{so:SO}(hs:S a=true)(e:∀ b,S b=true->H' b=H b)(v:Same Hv Hv')(h:SOk J S K mg H Hv a so):SOk J S K mg H' Hv' a so:=by
 cases so with
 | ins c fs =>
  obtain⟨C,dx,vfs,q1,q2,q3,q4,q5⟩:=h;exact⟨C,dx,vfs,q1,by rw[e a hs];exact q2,by rw[e dx q4];exact q3,q4,q5.mono (RLe.refl _) v⟩
 | lst ds =>
  obtain⟨xs,q1,q2⟩:=h;exact⟨xs,by rw[e a hs];exact q1,q2.mono v⟩
 | exc c j=>exact ExcOk.mono (fun _ _ z=>z) (e a hs) h
 | xd fs =>
  obtain⟨vfs,q1,q2⟩:=h;exact⟨vfs,by rw[e a hs];exact q1,q2.mono (RLe.refl _) v⟩
def StoOk.mono(h:StoOk J S K mg H Hv Ω)(e:∀ b,S b=true->H' b=H b)(v:Same Hv Hv')(t:TV H' Hv'):StoOk J S K mg H' Hv' Ω :=
 ⟨fun i so hi=>let ⟨a,q1,q2,q3⟩:=h.ats i so hi;⟨a,q1,q2,q3.mono q2 e v⟩,h.inj,h.top,fun b hb=>by rw[e b hb];exact h.fin b hb,t⟩
end
structure RM(Jz:Rho)(Sz:qd)(Hz:Hp)(F:qd)(K:W.Frag)(mg:qa)(O:List Nat)(J:Rho)(S:qd)(H:Hp)(Z:St)(Y:DSt)(Ω:Sto):Prop where
 rs:RS J K (hid H (fob nof Z O)) H (un F S) O Z Y
 rho:RLe Jz J
 same:∀ b o,Sz b=false->Hz b=some o->H b=some o
 old:∀ b,Sz b=true->S b=true
 new:∀ b,S b=true->Sz b=true\/Hz b=none
 own0:∀ i∈O,∀ a,Z[i]? = some (some (.ref a))->Hz a=none
 ff:∀ b,F b=true->S b=false
 sto:StoOk J S K mg H (hid H (fob (un F S) Z O)) Ω
section
variable {Jz J:Rho}{Sz S F:qd}{Hz H1 H H':Hp}{K:W.Frag}{mg:qa}{O O':List Nat}{Z:St}{Y:DSt}{Ω:Sto}
def RS.rebase(R:RS J K H1 H F O Z Y):RS J K (hid H (fob nof Z O)) H F O Z Y :=
 ⟨R.len,jay,R.fin,R.val,fun i hi=>by
  obtain⟨a,xs,ds,q1,q2,q3,q4,q5⟩:=R.own i hi;refine⟨a,xs,ds,q1,q2,q3,⟨?_,q4.2⟩,q5⟩;unfold hid;rw[if_pos (fob_t.mpr (.inr ⟨i,hi,q2⟩))],R.nd⟩
def RM.at_store(R:RM Jz Sz Hz F K mg O J S H Z Y Ω)(e:Same H H'):∀ b,S b=true->H' b=H b:=fun b hb=>by
 cases q:H b with
 | none=>exact absurd q (R.sto.fin b hb)
 | some o=>exact e b o q
def RM.mono(R:RM Jz Sz Hz F K mg O J S H Z Y Ω)(e:Same H H'):RM Jz Sz Hz F K mg O J S H' Z Y Ω :=
 ⟨(R.rs.mono e).rebase,R.rho,fun b o h1 h2=>e b o (R.same b o h1 h2),R.old,R.new,R.own0,R.ff,R.sto.mono (R.at_store e) (jax e) (jDq R.sto.tv (fun _ h=>R.rs.fresh h) e)⟩
def RM.thaw(R:RM Jz Sz Hz F K mg O J S H Z Y Ω)(h:∀ i∈O',i∈O):RM Jz Sz Hz F K mg O' J S H Z Y Ω :=
 ⟨(R.rs.thaw h).rebase,R.rho,R.same,R.old,R.new,fun i hi=>R.own0 i (h i hi),R.ff,R.sto.mono (fun _ _=>rfl) (jfk (ju6 h)) (jw4 R.sto.tv (jfk (ju6 h)))⟩
def RM.fresh(R:RM Jz Sz Hz F K mg O J S H Z Y Ω){p:Addr}(h:H p=none):fob (un F S) Z O p=false:=R.rs.fresh h
def RM.fresh0(R:RM Jz Sz Hz F K mg O J S H Z Y Ω){p:Addr}(h:H p=none):Hz p=none\/Sz p=true:=by
 cases e:Sz p with
 | true=>exact .inr rfl
 | false =>
  cases e0:Hz p with
  | none=>exact .inl rfl
  | some o=>rw[R.same p o e e0] at h;cases h
def RM.noS(R:RM Jz Sz Hz F K mg O J S H Z Y Ω){p:Addr}(h:H p=none):S p=false:=by
 cases e:S p with
 | false=>rfl
 | true=>exact absurd h (R.sto.fin p e)
def RM.fresh00(R:RM Jz Sz Hz F K mg O J S H Z Y Ω){p:Addr}(h:H p=none):Hz p=none:=by
 rcases R.fresh0 h with q|q
 ·exact q
 ·have:=R.noS h;rw[R.old p q] at this;cases this
def RM.set(R:RM Jz Sz Hz F K mg O J S H Z Y Ω){i:Nat}{d:D}{v:V}(ho:i∉O)(hr:Rep J K (hid H (fob (un F S) Z O)) d v):RM Jz Sz Hz F K mg O J S H (Z.set i (some v)) (Y.set i (some d)) Ω:=by
 refine⟨(R.rs.set ho hr).rebase,R.rho,R.same,R.old,R.new,fun j hj a q=>?_,R.ff,by rw[jbr ho];exact R.sto⟩;rw[zbw (by rintro rfl;exact ho hj)] at q;exact R.own0 j hj a q
def RM.write(R:RM Jz Sz Hz F K mg O J S H Z Y Ω){i:Nat}{a:Addr}{ds:List D}{xs:List V}(hi:i∈O)(ha:Z[i]? = some (some (.ref a)))(hr:Reps J K (hid H (fob (un F S) Z O)) ds xs) :
  RM Jz Sz Hz F K mg O J S (upd H a (.lst xs)) Z (Y.set i (some (.lst ds))) Ω:=by
 obtain⟨a',ys,es,q1,q2,q3,q4,q5⟩:=R.rs.own i hi;rw[ha] at q2;cases q2
 have hS:S a=false:=(un_f.mp q4.2).2;have h0:=R.own0 i hi a ha;have hh:hid (upd H a (.lst xs)) (fob (un F S) Z O)=hid H (fob (un F S) Z O):=jgd (fob_t.mpr (.inr ⟨i,hi,ha⟩));refine⟨(R.rs.write hi ha hr).rebase,R.rho,fun b o h1 h2=>?_,R.old,R.new,R.own0,R.ff,?_⟩
 ·rw[jal (jbb h2 h0)];exact R.same b o h1 h2
 ·rw[hh];refine R.sto.mono (fun b hb=>?_) (Same.refl _) (jl1 R.sto.tv fun _ z=>nomatch z);rw[jal];rintro rfl;rw[hS] at hb;cases hb
def RM.take(R:RM Jz Sz Hz F K mg O J S H Z Y Ω){i:Nat}{ds:List D}{p:Addr}{xs:List V}(ho:i∉O)(hi:i<Y.length)(hp:H p=none)(hr:Reps J K (hid H (fob (un F S) Z O)) ds xs) :
  RM Jz Sz Hz F K mg (i::O) J S (upd H p (.lst xs)) (Z.set i (some (.ref p))) (Y.set i (some (.lst ds))) Ω/\Same (hid H (fob (un F S) Z O)) (hid (upd H p (.lst xs)) (fob (un F S) (Z.set i (some (.ref p))) (i::O))):=by
 have lZ:i<Z.length:=by rw[R.rs.len];exact hi
 have pf:=R.fresh hp;have vs:Same (hid H (fob (un F S) Z O)) (hid (upd H p (.lst xs)) (fob (un F S) (Z.set i (some (.ref p))) (i::O))):=by
  intro b o q;obtain⟨q1,q2⟩:=hid_some.mp q;have hb:b≠p:=jbb q2 hp;refine hid_some.mpr ⟨?_,by rw[jal hb];exact q2⟩
  cases z:fob (un F S) (Z.set i (some (.ref p))) (i::O) b with
  | false=>rfl
  | true =>
   rcases fob_t.mp z with z|⟨j,hj,z⟩
   ·rw[fob_t.mpr (.inl z)] at q1;cases q1
   ·rcases List.mem_cons.mp hj with rfl|hj
    ·rw[zcz lZ] at z;cases z;exact absurd rfl hb
    ·rw[zbw (by rintro rfl;exact ho hj)] at z;rw[fob_t.mpr (.inr ⟨j,hj,z⟩)] at q1;cases q1
 refine⟨⟨(R.rs.take ho hi (Same.refl H) hp hr).rebase,R.rho,fun b o h1 h2=>?_,R.old,R.new,fun j hj a q=>?_,R.ff,R.sto.mono (fun b hb=>?_) vs (jw4 (jl1 R.sto.tv fun _ z=>nomatch z) vs)⟩,vs⟩
 ·have h3:=R.same b o h1 h2;rw[jal (jbb h3 hp)];exact h3
 ·rcases List.mem_cons.mp hj with rfl|hj
  ·rw[zcz lZ] at q;cases q;exact R.fresh00 hp
  ·rw[zbw (by rintro rfl;exact ho hj)] at q;exact R.own0 j hj a q
 ·rw[jal];rintro rfl;rw[R.noS hp] at hb;cases hb
end
inductive tE(K:W.Frag)(mg:qa)(O:List Nat)(f:DSt->MS D)(Z:St)(H:Hp)(Q:VK):Prop
 | mk (Jz:Rho) (Sz:qd) (Hz:Hp) (F:qd) (J:Rho) (S:qd) (Y:DSt) (Ω:Sto) (R:RM Jz Sz Hz F K mg O J S H Z Y Ω) (r:Except XD D) (Ω':Sto) (hf:f Y Ω=some (r,Ω')) (k:match (generalizing:=false) r with
  | .ok d=>∀ v J' S' H',RM Jz Sz Hz F K mg O J' S' H' Z Y Ω'->RLe J J'->Same (hid H (fob (un F S) Z O)) (hid H' (fob (un F S') Z O))->Rep J' K (hid H' (fob (un F S') Z O)) d v->Q v H'
  | .error _=>True)
def ME(X:Cx)(O:List Nat)(e:Expr)(f:DSt->MS D):Prop:=PE X e (tE X.K X.mg O f)
inductive tEB(K:W.Frag)(mg:qa)(O:List Nat)(f:DSt->MS Bool)(Z:St)(H:Hp)(Q:Bool->Hp->Prop):Prop
 | mk (Jz:Rho) (Sz:qd) (Hz:Hp) (F:qd) (J:Rho) (S:qd) (Y:DSt) (Ω:Sto) (R:RM Jz Sz Hz F K mg O J S H Z Y Ω) (r:Except XD Bool) (Ω':Sto) (hf:f Y Ω=some (r,Ω')) (k:match (generalizing:=false) r with
  | .ok d=>∀ J' S' H',RM Jz Sz Hz F K mg O J' S' H' Z Y Ω'->RLe J J'->Same (hid H (fob (un F S) Z O)) (hid H' (fob (un F S') Z O))->Q d H'
  | .error _=>True)
def MT(X:Cx)(O:List Nat)(e:Expr)(f:DSt->MS Bool):Prop:=PT X e (tEB X.K X.mg O f)
def MW(X:Cx)(O:List Nat)(e:Expr)(f:DSt->MS Bool):Prop:=PW X e (tEB X.K X.mg O f)
inductive tEL(K:W.Frag)(mg:qa)(O:List Nat)(f:DSt->MS (List D))(Z:St)(H:Hp)(Q:List V->Hp->Prop):Prop
 | mk (Jz:Rho) (Sz:qd) (Hz:Hp) (F:qd) (J:Rho) (S:qd) (Y:DSt) (Ω:Sto) (R:RM Jz Sz Hz F K mg O J S H Z Y Ω) (r:Except XD (List D)) (Ω':Sto) (hf:f Y Ω=some (r,Ω')) (k:match (generalizing:=false) r with
  | .ok ds=>∀ vs J' S' H',RM Jz Sz Hz F K mg O J' S' H' Z Y Ω'->RLe J J'->Same (hid H (fob (un F S) Z O)) (hid H' (fob (un F S') Z O))->Reps J' K (hid H' (fob (un F S') Z O)) ds vs->Q vs H'
  | .error _=>True)
def MA(X:Cx)(O:List Nat)(es:List Expr)(f:DSt->MS (List D)):Prop:=PA X es (tEL X.K X.mg O f)
def lF{α:Type}(f:DSt->M α):DSt->MS α:=fun Y=>MS.l (f Y)
def jhd(f:DSt->MS D)(g:DSt->MS (List D)):DSt->MS (List D):=fun Y=>(f Y).b fun x=>(g Y).b fun xs=>MS.p (x::xs)
def m2(g:D->D->Option D)(fa fb:DSt->MS D):DSt->MS D:=fun Y=>(fa Y).b fun x=>(fb Y).b fun y=>MS.o (g x y)
def m1(g:D->Option D)(fa:DSt->MS D):DSt->MS D:=fun Y=>(fa Y).b fun x=>MS.o (g x)
def mL(k:List D->Option D)(g:DSt->MS (List D)):DSt->MS D:=fun Y=>(g Y).b fun xs=>MS.o (k xs)
def mTru(fa:DSt->MS D):DSt->MS Bool:=fun Y=>(fa Y).b fun x=>MS.o (truD x)
def mNot(ta:DSt->MS Bool):DSt->MS Bool:=fun Y=>(ta Y).b fun x=>MS.p !x
def mOr(ta tb:DSt->MS Bool):DSt->MS Bool:=fun Y=>(ta Y).b fun x=>if x=true then MS.p true else tb Y
def getO(cs:List Str)(f:Str):D->MS D:=fun x Ω=>match x with
 | .obj i=>match Ω[i]? with
  | some (.ins c fs)=>if cs.contains c then (fs.lookup f).map fun d=>(.ok d,Ω) else none
  | _=>none
 | _=>none
def mGet(cs:List Str)(f:Str)(fa:DSt->MS D):DSt->MS D:=fun Y=>(fa Y).b fun x=>getO cs f x
section
variable {X:Cx}{O:List Nat}{a b c e:Expr}{es:List Expr}{fa fb:DSt->MS D}{fl:DSt->MS (List D)}{pos:Pos}{ta tb:DSt->MS Bool}
def jar{f:DSt->M D}(h:DE X O E0 e f):ME X O e (lF f):=by
 rintro U s Z H Q I ⟨Jz,Sz,Hz,F,J,S,Y,Ω,R,r,Ω',hf,k⟩;obtain⟨hg,rfl⟩:=MS.l_inv hf;refine h U s Z H Q I ⟨J,_,un F S,Y,r,R.rs,hg,?_⟩
 cases r with
 | ok d=>exact fun v H' s' rv=>k v J S H' (R.mono s') (RLe.refl _) (jax s') rv
 | error x=>exact fun c dx H' _ z=>z.elim
def jfe{f:DSt->M Bool}(h:DT X O E0 e f):MT X O e (lF f):=by
 rintro U s Z H Q I ⟨Jz,Sz,Hz,F,J,S,Y,Ω,R,r,Ω',hf,k⟩;obtain⟨hg,rfl⟩:=MS.l_inv hf;refine h U s Z H Q I ⟨J,_,un F S,Y,r,R.rs,hg,?_⟩
 cases r with
 | ok d=>exact fun H' s'=>k J S H' (R.mono s') (RLe.refl _) (jax s')
 | error x=>exact fun c dx H' _ z=>z.elim
def jb9{f:DSt->M (List D)}(h:DA X O E0 es f):MA X O es (lF f):=by
 rintro p U s Z H Q I ⟨Jz,Sz,Hz,F,J,S,Y,Ω,R,r,Ω',hf,k⟩;obtain⟨hg,rfl⟩:=MS.l_inv hf;refine h p U s Z H Q I ⟨J,_,un F S,Y,r,R.rs,hg,?_⟩
 cases r with
 | ok d=>exact fun v H' s' rv=>k v J S H' (R.mono s') (RLe.refl _) (jax s') rv
 | error x=>exact fun c dx H' _ z=>z.elim
def jfc(ha:ME X O e fa)(hr:MA X O es fl)(hs:zsE e es X.env:=by rfl):MA X O (e::es) (jhd fa fl):=by
 rintro p U s Z H Q I ⟨Jz,Sz,Hz,F,J,S,Y,Ω,R,r,Ω',hf,k⟩;refine je2 ha hr hs p U s Z H Q I ?_;rcases MS.b_inv hf with ⟨x,Ω1,e1,hf⟩|⟨x,e1,rfl⟩
 ·refine⟨Jz,Sz,Hz,F,J,S,Y,Ω,R,.ok x,Ω1,e1,fun u ρ1 S1 H1 R1 l1 v1 r1=>?_⟩;rcases MS.b_inv hf with ⟨xs,Ω2,e2,hf⟩|⟨y,e2,rfl⟩
  ·cases hf;exact⟨Jz,Sz,Hz,F,ρ1,S1,Y,Ω1,R1,.ok xs,_,e2,fun vs ρ2 S2 H2 R2 l2 v2 r2=>k (u::vs) ρ2 S2 H2 R2 (l1.trans l2) (v1.trans v2) (Reps.cons ((r1.rho l2).mono v2) r2)⟩
  ·exact⟨Jz,Sz,Hz,F,ρ1,S1,Y,Ω1,R1,.error y,_,e2,trivial⟩
 ·exact⟨Jz,Sz,Hz,F,J,S,Y,Ω,R,.error x,_,e1,trivial⟩
def jvf{g:D->D->Option D}{r:R2}{Z:St}{H:Hp}{Q:VK}(hg:OpD X.K g r)(h:tE X.K X.mg O (m2 g fa fb) Z H Q):tOp r (tE X.K X.mg O fa) (tE X.K X.mg O fb) Z H Q:=by
 obtain⟨Jz,Sz,Hz,F,J,S,Y,Ω,R,r,Ω',hf,k⟩:=h;rcases MS.b_inv hf with ⟨x,Ω1,e1,hf⟩|⟨x,e1,rfl⟩
 ·refine⟨Jz,Sz,Hz,F,J,S,Y,Ω,R,.ok x,Ω1,e1,fun u ρ1 S1 H1 R1 l1 v1 r1=>?_⟩;rcases MS.b_inv hf with ⟨y,Ω2,e2,hf⟩|⟨y,e2,rfl⟩
  ·refine⟨Jz,Sz,Hz,F,ρ1,S1,Y,Ω1,R1,.ok y,Ω2,e2,fun w ρ2 S2 H2 R2 l2 v2 r2=>?_⟩;obtain⟨d,hd,rfl,rfl⟩:=MS.o_inv hf;exact hg x y d hd ρ2 H2 _ u w Q (fun p hp=>R2.fresh hp) ((r1.rho l2).mono v2) r2 fun z H3 s3 r3=>k z ρ2 S2 H3 (R2.mono s3) (l1.trans l2) (v1.trans (v2.trans (jax s3))) r3
  ·exact⟨Jz,Sz,Hz,F,ρ1,S1,Y,Ω1,R1,.error y,_,e2,trivial⟩
 ·exact⟨Jz,Sz,Hz,F,J,S,Y,Ω,R,.error x,_,e1,trivial⟩
def jFe{op:CmpOp}{g:D->D->Option D}{r:R2}(ho:OpR X (compareOp op) r)(hg:OpD X.K g r)(ha:ME X O a fa)(hb:ME X O b fb)(hm:behindInMarks op b=false):ME X O (.Compare a [op] [b] pos) (m2 g fa fb) :=
 fun U s Z H Q I h=>jv0 ho ha hb hm U s Z H Q I (jvf hg h)
def jxc(X:Cx)(cs:List Str)(f:Str):Prop:=∀ c∈cs,∀ C,X.mg c=some (.ref C)->Cls X.K C/\NoAttr X.K C f
def jxo{cs:List Str}{f:Str}{x:D}{Ω Ω':Sto}{r:Except XD D}(h:getO cs f x Ω=some (r,Ω')):∃ i cl fs d,x=.obj i/\Ω[i]? = some (.ins cl fs)/\cs.contains cl=true/\fs.lookup f=some d/\r=.ok d/\Ω'=Ω:=by
 unfold getO at h
 cases x with
 | obj i =>
  dsimp only at h
  cases hi:Ω[i]? with
  | none=>rw[hi] at h;cases h
  | some so =>
   rw[hi] at h
   cases so with
   | lst _=>cases h
   | exc _ _=>cases h
   | xd _=>cases h
   | ins cl fs =>
    dsimp only at h
    by_cases hc:cs.contains cl=true
    ·rw[if_pos hc] at h
     cases hl:fs.lookup f with
     | none=>rw[hl] at h;cases h
     | some d=>rw[hl] at h;cases h;exact⟨i,cl,fs,d,rfl,hi,hc,hl,rfl,rfl⟩
    ·rw[if_neg hc] at h;cases h
 | _=>cases h
def jld{cs:List Str}{f:Str}(hc:jxc X cs f)(ha:ME X O e fa)(hb:attributeBase e f X.env (eval e X.env)=eval e X.env:=by rfl):ME X O (.Attribute e f pos) (mGet cs f fa):=by
 rintro U s Z H Q I ⟨Jz,Sz,Hz,F,J,S,Y,Ω,R,r,Ω',hf,k⟩;refine jFz ha hb U s Z H Q I ?_;rcases MS.b_inv hf with ⟨x,Ω1,e1,hf⟩|⟨x,e1,rfl⟩
 ·refine⟨Jz,Sz,Hz,F,J,S,Y,Ω,R,.ok x,Ω1,e1,fun u ρ1 S1 H1 R1 l1 v1 r1=>?_⟩;obtain⟨i,cl,fs,d,rfl,hi,hcl,hl,rfl,rfl⟩:=jxo hf;obtain⟨ad,q1,q2⟩:=rep_obj.mp r1;obtain⟨ad',p1,p2,C,dx,vfs,p3,p4,p5,p6,p7⟩:=R1.sto.ats i _ hi;rw[q1] at p1;cases p1
  obtain⟨g1,g2⟩:=hc cl (zbc.mp hcl) C p3;obtain⟨w,w1,w2⟩:=p7.get hl;exact⟨ad,C,dx,vfs,w,q2,p4,g1,g2,w1,k w ρ1 S1 H1 R1 l1 v1 w2⟩
 ·exact⟨Jz,Sz,Hz,F,J,S,Y,Ω,R,.error x,_,e1,trivial⟩
def jlg(ha:ME X O a fa)(he:∀ whole,isTrue a X.env whole=(do let v <- whole;standAt a.pos;holding [v] (truthy v)):=by exact fun _=>rfl):MT X O a (mTru fa):=by
 rintro U s Z H Q I ⟨Jz,Sz,Hz,F,J,S,Y,Ω,R,r,Ω',hf,k⟩;refine jsg ha he U s Z H Q I ?_;rcases MS.b_inv hf with ⟨x,Ω1,e1,hf⟩|⟨x,e1,rfl⟩
 ·refine⟨Jz,Sz,Hz,F,J,S,Y,Ω,R,.ok x,Ω1,e1,fun u ρ1 S1 H1 R1 l1 v1 r1=>?_⟩;obtain⟨z,hz,rfl,rfl⟩:=MS.o_inv hf;refine⟨z,?_,k ρ1 S1 H1 R1 l1 v1⟩
  cases x with
  | non=>cases hz;rw[rep_non.mp r1];rfl
  | bl y=>cases hz;rw[rep_bl.mp r1];rfl
  | int i=>cases hz;rw[rep_int.mp r1];rfl
  | str y =>
   by_cases hl:y.length<=sizeLine
   ·have e:truD (.str y)=some ((y.length:Int) != 0):=if_pos hl;rw[e] at hz;cases hz
    rw[rep_str.mp r1];exact⟨hl,rfl⟩
   ·have e:truD (.str y)=none:=if_neg hl;rw[e] at hz;cases hz
  | tup ds =>
   cases hz;obtain⟨q,xs,rfl,q2,q3⟩:=rep_tup.mp r1;exact .inr (.inl ⟨xs,jeb jay q2,by rw[isE q3]⟩)
  | lst ds =>
   cases hz;obtain⟨q,xs,rfl,q2,q3⟩:=rep_lst.mp r1;exact .inl ⟨xs,je5 jay q2,by rw[isE q3]⟩
  | ty n=>cases hz
  | obj n=>cases hz
 ·exact⟨Jz,Sz,Hz,F,J,S,Y,Ω,R,.error x,_,e1,trivial⟩
def jpg(ha:MT X O a ta):MT X O (.UnaryOp .Not a pos) (mNot ta):=by
 rintro U s Z H Q I ⟨Jz,Sz,Hz,F,J,S,Y,Ω,R,r,Ω',hf,k⟩;refine jAf ha U s Z H Q I ?_;rcases MS.b_inv hf with ⟨x,Ω1,e1,hf⟩|⟨x,e1,rfl⟩
 ·cases hf;exact⟨Jz,Sz,Hz,F,J,S,Y,Ω,R,.ok x,_,e1,fun ρ1 S1 H1 R1 l1 v1=>k ρ1 S1 H1 R1 l1 v1⟩
 ·exact⟨Jz,Sz,Hz,F,J,S,Y,Ω,R,.error x,_,e1,trivial⟩
def MW.mt{f:DSt->MS Bool}(h:MW X O e f):MT X O e f:=PW.pt h
def jz3(ha:MT X O a ta):MW X O (.BoolOp .Or [a] pos) ta:=jAg ha
def jFr{rest:List Expr}(ha:MT X O a ta)(hb:MW X O (.BoolOp .Or (b::rest) pos) tb):MW X O (.BoolOp .Or (a::b::rest) pos) (mOr ta tb):=by
 rintro wh U s Z H Q I ⟨Jz,Sz,Hz,F,J,S,Y,Ω,R,r,Ω',hf,k⟩;refine jGd ha hb wh U s Z H Q I ?_;rcases MS.b_inv hf with ⟨x,Ω1,e1,hf⟩|⟨x,e1,rfl⟩
 ·refine⟨Jz,Sz,Hz,F,J,S,Y,Ω,R,.ok x,Ω1,e1,fun ρ1 S1 H1 R1 l1 v1=>?_⟩
  cases x with
  | true=>cases hf;exact iteT (k ρ1 S1 H1 R1 l1 v1)
  | false =>
   refine iteF ⟨Jz,Sz,Hz,F,ρ1,S1,Y,Ω1,R1,r,Ω',hf,?_⟩
   cases r with
   | ok d=>exact fun ρ2 S2 H2 R2 l2 v2=>k ρ2 S2 H2 R2 (l1.trans l2) (v1.trans v2)
   | error y=>trivial
 ·exact⟨Jz,Sz,Hz,F,J,S,Y,Ω,R,.error x,_,e1,trivial⟩
end
structure RT(Jz:Rho)(Sz:qd)(Hz:Hp)(F:qd)(K:W.Frag)(mg:qa)(J:Rho)(S:qd)(H:Hp)(Ω:Sto):Prop where
 rho:RLe Jz J
 same:∀ b o,Sz b=false->Hz b=some o->H b=some o
 old:∀ b,Sz b=true->S b=true
 new:∀ b,S b=true->Sz b=true\/Hz b=none
 ff:∀ b,F b=true->S b=false
 sto:StoOk J S K mg H (hid H (un F S)) Ω
section
variable {Jz J:Rho}{Sz S F:qd}{Hz H H':Hp}{K:W.Frag}{mg:qa}{O O':List Nat}{Z Z':St}{Y Y':DSt}{Ω:Sto}
def jgw{Z:St}{O:List Nat}{F:qd}:∀ b,F b=true->fob F Z O b=true:=fun b h=>fob_t.mpr (.inl h)
def RM.rt(R:RM Jz Sz Hz F K mg O J S H Z Y Ω):RT Jz Sz Hz F K mg J S H Ω :=
 ⟨R.rho,R.same,R.old,R.new,R.ff,R.sto.mono (fun _ _=>rfl) (jfk jgw) (jw4 R.sto.tv (jfk jgw))⟩
def RM.base_some(R:RM Jz Sz Hz F K mg O J S H Z Y Ω){b:Addr}{o:HO}(h:H b=some o)(hn:¬ ∃ i∈O,Z[i]? = some (some (.ref b))):hid H (fob nof Z O) b=some o :=
 hid_some.mpr ⟨by cases e:fob nof Z O b with
  | false=>rfl
  | true=>rcases fob_t.mp e with q|q;cases q;exact absurd q hn,h⟩
def RM.base_S(R:RM Jz Sz Hz F K mg O J S H Z Y Ω){b:Addr}(hb:S b=true):¬ ∃ i∈O,Z[i]? = some (some (.ref b)):=by
 rintro⟨i,hi,q⟩;obtain⟨a,xs,ds,q1,q2,q3,q4,q5⟩:=R.rs.own i hi;rw[q] at q2;cases q2
 rw[(un_f.mp q4.2).2] at hb;cases hb
def RM.base_0(R:RM Jz Sz Hz F K mg O J S H Z Y Ω){b:Addr}{o:HO}(hb:Hz b=some o):¬ ∃ i∈O,Z[i]? = some (some (.ref b)):=by
 rintro⟨i,hi,q⟩;rw[R.own0 i hi b q] at hb;cases hb
def RM.no_tup(R:RM Jz Sz Hz F K mg O J S H Z Y Ω)(s:Same (hid H (fob nof Z O)) H'){b:Addr}{xs:List V}(hb:un F S b=true):H' b≠some (.tup xs):=fun q=>by
 cases e:H b with
 | none=>exact R.rs.fin b hb e
 | some o =>
  have:=s b o (R.base_some e fun ⟨i,hi,y⟩=>by
   obtain⟨a,xs,ds,q1,q2,q3,q4,q5⟩:=R.rs.own i hi;rw[y] at q2;cases q2
   rw[q4.2] at hb;cases hb)
  rw[q] at this;cases this;have:=(hid_some.mp (R.sto.tv b xs e)).1;rw[jgw b hb] at this;cases this
def RM.next(R:RM Jz Sz Hz F K mg O J S H Z Y Ω)(R':RS J K (hid H (fob nof Z O)) H' (un F S) O' Z' Y')(v:Same (hid H (fob (un F S) Z O)) (hid H' (fob (un F S) Z' O'))):RM Jz Sz Hz F K mg O' J S H' Z' Y' Ω:=by
 refine⟨R'.rebase,R.rho,fun b o h1 h2=>R'.same b o (R.base_some (R.same b o h1 h2) (R.base_0 h2)),R.old,R.new,fun i hi a q=>?_,R.ff,R.sto.mono (fun b hb=>?_) v fun b xs q=>hid_some.mpr ⟨?_,q⟩⟩
 ·obtain⟨a',xs,ds,q1,q2,q3,q4,q5⟩:=R'.own i hi;rw[q] at q2;cases q2
  have h0:=q4.1
  cases e:H a with
  | none=>exact R.fresh00 e
  | some o =>
   by_cases hn:∃ i∈O,Z[i]? = some (some (.ref a))
   ·obtain⟨j,hj,z⟩:=hn;exact R.own0 j hj a z
   ·rw[R.base_some e hn] at h0;cases h0
 ·cases e:H b with
  | none=>exact absurd e (R.sto.fin b hb)
  | some o=>exact R'.same b o (R.base_some e (R.base_S hb))
 ·cases z:fob (un F S) Z' O' b with
  | false=>rfl
  | true =>
   rcases fob_t.mp z with z|⟨i,hi,z⟩
   ·exact absurd q (R.no_tup R'.same z)
   ·obtain⟨a,xs,ds,q1,q2,q3,q4,q5⟩:=R'.own i hi;rw[z] at q2;cases q2
    rw[q3] at q;cases q
def RM.left(R:RM Jz Sz Hz F K mg O J S H Z Y Ω)(s:Same (hid H (fob nof Z O)) H'):RT Jz Sz Hz F K mg J S H' Ω:=by
 refine⟨R.rho,fun b o h1 h2=>s b o (R.base_some (R.same b o h1 h2) (R.base_0 h2)),R.old,R.new,R.ff,R.sto.mono (fun b hb=>?_) (fun b o q=>?_) fun b xs q=>hid_some.mpr ⟨?_,q⟩⟩
 ·cases e:H b with
  | none=>exact absurd e (R.sto.fin b hb)
  | some o=>exact s b o (R.base_some e (R.base_S hb))
 ·obtain⟨q1,q2⟩:=hid_some.mp q;refine hid_some.mpr ⟨?_,s b o (R.base_some q2 fun hn=>?_)⟩
  ·cases e:un F S b with
   | false=>rfl
   | true=>rw[jgw b e] at q1;cases q1
  ·rw[fob_t.mpr (.inr hn)] at q1;cases q1
 ·cases z:un F S b with
  | false=>rfl
  | true=>exact absurd q (R.no_tup s z)
end
def OkE(K:W.Frag)(mg:qa)(O' B:List Nat)(Jz:Rho)(Sz:qd)(Hz:Hp)(F:qd)(J:Rho)(Hv:Hp)(Dn:Ends):Except XD Out->Sto->Prop
 | .ok (.nx Y'),Ω'=>∀ J' S' Z' H',RM Jz Sz Hz F K mg O' J' S' H' Z' Y' Ω'->RLe J J'->Same Hv (hid H' (fob (un F S') Z' O'))->Dn.nx Z' H'
 | .ok (.rt d),Ω'=>∀ v J' S' H',RT Jz Sz Hz F K mg J' S' H' Ω'->Rep J' K (hid H' (un F S')) d v->Dn.rt v H'
 | .ok (.bk Y'),Ω'=>∀ J' S' Z' H',RM Jz Sz Hz F K mg B J' S' H' Z' Y' Ω'->RLe J J'->Same Hv (hid H' (fob (un F S') Z' B))->Dn.bk Z' H'
 | .ok (.ct Y'),Ω'=>∀ J' S' Z' H',RM Jz Sz Hz F K mg B J' S' H' Z' Y' Ω'->RLe J J'->Same Hv (hid H' (fob (un F S') Z' B))->Dn.ct Z' H'
 | .error _,_=>True
def OkE.back{K:W.Frag}{mg:qa}{O' B:List Nat}{Jz J J':Rho}{Sz:qd}{Hz:Hp}{F:qd}{Hv Hv':Hp}{Dn:Ends}{r:Except XD Out}{Ω':Sto}(l:RLe J J')(e:Same Hv Hv')(h:OkE K mg O' B Jz Sz Hz F J Hv Dn r Ω') :
  OkE K mg O' B Jz Sz Hz F J' Hv' Dn r Ω':=by
 cases r with
 | error x=>trivial
 | ok o =>
  cases o with
  | nx Y'=>exact fun ρ1 S1 Z1 H1 R l1 v1=>h ρ1 S1 Z1 H1 R (l.trans l1) (e.trans v1)
  | bk Y'=>exact fun ρ1 S1 Z1 H1 R l1 v1=>h ρ1 S1 Z1 H1 R (l.trans l1) (e.trans v1)
  | ct Y'=>exact fun ρ1 S1 Z1 H1 R l1 v1=>h ρ1 S1 Z1 H1 R (l.trans l1) (e.trans v1)
  | rt d=>exact h
inductive sE(K:W.Frag)(mg:qa)(O O' B:List Nat)(g:DSt->MS Out)(Dn:Ends)(Z:St)(H:Hp):Prop
 | mk (Jz:Rho) (Sz:qd) (Hz:Hp) (F:qd) (J:Rho) (S:qd) (Y:DSt) (Ω:Sto) (R:RM Jz Sz Hz F K mg O J S H Z Y Ω) (r:Except XD Out) (Ω':Sto) (hf:g Y Ω=some (r,Ω')) (k:OkE K mg O' B Jz Sz Hz F J (hid H (fob (un F S) Z O)) Dn r Ω')
def MSt(X:Cx)(O O' B:List Nat)(st:Stmt)(g:DSt->MS Out):Prop:=PS X st (sE X.K X.mg O O' B g)
def MSs(X:Cx)(O O' B:List Nat)(st:List Stmt)(g:DSt->MS Out):Prop:=PSs X st (sE X.K X.mg O O' B g)
def eNx:DSt->MS Out:=fun Y=>MS.p (.nx Y)
def eSeq(g1 g2:DSt->MS Out):DSt->MS Out:=fun Y=>(g1 Y).b fun o=>match o with
 | .nx Y'=>g2 Y'
 | o=>MS.p o
def eSet(i:Nat)(f:DSt->MS D):DSt->MS Out:=fun Y=>(f Y).b fun d=>MS.p (.nx (Y.set i (some d)))
def eRet(f:DSt->MS D):DSt->MS Out:=fun Y=>(f Y).b fun d=>MS.p (.rt d)
def jqg(f:DSt->MS D):DSt->MS Out:=fun Y=>(f Y).b fun _=>MS.p (.nx Y)
def eIf(t:DSt->MS Bool)(g1 g2:DSt->MS Out):DSt->MS Out:=fun Y=>(t Y).b fun b=>if b=true then g1 Y else g2 Y
def eApp(i:Nat)(f:DSt->MS D):DSt->MS Out:=fun Y=>(f Y).b fun d=>match (Y[i]?).join with
 | some (.lst ds)=>if ds.length<sizeLine then MS.p (.nx (Y.set i (some (.lst (ds++[d]))))) else fun _=>none
 | _=>fun _=>none
def ePop(i j:Nat):DSt->MS Out:=fun Y=>match (Y[j]?).join with
 | some (.lst ds)=>match ds[ds.length-1]? with
  | some d=>MS.p (.nx ((Y.set j (some (.lst ds.dropLast))).set i (some d)))
  | none=>fun _=>none
 | _=>fun _=>none
def putO(cs:List Str)(f:Str)(x d:D):MS Unit:=fun Ω=>match x with
 | .obj i=>match Ω[i]? with
  | some (.ins c fs)=>if (cs.contains c&&decide (fs.length<1000))=true then some (.ok (),Ω.set i (.ins c (putD f d fs))) else none
  | _=>none
 | _=>none
def ePut(cs:List Str)(f:Str)(fo fv:DSt->MS D):DSt->MS Out:=fun Y=>(fv Y).b fun d=>(fo Y).b fun x=>(putO cs f x d).b fun _=>MS.p (.nx Y)
def forE(g:DSt->MS Out)(tg:D->DSt->Option DSt):List D->DSt->MS Out
 | [],Y=>MS.p (.nx Y)
 | d::ds,Y=>match tg d Y with
  | none=>fun _=>none
  | some Y1=>(g Y1).b fun o=>match o with
   | .nx Y'=>forE g tg ds Y'
   | .ct Y'=>forE g tg ds Y'
   | .bk Y'=>MS.p (.nx Y')
   | .rt v=>MS.p (.rt v)
def eFor(fi:DSt->MS (List D))(tg:D->DSt->Option DSt)(g:DSt->MS Out):DSt->MS Out:=fun Y=>(fi Y).b fun ds=>forE g tg ds Y
def jej(t:DSt->MS Bool)(g:DSt->MS Out):Nat->DSt->MS Out
 | 0,_=>fun _=>none
 | n+1,Y=>(t Y).b fun b=>if b=true then (g Y).b fun o=>match o with
   | .nx Y'=>jej t g n Y'
   | .ct Y'=>jej t g n Y'
   | .bk Y'=>MS.p (.nx Y')
   | .rt v=>MS.p (.rt v)
  else MS.p (.nx Y)
section
variable {X:Cx}{O O' O'' B:List Nat}{c e:Expr}{es:List Expr}{fa:DSt->MS D}{fl:DSt->MS (List D)}{pos:Pos}{st:Stmt}{rest:List Stmt}{g g1 g2:DSt->MS Out}{tc:DSt->MS Bool}
def jbj{h:DSt->M Out}(hd:DS X O O' B E0 st h):MSt X O O' B st (lF h):=by
 rintro U s Z H Dn I ⟨Jz,Sz,Hz,F,J,S,Y,Ω,R,r,Ω',hf,k⟩;obtain⟨hg,rfl⟩:=MS.l_inv hf;refine hd U s Z H Dn I ⟨J,_,un F S,Y,r,R.rs,hg,?_⟩
 cases r with
 | error x=>exact fun c dx H' _ z=>z.elim
 | ok o =>
  cases o with
  | nx Y'=>exact fun Z' H' v R'=>k J S Z' H' (R.next R' v) (RLe.refl _) v
  | bk Y'=>exact fun Z' H' v R'=>k J S Z' H' (R.next R' v) (RLe.refl _) v
  | ct Y'=>exact fun Z' H' v R'=>k J S Z' H' (R.next R' v) (RLe.refl _) v
  | rt d=>exact fun v H' s' rv=>k v J S H' (R.left s') rv
def jfd:MSs X O O B [] eNx:=by
 rintro U s Z H Dn I ⟨Jz,Sz,Hz,F,J,S,Y,Ω,R,r,Ω',hf,k⟩;cases hf;exact jwa U s Z H Dn I (k J S Z H R (RLe.refl _) (Same.refl _))
def jbm(h1:MSt X O O' B st g1)(h2:MSs X O' O'' B rest g2):MSs X O O'' B (st::rest) (eSeq g1 g2):=by
 rintro U s Z H Dn I ⟨Jz,Sz,Hz,F,J,S,Y,Ω,R,r,Ω',hf,k⟩;refine jod h1 h2 U s Z H Dn I ?_;rcases MS.b_inv hf with ⟨o,Ω1,e1,hf⟩|⟨x,e1,rfl⟩
 ·refine⟨Jz,Sz,Hz,F,J,S,Y,Ω,R,.ok o,Ω1,e1,?_⟩
  cases o with
  | nx Y'=>exact fun ρ1 S1 Z1 H1 R1 l1 v1=>⟨Jz,Sz,Hz,F,ρ1,S1,Y',Ω1,R1,r,Ω',hf,k.back l1 v1⟩
  | rt d=>cases hf;exact k
  | bk Y'=>cases hf;exact k
  | ct Y'=>cases hf;exact k
 ·exact⟨Jz,Sz,Hz,F,J,S,Y,Ω,R,.error x,_,e1,trivial⟩
def jcv(h1:MSt X O O' B st g):MSs X O O' B [st] g:=fun U s Z H Dn I h=>joe h1 U s Z H Dn I h
def jFn{i:Nat}{x:Str}{pos':Pos}(hN:X.N.Nodup)(he:ME X O e fa)(ho:O.contains i=false:=by rfl)(hi:X.N[i]? = some x:=by rfl)(hx:Loc X.env.scope x:=by first|exact Or.inl rfl|exact Or.inr rfl)(hs:swapsWith e (some (.Name x pos')) pos.line X.env=pure false:=by rfl)
  (hf:X.fn x=true\/X.env.scope.names.lookup x=some .local:=by first|exact .inl rfl|exact .inr rfl|assumption):MSt X O O B (.Assign [.Name x pos'] e pos) (eSet i fa):=by
 rintro U s Z H Dn I ⟨Jz,Sz,Hz,F,J,S,Y,Ω,R,r,Ω',hg,k⟩;have ho':i∉O:=fun z=>by rw[zbc.mpr z] at ho;cases ho
 refine jlq hN hi hx he hs hf U s Z H Dn I ?_;rcases MS.b_inv hg with ⟨d,Ω1,e1,hg⟩|⟨x,e1,rfl⟩
 ·cases hg;exact⟨Jz,Sz,Hz,F,J,S,Y,Ω,R,.ok d,_,e1,fun v ρ1 S1 H1 R1 l1 v1 r1=>k ρ1 S1 _ H1 (R1.set ho' r1) l1 (by rw[jbr ho'];exact v1)⟩
 ·exact⟨Jz,Sz,Hz,F,J,S,Y,Ω,R,.error x,_,e1,trivial⟩
def jFl{i:Nat}{x:Str}{pos' pos2:Pos}(hN:X.N.Nodup)(h:MA X O es fl)(ho:O.contains i=false:=by rfl)(hi:X.N[i]? = some x:=by rfl)(hx:Loc X.env.scope x:=by first|exact Or.inl rfl|exact Or.inr rfl)(hs:swapsWith (.List es pos2) (some (.Name x pos')) pos.line X.env=pure false:=by rfl)
  (hf:X.fn x=true\/X.env.scope.names.lookup x=some .local:=by first|exact .inl rfl|exact .inr rfl|assumption):MSt X O (i::O) B (.Assign [.Name x pos'] (.List es pos2) pos) (eSet i (mL ja2 fl)):=by
 rintro U s Z H Dn I ⟨Jz,Sz,Hz,F,J,S,Y,Ω,R,r,Ω',hg,k⟩;have ho':i∉O:=fun z=>by rw[zbc.mpr z] at ho;cases ho
 have hl:i<Y.length:=by rw[<- R.rs.len,I.len];exact (zbb.mp hi).1
 refine jlq hN hi hx (jsc h) hs hf U s Z H Dn I ?_;rcases MS.b_inv hg with ⟨d,Ω1,e1,hg⟩|⟨x,e1,rfl⟩
 ·cases hg;rcases MS.b_inv e1 with ⟨ds,Ω2,e1,hd⟩|⟨x,e1,z⟩
  ·refine⟨Jz,Sz,Hz,F,J,S,Y,Ω,R,.ok ds,_,e1,fun vs ρ1 S1 H1 R1 l1 v1 r1=>?_⟩;obtain⟨d',hd',z,w⟩:=MS.o_inv hd;cases z;cases w;unfold ja2 at hd'
   split at hd'
   ·rename_i hz;cases hd';refine⟨by rw[r1.length];exact hz,fun p hp=>?_⟩;obtain⟨t1,t2⟩:=R1.take ho' hl hp r1;exact k ρ1 S1 _ _ t1 l1 (v1.trans t2)
   ·cases hd'
  ·cases z
 ·rcases MS.b_inv e1 with ⟨ds,Ω2,e1,hd⟩|⟨y,e1,z⟩
  ·obtain⟨_,_,z,_⟩:=MS.o_inv hd;cases z
  ·cases z;exact⟨Jz,Sz,Hz,F,J,S,Y,Ω,R,.error _,_,e1,trivial⟩
def jr7(he:ME X O e fa):MSt X O O' B (.Return (some e) pos) (eRet fa):=by
 rintro U s Z H Dn I ⟨Jz,Sz,Hz,F,J,S,Y,Ω,R,r,Ω',hg,k⟩;refine jv9 he U s Z H Dn I ?_;rcases MS.b_inv hg with ⟨d,Ω1,e1,hg⟩|⟨x,e1,rfl⟩
 ·cases hg;exact⟨Jz,Sz,Hz,F,J,S,Y,Ω,R,.ok d,_,e1,fun v ρ1 S1 H1 R1 l1 v1 r1=>k v ρ1 S1 H1 R1.rt (r1.mono (jfk jgw))⟩
 ·exact⟨Jz,Sz,Hz,F,J,S,Y,Ω,R,.error x,_,e1,trivial⟩
def jCb(he:ME X O e fa)(hs:swapsWith e none pos.line X.env=pure false:=by rfl):MSt X O O B (.Expr e pos) (jqg fa):=by
 rintro U s Z H Dn I ⟨Jz,Sz,Hz,F,J,S,Y,Ω,R,r,Ω',hg,k⟩;refine joc he hs U s Z H Dn I ?_;rcases MS.b_inv hg with ⟨d,Ω1,e1,hg⟩|⟨x,e1,rfl⟩
 ·cases hg;exact⟨Jz,Sz,Hz,F,J,S,Y,Ω,R,.ok d,_,e1,fun v ρ1 S1 H1 R1 l1 v1 r1=>k ρ1 S1 Z H1 R1 l1 v1⟩
 ·exact⟨Jz,Sz,Hz,F,J,S,Y,Ω,R,.error x,_,e1,trivial⟩
def jqw{s1 s2:List Stmt}(hc:MT X O c tc)(h1:MSs X O O' B s1 g1)(h2:MSs X O O' B s2 g2):MSt X O O' B (.If c s1 s2 pos) (eIf tc g1 g2):=by
 rintro U s Z H Dn I ⟨Jz,Sz,Hz,F,J,S,Y,Ω,R,r,Ω',hg,k⟩;refine jCz hc h1 h2 U s Z H Dn I ?_;rcases MS.b_inv hg with ⟨z,Ω1,e1,hg⟩|⟨x,e1,rfl⟩
 ·refine⟨Jz,Sz,Hz,F,J,S,Y,Ω,R,.ok z,_,e1,fun ρ1 S1 H1 R1 l1 v1=>?_⟩
  cases z with
  | true=>exact iteT ⟨Jz,Sz,Hz,F,ρ1,S1,Y,Ω1,R1,r,Ω',hg,k.back l1 v1⟩
  | false=>exact iteF ⟨Jz,Sz,Hz,F,ρ1,S1,Y,Ω1,R1,r,Ω',hg,k.back l1 v1⟩
 ·exact⟨Jz,Sz,Hz,F,J,S,Y,Ω,R,.error x,_,e1,trivial⟩
def jFj{i:Nat}{x:Str}{p1 p2 p3:Pos}(ho:O.contains i=true)(he:ME X O e fa)(hi:X.N[i]? = some x:=by rfl)(hv:Vis X.env.scope x:=by first|exact Or.inl rfl|exact Or.inr (Or.inl rfl)|exact Or.inr (Or.inr rfl))
  (hd:(x == ("__debug__":Str))=false:=by decide) (hcd:(x == ("__classdict__":Str))=false:=by decide) (hbase:attributeBase (.Name x p1) "append" X.env (eval (.Name x p1) X.env)=eval (.Name x p1) X.env:=by rfl)
  (hfew:((backTo p3 (starEach [e] X.env)).all (fun x=>!x.1)&&(backToKw p3 (keywordEach [] X.env)).all (fun x=>x.1.isSome)
   && decide ([e].length+([]:List Keyword).length+(if ([]:List Keyword).isEmpty then 0 else 1)<30))=true:=by rfl)
  (hline:(p2.endLine == p3.line)=true:=by rfl) (hs:starEach [e] X.env=[(false,eval e X.env)]:=by rfl) (hsw:swapsWith (.Call (.Attribute (.Name x p1) "append" p2) [e] [] p3) none pos.line X.env=pure false:=by rfl) :
  MSt X O O B (.Expr (.Call (.Attribute (.Name x p1) "append" p2) [e] [] p3) pos) (eApp i fa):=by
 rintro U s Z H Dn I ⟨Jz,Sz,Hz,F,J,S,Y,Ω,R,r,Ω',hg,k⟩;have ho':i∈O:=zbc.mp ho;obtain⟨l,xs0,ds0,q1,q2,q3,q4,q5⟩:=R.rs.own i ho';refine joc (jFx PySem.F.plainAttrs_list PySem.F.slot_list_append PySem.F.type_list_append jlf (jmu hi hv hd hcd) (je2 he jlo hs) hbase hfew hline hs rfl) hsw U s Z H Dn I ?_;refine⟨.ref l,q2,.inl ⟨rfl,_,SqL.of q3⟩,?_⟩;rcases MS.b_inv hg with ⟨d,Ω1,e1,hg⟩|⟨x,e1,rfl⟩
 ·refine⟨Jz,Sz,Hz,F,J,S,Y,Ω,R,.ok d,_,e1,fun v ρ1 S1 H1 R1 l1 v1 r1=>?_⟩;have hj:(Y[i]?).join=some (.lst ds0):=by rw[q1];rfl
  rw[hj] at hg;dsimp only at hg
  split at hg
  ·rename_i hz;cases hg;obtain⟨l',xs,ds,p1,p2,p3,p4,p5⟩:=R1.rs.own i ho';rw[q2] at p2;cases p2
   rw[q1] at p1;cases p1
   refine⟨l,xs,v,rfl,rfl,p3,by rw[p5.length];exact hz,?_⟩;refine k ρ1 S1 Z _ (R1.write ho' q2 (p5.append (Reps.cons r1 Reps.nil))) l1 ?_;rw[jgd (fob_t.mpr (.inr ⟨i,ho',q2⟩))];exact v1
  ·cases hg
 ·exact⟨Jz,Sz,Hz,F,J,S,Y,Ω,R,.error x,_,e1,trivial⟩
end
theorem Reps.dropLast{J:Rho}{K:W.Frag}{H:Hp}:∀ {ds:List D} {vs:List V},Reps J K H ds vs->Reps J K H ds.dropLast vs.dropLast
 | [],_,h=>by rw[reps_nil.mp h];exact Reps.nil
 | [d],_,h=>by
  obtain⟨v,r,rfl,_,t⟩:=reps_cons.mp h;rw[reps_nil.mp t];exact Reps.nil
 | d::e::ds,_,h=>by
  obtain⟨v,r,rfl,q,t⟩:=reps_cons.mp h;obtain⟨w,r2,rfl,q2,t2⟩:=reps_cons.mp t;exact Reps.cons q (Reps.dropLast (Reps.cons q2 t2))
section
variable {Jz J J':Rho}{Sz S S' F:qd}{Hz H H1 H':Hp}{K:W.Frag}{mg:qa}{O:List Nat}{Z:St}{Y:DSt}{Ω Ω':Sto}
def RS.updF{a:Addr}{o:HO}(R:RS J K H1 H F O Z Y)(h:F a=true):RS J K (hid (upd H a o) (fob nof Z O)) (upd H a o) F O Z Y:=by
 have hh:hid (upd H a o) (fob F Z O)=hid H (fob F Z O):=jgd (jgw a h);refine⟨R.len,jay,fun b hb=>jl2 (R.fin b hb),fun i d hd hi=>by rw[hh];exact R.val i d hd hi,fun i hi=>?_,R.nd⟩;obtain⟨l,xs,ds,q1,q2,q3,q4,q5⟩:=R.own i hi;have hl:l≠a:=by rintro rfl;rw[q4.2] at h;cases h
 refine⟨l,xs,ds,q1,q2,by rw[jal hl];exact q3,⟨?_,q4.2⟩,by rw[hh];exact q5⟩;unfold hid;rw[if_pos (fob_t.mpr (.inr ⟨i,hi,q2⟩))]
def RM.put(R:RM Jz Sz Hz F K mg O J S H Z Y Ω){i:Nat}{c f:Str}{fs:List (Str×D)}{a C dx:Addr}{vfs:List (Str×V)}{d:D}{v:V}(hi:Ω[i]? = some (.ins c fs))(ha:J i=some a)(hS:S a=true)(hC:mg c=some (.ref C))(hH:H a=some (.ins C dx vfs))
  (hdx:H dx=some (.own a)) (hSd:S dx=true) (hfl:Flds J K (hid H (fob (un F S) Z O)) fs vfs) (hr:Rep J K (hid H (fob (un F S) Z O)) d v) :
  RM Jz Sz Hz F K mg O J S (upd H a (.ins C dx (putF f v vfs))) Z Y (Ω.set i (.ins c (putD f d fs)))/\hid (upd H a (.ins C dx (putF f v vfs))) (fob (un F S) Z O)=hid H (fob (un F S) Z O):=by
 have hF:un F S a=true:=un_t.mpr (.inr hS);have hh:hid (upd H a (.ins C dx (putF f v vfs))) (fob (un F S) Z O)=hid H (fob (un F S) Z O):=jgd (jgw a hF);have il:i<Ω.length:=(zbb.mp hi).1;refine⟨⟨R.rs.updF hF,R.rho,fun b o h1 h2=>?_,R.old,R.new,R.own0,R.ff,?_⟩,hh⟩
 ·have hb:b≠a:=by
   rintro rfl;rcases R.new b hS with q|q
   ·rw[q] at h1;cases h1
   ·rw[q] at h2;cases h2
  rw[jal hb];exact R.same b o h1 h2
 ·rw[hh];refine⟨fun j so hj=>?_,R.sto.inj,fun j hj=>R.sto.top j (by simpa using hj),fun b hb=>jl2 (R.sto.fin b hb),jl1 R.sto.tv fun _ z=>nomatch z⟩
  by_cases hji:j=i
  ·subst hji;rw[zcz il] at hj;cases hj;have nd:dx≠a:=jCi hdx hH (fun z=>nomatch z);exact⟨a,ha,hS,C,dx,_,hC,jaq,by rw[jal nd];exact hdx,hSd,hfl.put hr⟩
  ·rw[zbw (Ne.symm hji)] at hj;obtain⟨a',q1,q2,q3⟩:=R.sto.ats j so hj;have ne:a'≠a:=by
    rintro rfl;exact hji (R.sto.inj j i a' q1 ha)
   refine⟨a',q1,q2,?_⟩
   cases so with
   | ins c' fs' =>
    obtain⟨C',dx',vfs',p1,p2,p3,p4,p5⟩:=q3;have nd:dx'≠a:=jCi p3 hH (fun z=>nomatch z);exact⟨C',dx',vfs',p1,by rw[jal ne];exact p2,by rw[jal nd];exact p3,p4,p5⟩
   | lst ds =>
    obtain⟨xs,p1,p2⟩:=q3;exact⟨xs,by rw[jal ne];exact p1,p2⟩
   | exc c j=>exact ExcOk.mono (fun _ _ z=>z) (jal ne) q3
   | xd fs =>
    obtain⟨vfs,p1,p2⟩:=q3;exact⟨vfs,by rw[jal ne];exact p1,p2⟩
def jfx:un (fob F Z O) S=fob (un F S) Z O:=by
 funext b
 unfold un fob;simp only;cases F b<;>cases S b<;>cases (ownA Z O).contains b<;>rfl
def RM.call(R:RM Jz Sz Hz F K mg O J S H Z Y Ω)(l:RLe J J')(sm:∀ b o,S b=false->H b=some o->H' b=some o)(old:∀ b,S b=true->S' b=true)(new:∀ b,S' b=true->S b=true\/H b=none)
  (ff:∀ b,fob F Z O b=true->S' b=false) (sto:StoOk J' S' K mg H' (hid H' (un (fob F Z O) S')) Ω') :
  RM Jz Sz Hz F K mg O J' S' H' Z Y Ω'/\Same (hid H (fob (un F S) Z O)) (hid H' (fob (un F S') Z O)):=by
 have keepS:∀ b o,S b=false->H b=some o->S' b=false:=fun b o h1 h2=>by
  cases e:S' b with
  | false=>rfl
  | true =>
   rcases new b e with q|q
   ·rw[q] at h1;cases h1
   ·rw[q] at h2;cases h2
 have vis:Same (hid H (fob (un F S) Z O)) (hid H' (fob (un F S') Z O)):=fun b o q=>by
  obtain⟨q1,q2⟩:=hid_some.mp q;have hu:un F S b=false:=by
   cases e:un F S b with
   | false=>rfl
   | true=>rw[jgw b e] at q1;cases q1
  obtain⟨h1,h2⟩:=un_f.mp hu;refine hid_some.mpr ⟨?_,sm b o h2 q2⟩
  cases e:fob (un F S') Z O b with
  | false=>rfl
  | true =>
   rcases fob_t.mp e with z|z
   ·rcases un_t.mp z with z|z
    ·rw[h1] at z;cases z
    ·rw[keepS b o h2 q2] at z;cases z
   ·rw[fob_t.mpr (.inr z)] at q1;cases q1
 have rs:RS J' K (hid H' (fob nof Z O)) H' (un F S') O Z Y:=by
  refine⟨R.rs.len,jay,fun b hb=>?_,fun i d hd hi=>?_,fun i hi=>?_,R.rs.nd⟩
  ·rcases un_t.mp hb with q|q
   ·have h1:=R.rs.fin b (un_t.mpr (.inl q));intro z
    cases e:H b with
    | none=>exact h1 e
    | some o=>rw[sm b o (R.ff b q) e] at z;cases z
   ·exact sto.fin b q
  ·obtain⟨v,q1,q2⟩:=R.rs.val i d hd hi;exact⟨v,q1,(q2.rho l).mono vis⟩
  ·obtain⟨a,xs,ds,q1,q2,q3,q4,q5⟩:=R.rs.own i hi;have hS:=(un_f.mp q4.2).2;refine⟨a,xs,ds,q1,q2,sm a _ hS q3,⟨?_,un_f.mpr ⟨(un_f.mp q4.2).1,keepS a _ hS q3⟩⟩,(q5.rho l).mono vis⟩;unfold hid;rw[if_pos (fob_t.mpr (.inr ⟨i,hi,q2⟩))]
 refine⟨⟨rs,R.rho.trans l,fun b o h1 h2=>?_,fun b hb=>old b (R.old b hb),fun b hb=>?_,R.own0,fun b hb=>ff b (fob_t.mpr (.inl hb)),by rw[jfx] at sto;exact sto⟩,vis⟩
 ·have h3:=R.same b o h1 h2;refine sm b o ?_ h3
  cases e:S b with
  | false=>rfl
  | true =>
   rcases R.new b e with q|q
   ·rw[q] at h1;cases h1
   ·rw[q] at h2;cases h2
 ·rcases new b hb with q|q
  ·exact R.new b q
  ·exact .inr (R.fresh00 q)
def addR(J:Rho)(n:Nat)(x:Addr):Rho:=fun i=>if i=n then some x else J i
def addS(S:qd)(x dx:Addr):qd:=fun b=>S b || b == x || b == dx
def addS_t{S:qd}{x dx b:Addr}:addS S x dx b=true↔S b=true\/b=x\/b=dx:=by
 unfold addS;simp only[Bool.or_eq_true,beq_iff_eq,or_assoc]
def RM.make(R:RM Jz Sz Hz F K mg O J S H Z Y Ω){c:Str}{C x dx:Addr}(hC:mg c=some (.ref C))(hx:H x=none)(hdx:H dx=none)(ne:dx≠x) :
  RM Jz Sz Hz F K mg O (addR J Ω.length x) (addS S x dx) (upd (upd H dx (.own x)) x (.ins C dx [])) Z Y (Ω++[.ins c []])/\RLe J (addR J Ω.length x) /\
   Same (hid H (fob (un F S) Z O)) (hid (upd (upd H dx (.own x)) x (.ins C dx [])) (fob (un F (addS S x dx)) Z O)):=by
 have top:=R.sto.top Ω.length (zac _);have l:RLe J (addR J Ω.length x):=fun i a h=>by
  unfold addR
  by_cases e:i=Ω.length
  ·subst e;rw[top] at h;cases h
  ·rw[if_neg e];exact h
 have sm:Same H (upd (upd H dx (.own x)) x (.ins C dx [])):=(jbs hdx).trans (jbs (by rw[jal ne.symm];exact hx));have old:∀ b,S b=true->addS S x dx b=true:=fun b h=>addS_t.mpr (.inl h)
 have new:∀ b,addS S x dx b=true->S b=true\/H b=none:=fun b h=>by
  rcases addS_t.mp h with q|rfl|rfl
  ·exact .inl q
  ·exact .inr hx
  ·exact .inr hdx
 have ff:∀ b,fob F Z O b=true->addS S x dx b=false:=fun b h=>by
  have h2:fob (un F S) Z O b=true:=by rw[<- jfx];exact un_t.mpr (.inl h)
  cases e:addS S x dx b with
  | false=>rfl
  | true =>
   rcases addS_t.mp e with q|rfl|rfl
   ·rcases fob_t.mp h with z|z
    ·rw[R.ff b z] at q;cases q
    ·exact absurd z (R.base_S q)
   ·rw[R.fresh hx] at h2;cases h2
   ·rw[R.fresh hdx] at h2;cases h2
 have keep:∀ b,S b=true->(upd (upd H dx (.own x)) x (.ins C dx [])) b=H b:=R.at_store sm;have vis0:Same (hid H (fob (un F S) Z O)) (hid (upd (upd H dx (.own x)) x (.ins C dx [])) (un (fob F Z O) (addS S x dx))):=fun b o q=>by
  obtain⟨q1,q2⟩:=hid_some.mp q;refine hid_some.mpr ⟨?_,sm b o q2⟩
  cases e:un (fob F Z O) (addS S x dx) b with
  | false=>rfl
  | true =>
   rcases un_t.mp e with z|z
   ·have h2:fob (un F S) Z O b=true:=by rw[<- jfx];exact un_t.mpr (.inl z)
    rw[h2] at q1;cases q1
   ·rcases new b z with z|z
    ·have h2:fob (un F S) Z O b=true:=jgw b (un_t.mpr (.inr z));rw[h2] at q1;cases q1
    ·rw[z] at q2;cases q2
 have sto:StoOk (addR J Ω.length x) (addS S x dx) K mg (upd (upd H dx (.own x)) x (.ins C dx [])) (hid (upd (upd H dx (.own x)) x (.ins C dx [])) (un (fob F Z O) (addS S x dx))) (Ω++[.ins c []]):=by
  refine⟨fun i so hi=>?_,fun i j a h1 h2=>?_,fun i hi=>?_,fun b hb=>?_,jw4 (jl1 (jl1 R.sto.tv fun _ z=>nomatch z) fun _ z=>nomatch z) vis0⟩
  ·by_cases h:i<Ω.length
   ·rw[List.getElem?_append_left h] at hi;obtain⟨a,q1,q2,q3⟩:=R.sto.ats i so hi;refine⟨a,l i a q1,old a q2,?_⟩
    cases so with
    | ins c' fs' =>
     obtain⟨C',dx',vfs',p1,p2,p3,p4,p5⟩:=q3;exact⟨C',dx',vfs',p1,by rw[keep a q2];exact p2,by rw[keep dx' p4];exact p3,old _ p4,p5.mono l vis0⟩
    | lst ds =>
     obtain⟨xs,p1,p2⟩:=q3;exact⟨xs,by rw[keep a q2];exact p1,(p2.rho l).mono vis0⟩
    | exc c j=>exact ExcOk.mono l (keep a q2) q3
    | xd fs =>
     obtain⟨vfs,p1,p2⟩:=q3;exact⟨vfs,by rw[keep a q2];exact p1,p2.mono l vis0⟩
   ·have e:i=Ω.length:=by
     have:=(zbb.mp hi).1;simp at this;omega
    subst e;rw[List.getElem?_append_right (zac _),Nat.sub_self] at hi;cases hi;exact⟨x,by unfold addR;rw[if_pos rfl],addS_t.mpr (.inr (.inl rfl)),C,dx,[],hC,jaq,by rw[jal ne,jaq],addS_t.mpr (.inr (.inr rfl)),rfl⟩
  ·have fresh:∀ i a,i≠Ω.length->J i=some a->a≠x:=fun i a hi h z=>by
    subst z;have il:i<Ω.length:=by
     by_cases q:i<Ω.length
     ·exact q
     ·rw[R.sto.top i (by omega)] at h;cases h
    obtain⟨a',q1,q2,_⟩:=R.sto.ats i _ (zax il);rw[h] at q1;cases q1
    exact R.sto.fin a q2 hx
   unfold addR at h1 h2
   by_cases e1:i=Ω.length
   ·by_cases e2:j=Ω.length
    ·rw[e1,e2]
    ·rw[if_pos e1] at h1;rw[if_neg e2] at h2
     cases h1;exact absurd rfl (fresh j _ e2 h2)
   ·by_cases e2:j=Ω.length
    ·rw[if_neg e1] at h1;rw[if_pos e2] at h2
     cases h2;exact absurd rfl (fresh i _ e1 h1)
    ·rw[if_neg e1] at h1;rw[if_neg e2] at h2
     exact R.sto.inj i j a h1 h2
  ·rw[zcb,List.length_singleton] at hi;unfold addR;rw[if_neg (by omega)];exact R.sto.top i (by omega)
  ·rcases addS_t.mp hb with q|rfl|rfl
   ·rw[keep b q];exact R.sto.fin b q
   ·rw[jaq];exact fun z=>nomatch z
   ·rw[jal ne,jaq];exact fun z=>nomatch z
 obtain⟨t1,t2⟩:=R.call l (fun b o _ h=>sm b o h) old new ff sto;exact⟨t1,l,t2⟩
end
inductive spE(K:W.Frag)(mg:qa)(n:Nat)(m:List D->MS D)(vs:List V)(H:Hp)(Q:VK)(E:XK):Prop
 | mk (hn:vs.length=n) (J:Rho) (S F:qd) (ds:List D) (Ω:Sto) (hF:∀ b,F b=true->H b≠none) (hS:∀ b,F b=true->S b=false) (hr:Reps J K (hid H (un F S)) ds vs) (hs:StoOk J S K mg H (hid H (un F S)) Ω) (r:Except XD D) (Ω':Sto) (hf:m ds Ω=some (r,Ω')) (k:match (generalizing:=false) r with
  | .ok d=>∀ v J' S' H',RLe J J'->(∀ b o,S b=false->H b=some o->H' b=some o)->(∀ b,S b=true->S' b=true)->(∀ b,S' b=true->S b=true\/H b=none)->(∀ b,F b=true->S' b=false)->StoOk J' S' K mg H' (hid H' (un F S')) Ω'->Rep J' K (hid H' (un F S')) d v->Q v H'
  | .error _=>True)
inductive MetX(P:Program)(w:World)(K:W.Frag)(mg:qa)(base:Heap)(k:Nat)(c x:Str)(n:Nat)(sp:Sp):Prop
 | mk (C f:Addr) (fd:FuncData) (ps:List Str) (h1:ps.length=n) (h2:mg c=some (.ref C)) (h3:Cls K C) (h4:Meth K C x f) (h5:Binds K fd ps []) (h6:FnOk P w K mg base CX0 k f fd ps sp)
inductive IniX(P:Program)(w:World)(K:W.Frag)(mg:qa)(base:Heap)(k:Nat)(c:Str)(n:Nat)(sp:Sp):Prop
 | mk (C f:Addr) (fd:FuncData) (ps:List Str) (h1:ps.length=n) (h2:mg c=some (.ref C)) (h3:Mk K C f) (h4:Binds K fd ps []) (h5:FnOk P w K mg base CX0 k f fd ps sp)
structure CalE(P:Program)(w:World)(K:W.Frag)(mg:qa)(base:Heap)(k:Nat)(x:Str)(n:Nat)(m:List D->MS D):Prop where
 ex:CalX P w K mg base k x n (spE K mg n m)
 ar:∀ ds Ω r,m ds Ω=some r->ds.length=n
structure MetE(P:Program)(w:World)(K:W.Frag)(mg:qa)(base:Heap)(k:Nat)(c x:Str)(n:Nat)(m:List D->MS D):Prop where
 ex:MetX P w K mg base k c x n (spE K mg n m)
 ar:∀ ds Ω r,m ds Ω=some r->ds.length=n
structure IniE(P:Program)(w:World)(K:W.Frag)(mg:qa)(base:Heap)(k:Nat)(c:Str)(n:Nat)(m:List D->MS D):Prop where
 ex:IniX P w K mg base k c n (spE K mg n m)
 ar:∀ ds Ω r,m ds Ω=some r->ds.length=n
def outE:Out->MS D
 | .rt d=>MS.p d
 | .nx _=>MS.p .non
 | _=>fun _=>none
def mirE(n N:Nat)(g:DSt->MS Out):List D->MS D:=fun ds=>if ds.length=n then (g (startD N ds)).b outE else fun _=>none
def jjw{n N:Nat}{g:DSt->MS Out}:∀ ds Ω r,mirE n N g ds Ω=some r->ds.length=n:=fun ds Ω r h=>by
 unfold mirE at h
 split at h
 ·assumption
 ·cases h
section
variable {P:Program}{w:World}{K:W.Frag}{mg:qa}{base:Heap}
def fn_E{x q:Str}{st:Stmt}{N ps:List Str}{k:Nat}{O':List Nat}{g:DSt->MS Out}{f:Addr}{fd:FuncData}(F:Fun K x q st f fd)(Sc:FnScope N ps (jad st))
  (hbody:∀ (f:Addr) (cdv:Value) (A:Around) (outer:List Env) (s:Shared) (H:Hp) (E:XK),Room k (A.deeper (PyProof.Rows.envOfC q (jad st) s.heap.objs.size f cdv)) ->
   MSs (cxOf CX0 P w K mg base N q (jad st) f cdv A outer s H E).nox [] O' [] (jaw st) g):FnOk P w K mg base CX0 (k+1) f fd ps (spE K mg ps.length (mirE ps.length N.length g)):=by
 refine F.ok Sc (fun vs H Q E h=>h.1) fun cdv A outer s H vs Q E hr h=>?_
 obtain⟨hl,J,S,F',ds,Ω,fin,ff,rp,sto,r,Ω',hmr,k0⟩:=h;refine⟨_,hbody f cdv A outer s H E hr,?_⟩;have hpl:ps.length<=N.length:=by have:=congrArg List.length Sc.pre;rw[List.length_take] at this;omega
 have hdl:ds.length=ps.length:=by rw[<- rp.length];exact hl
 unfold mirE at hmr;rw[if_pos hdl] at hmr;have R:RM J S H F' K mg [] J S H (L2.start N vs) (startD N.length ds) Ω:=by
  refine⟨⟨?_,jay,fun b hb=>?_,fun i d hd _=>?_,fun i hi=>absurd hi (by simp),fun i hi=>absurd hi (by simp)⟩,RLe.refl _,fun b o _ h=>h,fun b h=>h,fun b h=>.inl h,fun i hi=>absurd hi (by simp),ff,by rw[jf5];exact sto⟩
  ·simp[L2.start,startD,rp.length]
  ·rcases un_t.mp hb with z|z
   ·exact fin b z
   ·exact sto.fin b z
  ·obtain⟨v,e,rv⟩:=rp.get (jj3 hd);exact⟨v,jlz e,by rw[jf5];exact rv⟩
 rcases MS.b_inv hmr with ⟨o,Ω1,e1,hmr⟩|⟨y,e1,rfl⟩
 ·refine⟨J,S,H,F',J,S,_,Ω,R,.ok o,Ω1,e1,?_⟩
  cases o with
  | rt d =>
   cases hmr;exact fun v J' S' H' T rv=>k0 v J' S' H' T.rho T.same T.old T.new T.ff T.sto rv
  | nx Y =>
   cases hmr;exact fun J' S' Z' H' R' _ _=>k0 .non J' S' H' R'.rt.rho R'.rt.same R'.rt.old R'.rt.new R'.rt.ff R'.rt.sto (rep_non.mpr rfl)
  | bk Y=>cases hmr
  | ct Y=>cases hmr
 ·exact⟨J,S,H,F',J,S,_,Ω,R,.error y,_,e1,trivial⟩
def juc{x:Str}{st:Stmt}{N ps:List Str}{k:Nat}{O':List Nat}{g:DSt->MS Out}(hf:jb3 K mg x st ps)(S:FnScope N ps (jad st))
  (hbody:∀ (f:Addr) (cdv:Value) (A:Around) (outer:List Env) (s:Shared) (H:Hp) (E:XK),Room k (A.deeper (PyProof.Rows.envOfC x (jad st) s.heap.objs.size f cdv)) ->
   MSs (cxOf CX0 P w K mg base N x (jad st) f cdv A outer s H E).nox [] O' [] (jaw st) g):CalE P w K mg base (k+1) x ps.length (mirE ps.length N.length g):=by
 obtain⟨f,fd,hm,F,hb⟩:=hf;exact⟨⟨f,fd,ps,rfl,hm,F.kp,hb,fn_E F S hbody⟩,jjw⟩
structure MetAt(K:W.Frag)(mg:qa)(c x q:Str)(st:Stmt)(ps:List Str):Prop where
 ex:∃ C f fd,mg c=some (.ref C)/\Cls K C/\Meth K C x f/\Fun K x q st f fd/\Binds K fd ps []
structure IniAt(K:W.Frag)(mg:qa)(c q:Str)(st:Stmt)(ps:List Str):Prop where
 ex:∃ C f fd,mg c=some (.ref C)/\Mk K C f/\Fun K "__init__" q st f fd/\Binds K fd ps []
def jvj{c x q:Str}{st:Stmt}{N ps:List Str}{k:Nat}{O':List Nat}{g:DSt->MS Out}(hf:MetAt K mg c x q st ps)(S:FnScope N ps (jad st))
  (hbody:∀ (f:Addr) (cdv:Value) (A:Around) (outer:List Env) (s:Shared) (H:Hp) (E:XK),Room k (A.deeper (PyProof.Rows.envOfC q (jad st) s.heap.objs.size f cdv)) ->
   MSs (cxOf CX0 P w K mg base N q (jad st) f cdv A outer s H E).nox [] O' [] (jaw st) g):MetE P w K mg base (k+1) c x ps.length (mirE ps.length N.length g):=by
 obtain⟨C,f,fd,hm,hc,hM,F,hb⟩:=hf.ex;exact⟨⟨C,f,fd,ps,rfl,hm,hc,hM,hb,fn_E F S hbody⟩,jjw⟩
def jB0{c q:Str}{st:Stmt}{N ps:List Str}{k:Nat}{O':List Nat}{g:DSt->MS Out}(hf:IniAt K mg c q st ps)(S:FnScope N ps (jad st))
  (hbody:∀ (f:Addr) (cdv:Value) (A:Around) (outer:List Env) (s:Shared) (H:Hp) (E:XK),Room k (A.deeper (PyProof.Rows.envOfC q (jad st) s.heap.objs.size f cdv)) ->
   MSs (cxOf CX0 P w K mg base N q (jad st) f cdv A outer s H E).nox [] O' [] (jaw st) g):IniE P w K mg base (k+1) c ps.length (mirE ps.length N.length g):=by
 obtain⟨C,f,fd,hm,hM,F,hb⟩:=hf.ex;exact⟨⟨C,f,fd,ps,rfl,hm,hM,hb,fn_E F S hbody⟩,jjw⟩
def jB4{m:List D->MS D}{H:Hp}{a:Addr}{ns:List Int}{Ω':Sto}(hS:SqL K H a (ns.map V.int))(h:m [.lst (ns.map .int)] []=some (.ok (.bl true),Ω')):spE K mg 1 m [.ref a] H (fun v _=>v=.bl true) fun _ _ _=>False:=by
 refine⟨rfl,fun _=>none,fun _=>false,fun _=>false,[.lst (ns.map .int)],[],(fun b hb=>by cases hb),(fun b hb=>by cases hb),Reps.cons (rep_lst.mpr ⟨a,_,rfl,?_,reps_ints.mpr rfl⟩) Reps.nil,⟨fun i so hi=>by simp at hi,fun i j a h=>(nomatch h),fun i _=>rfl,(fun b hb=>by cases hb),fun _ _ q=>q⟩,_,_,h,fun v J' S' H' _ _ _ _ _ _ r=>rep_bl.mp r⟩;have:hid H (un (fun _=>false) fun _=>false)=H:=by funext b;rfl
 rw[this];exact hS
end
def jds(m:List D->MS D)(fl:DSt->MS (List D)):DSt->MS D:=fun Y=>(fl Y).b m
def jlc(m:List D->M D)(fl:DSt->MS (List D)):DSt->MS D:=fun Y=>(fl Y).b fun ds=>MS.l (m ds)
def jn3(c x:Str)(m:List D->MS D)(i:Nat)(fl:DSt->MS (List D))(Y:DSt):MS D:=fun Ω=>match Ω[i]? with
 | some (.ins c' fs)=>if c'=c/\fs.lookup x=none then ((fl Y).b fun ds=>m (.obj i::ds)) Ω else none
 | _=>none
def jkd(c x:Str)(m:List D->MS D)(fo:DSt->MS D)(fl:DSt->MS (List D)):DSt->MS D:=fun Y=>(fo Y).b fun o=>match o with
 | .obj i=>jn3 c x m i fl Y
 | _=>fun _=>none
def jtg(c:Str)(m:List D->MS D)(ds:List D):MS D:=fun Ω=>((m (.obj Ω.length::ds)).b fun d=>match d with
 | .non=>MS.p (.obj Ω.length)
 | _=>fun _=>none) (Ω++[.ins c []])
def jpf(c:Str)(m:List D->MS D)(fl:DSt->MS (List D)):DSt->MS D:=fun Y=>(fl Y).b fun ds=>jtg c m ds
section
variable {X:Cx}{O:List Nat}{b o e:Expr}{es:List Expr}{fo:DSt->MS D}{fl:DSt->MS (List D)}{pos p apos:Pos}{x c:Str}{k n:Nat}
variable {Jz J:Rho}{Sz S F:qd}{Hz H:Hp}{Z:St}{Y:DSt}{Ω Ω':Sto}
def jly{m:List D->MS D}{ds:List D}{vs:List V}{r:Except XD D}{Q:VK}{E:XK}(R:RM Jz Sz Hz F X.K X.mg O J S H Z Y Ω)(hl:ds.length=n)(hr:Reps J X.K (hid H (fob (un F S) Z O)) ds vs)(hm:m ds Ω=some (r,Ω'))
  (k:match (generalizing:=false) r with
   | .ok d=>∀ v J' S' H',RM Jz Sz Hz F X.K X.mg O J' S' H' Z Y Ω'->RLe J J'->Same (hid H (fob (un F S) Z O)) (hid H' (fob (un F S') Z O))->Rep J' X.K (hid H' (fob (un F S') Z O)) d v->Q v H'
   | .error _=>True):spE X.K X.mg n m vs H Q E:=by
 refine⟨by rw[hr.length];exact hl,J,S,fob F Z O,ds,Ω,fun b hb=>?_,fun b hb=>?_,by rw[jfx];exact hr,by rw[jfx];exact R.sto,r,Ω',hm,?_⟩
 ·intro z;have:=R.fresh z;rw[<- jfx,un_t.mpr (.inl hb)] at this;cases this
 ·rcases fob_t.mp hb with z|z
  ·exact R.ff b z
  ·cases e:S b with
   | false=>rfl
   | true=>exact absurd z (R.base_S e)
 ·cases r with
  | error x=>trivial
  | ok d =>
   intro v J' S' H' l sm old new ff sto rv;obtain⟨t1,t2⟩:=R.call l sm old new ff sto;rw[jfx] at rv;exact k v J' S' H' t1 l t2 rv
def jny{m:List D->MS D}(C:CalE X.prog X.w X.K X.mg X.base k x n m)(hr:Room k X.A)(ha:MA X O (e::es) fl)(hg:Gl X x:=by rfl)(hdb:(x == ("__debug__":Str))=false:=by decide)(he:zsE e es X.env:=by rfl)
  (hpl:zbT pos es X.env:=by rfl):ME X O (.Call (.Name x p) (e::es) [] pos) (jds m fl):=by
 obtain⟨f,fd,ps,hl,hm,hk,hb,G⟩:=C.ex;rintro U s Z H Q I ⟨Jz,Sz,Hz,F,J,S,Y,Ω,R,r,Ω',hf,k⟩;refine jn9 G hr hg hm hk hb .nil (fun _ _ _ _ _ _ _ z=>z.elim) ha hdb he hpl U s Z H Q I (E:=E0) ?_;rcases MS.b_inv hf with ⟨ds,Ω1,e1,hf⟩|⟨y,e1,rfl⟩
 ·refine⟨Jz,Sz,Hz,F,J,S,Y,Ω,R,.ok ds,Ω1,e1,fun vs ρ1 S1 H1 R1 l1 v1 r1=>?_⟩;show spE X.K X.mg n m (vs++[]) H1 Q E0;rw[List.append_nil];refine jly R1 (C.ar ds Ω1 _ hf) r1 hf ?_
  cases r with
  | error y=>trivial
  | ok d=>exact fun v ρ2 S2 H2 R2 l2 v2 r2=>k v ρ2 S2 H2 R2 (l1.trans l2) (v1.trans v2) r2
 ·exact⟨Jz,Sz,Hz,F,J,S,Y,Ω,R,.error y,_,e1,trivial⟩
def jnz{m:List D->M D}(C:Cal X.prog X.w X.K X.mg X.base k x n m)(hr:Room k X.A)(ha:MA X O (e::es) fl)(hg:Gl X x:=by rfl)(hdb:(x == ("__debug__":Str))=false:=by decide)(he:zsE e es X.env:=by rfl)
  (hpl:zbT pos es X.env:=by rfl):ME X O (.Call (.Name x p) (e::es) [] pos) (jlc m fl):=by
 obtain⟨f,fd,ps,hl,hm,hk,hb,G⟩:=C.ex;rintro U s Z H Q I ⟨Jz,Sz,Hz,F,J,S,Y,Ω,R,r,Ω',hf,k⟩;refine jn9 G hr hg hm hk hb .nil (fun _ _ _ _ _ _ _ z=>z.elim) ha hdb he hpl U s Z H Q I (E:=E0) ?_;rcases MS.b_inv hf with ⟨ds,Ω1,e1,hf⟩|⟨y,e1,rfl⟩
 ·refine⟨Jz,Sz,Hz,F,J,S,Y,Ω,R,.ok ds,Ω1,e1,fun vs ρ1 S1 H1 R1 l1 v1 r1=>?_⟩;show spD X.K n m (vs++[]) H1 Q E0;rw[List.append_nil];obtain⟨hg,rfl⟩:=MS.l_inv hf;refine⟨by rw[r1.length];exact C.ar ds r hg,ρ1,ds,r,fob (un F S1) Z O,fun b hb z=>?_,r1,hg,?_⟩
  ·rw[R1.fresh z] at hb;cases hb
  ·cases r with
   | ok d=>exact fun v H' s' rv=>k v ρ1 S1 H' (R1.mono s') l1 (v1.trans (jax s')) rv
   | error y=>exact fun c dx H' s' xr=>xr.elim
 ·exact⟨Jz,Sz,Hz,F,J,S,Y,Ω,R,.error y,_,e1,trivial⟩
def jn4{c x:Str}{m:List D->MS D}{fl:DSt->MS (List D)}{Y:DSt}{od:D}{Ω Ω':Sto}{r:Except XD D}(h:(match od with
   | .obj i=>jn3 c x m i fl Y
   | _=>fun _=>none:MS D) Ω=some (r,Ω')):∃ i fs,od=.obj i/\Ω[i]? = some (.ins c fs)/\fs.lookup x=none/\((fl Y).b fun ds=>m (.obj i::ds)) Ω=some (r,Ω'):=by
 cases od with
 | obj i =>
  have h2:jn3 c x m i fl Y Ω=some (r,Ω'):=h;unfold jn3 at h2
  cases hi:Ω[i]? with
  | none=>rw[hi] at h2;cases h2
  | some so =>
   rw[hi] at h2
   cases so with
   | lst _=>cases h2
   | exc _ _=>cases h2
   | xd _=>cases h2
   | ins c' fs =>
    dsimp only at h2
    by_cases hc:c'=c/\fs.lookup x=none
    ·rw[if_pos hc] at h2;obtain⟨rfl,hn⟩:=hc;exact⟨i,fs,rfl,hi,hn,h2⟩
    ·rw[if_neg hc] at h2;cases h2
 | _=>cases h
def jB9{pl:Sem Bool}{m:List D->MS D}(C:MetE X.prog X.w X.K X.mg X.base k c x n m)(hr:Room k X.A)(ho:ME X O o fo)(ha:MA X O (e::es) fl)(hst:zsE e es X.env:=by rfl)(hpl:zbT pos es X.env:=by rfl)
  (ht:eval (.Call (.Attribute o x apos) (e::es) [] pos) X.env=(do
   let ov <- eval o X.env
   standAt apos.atName
   let (f,first) <- holding [ov] (getMethod ov x pl)
   callWith pos f first (backTo pos (starEach (e::es) X.env)) (backToKw pos (keywordEach [] X.env))):=by rfl):ME X O (.Call (.Attribute o x apos) (e::es) [] pos) (jkd c x m fo fl):=by
 obtain⟨Ca,f,fd,ps,hl,hm,hc,hM,hb,G⟩:=C.ex;rintro U s Z H Q I ⟨Jz,Sz,Hz,F,J,S,Y,Ω,R,r,Ω',hf,k⟩;refine jv1 ho hc hM G hr hb .nil (fun _ _ _ _ _ _ _ z=>z.elim) ha hst hpl ht U s Z H Q I (E:=E0) ?_;rcases MS.b_inv hf with ⟨od,Ω1,e1,hf⟩|⟨y,e1,rfl⟩
 ·refine⟨Jz,Sz,Hz,F,J,S,Y,Ω,R,.ok od,Ω1,e1,fun v ρ1 S1 H1 R1 l1 v1 r1=>?_⟩;obtain⟨i,fs,rfl,hi,hno,hf2⟩:=jn4 hf;obtain⟨ad,q1,q2⟩:=rep_obj.mp r1;obtain⟨ad',p1,p2,C',dx,vfs,p3,p4,p5,p6,p7⟩:=R1.sto.ats i _ hi;rw[q1] at p1;cases p1
  rw[hm] at p3;cases p3
  refine⟨ad,dx,vfs,q2,p4,p7.none hno,?_⟩;rcases MS.b_inv hf2 with ⟨ds,Ω2,e2,hf3⟩|⟨y,e2,rfl⟩
  ·refine⟨Jz,Sz,Hz,F,ρ1,S1,Y,Ω1,R1,.ok ds,Ω2,e2,fun vs ρ2 S2 H2 R2 l2 v2 r2=>?_⟩;show spE X.K X.mg n m (v::(vs++[])) H2 Q E0;rw[List.append_nil];refine jly R2 (C.ar _ _ _ hf3) (Reps.cons ((r1.rho l2).mono v2) r2) hf3 ?_
   cases r with
   | error y=>trivial
   | ok d=>exact fun v' J3 S3 H3 R3 l3 v3 r3=>k v' J3 S3 H3 R3 (l1.trans (l2.trans l3)) (v1.trans (v2.trans v3)) r3
  ·exact⟨Jz,Sz,Hz,F,ρ1,S1,Y,Ω1,R1,.error y,_,e2,trivial⟩
 ·exact⟨Jz,Sz,Hz,F,J,S,Y,Ω,R,.error y,_,e1,trivial⟩
def jn0{pl:Sem Bool}{m:List D->MS D}(C:MetE X.prog X.w X.K X.mg X.base k c x n m)(hr:Room k X.A)(ho:ME X O o fo)
  (ht:eval (.Call (.Attribute o x apos) [] [] pos) X.env=(do
   let ov <- eval o X.env
   standAt apos.atName
   let (f,first) <- holding [ov] (getMethod ov x pl)
   callWith pos f first (backTo pos (starEach [] X.env)) (backToKw pos (keywordEach [] X.env))):=by rfl):ME X O (.Call (.Attribute o x apos) [] [] pos) (jkd c x m fo (lF fNil)):=by
 obtain⟨Ca,f,fd,ps,hl,hm,hc,hM,hb,G⟩:=C.ex;rintro U s Z H Q I ⟨Jz,Sz,Hz,F,J,S,Y,Ω,R,r,Ω',hf,k⟩;refine jyj ho hc hM G hr hb .nil (fun _ _ _ _ _ _ _ z=>z.elim) ht U s Z H Q I (E:=E0) ?_;rcases MS.b_inv hf with ⟨od,Ω1,e1,hf⟩|⟨y,e1,rfl⟩
 ·refine⟨Jz,Sz,Hz,F,J,S,Y,Ω,R,.ok od,Ω1,e1,fun v ρ1 S1 H1 R1 l1 v1 r1=>?_⟩;obtain⟨i,fs,rfl,hi,hno,hf2⟩:=jn4 hf;obtain⟨ad,q1,q2⟩:=rep_obj.mp r1;obtain⟨ad',p1,p2,C',dx,vfs,p3,p4,p5,p6,p7⟩:=R1.sto.ats i _ hi;rw[q1] at p1;cases p1
  rw[hm] at p3;cases p3
  refine⟨ad,dx,vfs,q2,p4,p7.none hno,?_⟩;have hf3:m [.obj i] Ω1=some (r,Ω'):=hf2;show spE X.K X.mg n m [v] H1 Q E0;refine jly R1 (C.ar _ _ _ hf3) (Reps.cons r1 Reps.nil) hf3 ?_
  cases r with
  | error y=>trivial
  | ok d=>exact fun v' J3 S3 H3 R3 l3 v3 r3=>k v' J3 S3 H3 R3 (l1.trans l3) (v1.trans v3) r3
 ·exact⟨Jz,Sz,Hz,F,J,S,Y,Ω,R,.error y,_,e1,trivial⟩
def jB8{m:List D->MS D}{Ca f:Addr}{vs:List V}{ds:List D}{r:Except XD D}{Q:VK}(hm:X.mg c=some (.ref Ca))(ar:∀ ds Ω r,m ds Ω=some r->ds.length=n)(R:RM Jz Sz Hz F X.K X.mg O J S H Z Y Ω)(hr:Reps J X.K (hid H (fob (un F S) Z O)) ds vs)(hf:jtg c m ds Ω=some (r,Ω'))
  (k:match (generalizing:=false) r with
   | .ok d=>∀ v J' S' H',RM Jz Sz Hz F X.K X.mg O J' S' H' Z Y Ω'->RLe J J'->Same (hid H (fob (un F S) Z O)) (hid H' (fob (un F S') Z O))->Rep J' X.K (hid H' (fob (un F S') Z O)) d v->Q v H'
   | .error _=>True):∀ x dx,H x=none->H dx=none->dx≠x->spE X.K X.mg n m (.ref x::vs) (upd (upd H dx (.own x)) x (.ins Ca dx [])) (fun v H2=>v=.non/\Q (.ref x) H2) E0:=by
 intro x dx hx hdx ne;obtain⟨t1,t2,t3⟩:=R.make (c:=c) hm hx hdx ne;have hob:Rep (addR J Ω.length x) X.K (hid (upd (upd H dx (.own x)) x (.ins Ca dx [])) (fob (un F (addS S x dx)) Z O)) (.obj Ω.length) (.ref x):=rep_obj.mpr ⟨x,by unfold addR;rw[if_pos rfl],rfl⟩;unfold jtg at hf;rcases MS.b_inv hf with ⟨d,Ω1,e1,hf⟩|⟨y,e1,rfl⟩
 ·refine jly t1 (ar _ _ _ e1) (Reps.cons hob ((hr.rho t2).mono t3)) e1 ?_;intro v ρ2 S2 H2 R2 l2 v2 r2
  cases d with
  | non =>
   cases hf;exact⟨rep_non.mp r2,k (.ref x) ρ2 S2 H2 R2 (t2.trans l2) (t3.trans v2) ((hob.rho l2).mono v2)⟩
  | _=>cases hf
 ·exact jly t1 (ar _ _ _ e1) (Reps.cons hob ((hr.rho t2).mono t3)) e1 trivial
def jvh{m:List D->MS D}(C:IniE X.prog X.w X.K X.mg X.base k c n m)(hr:Room (k+1) X.A)(ha:MA X O (e::es) fl)(hg:Gl X c:=by rfl)(hdb:(c == ("__debug__":Str))=false:=by decide)(he:zsE e es X.env:=by rfl)
  (hpl:zbT pos es X.env:=by rfl):ME X O (.Call (.Name c p) (e::es) [] pos) (jpf c m fl):=by
 obtain⟨Ca,f,fd,ps,hl,hm,hM,hb,G⟩:=C.ex;rintro U s Z H Q I ⟨Jz,Sz,Hz,F,J,S,Y,Ω,R,r,Ω',hf,k⟩;refine jCt hM G hr hg hm hb .nil (fun _ _ _ _ _ _ _ z=>z.elim) ha hdb he hpl U s Z H Q I (E:=E0) ?_;rcases MS.b_inv hf with ⟨ds,Ω1,e1,hf⟩|⟨y,e1,rfl⟩
 ·refine⟨Jz,Sz,Hz,F,J,S,Y,Ω,R,.ok ds,Ω1,e1,fun vs ρ1 S1 H1 R1 l1 v1 r1=>?_⟩
  try dsimp only
  rw[List.append_nil];refine jB8 (f:=f) hm C.ar R1 r1 hf ?_
  cases r with
  | error y=>trivial
  | ok d=>exact fun v ρ2 S2 H2 R2 l2 v2 r2=>k v ρ2 S2 H2 R2 (l1.trans l2) (v1.trans v2) r2
 ·exact⟨Jz,Sz,Hz,F,J,S,Y,Ω,R,.error y,_,e1,trivial⟩
end
inductive tEI(K:W.Frag)(mg:qa)(O:List Nat)(f:DSt->MS (List D))(Z:St)(H:Hp)(Rk:It->Hp->Prop):Prop
 | mk (Jz:Rho) (Sz:qd) (Hz:Hp) (F:qd) (J:Rho) (S:qd) (Y:DSt) (Ω:Sto) (R:RM Jz Sz Hz F K mg O J S H Z Y Ω) (r:Except XD (List D)) (Ω':Sto) (hf:f Y Ω=some (r,Ω')) (k:match (generalizing:=false) r with
  | .ok ds=>∀ Jq J' S' H',RM Jz Sz Hz F K mg O J' S' H' Z Y Ω'->RLe J J'->Same (hid H (fob (un F S) Z O)) (hid H' (fob (un F S') Z O))->ItD J' K Jq ds (hid H' (fob (un F S') Z O))->Rk Jq H'
  | .error _=>True)
def MI(X:Cx)(O:List Nat)(tg iter:Expr)(f:DSt->MS (List D)):Prop:=PI X tg iter (tEI X.K X.mg O f)
section
variable {X:Cx}{O B:List Nat}{b c e o iter tg:Expr}{fo fv:DSt->MS D}{fi:DSt->MS (List D)}{pos:Pos}{g:DSt->MS Out}{f:Str}{cs:List Str}
def jqu{f:DSt->M (List D)}(h:DI X O E0 tg iter f):MI X O tg iter (lF f):=by
 rintro U s Z H Q I ⟨Jz,Sz,Hz,F,J,S,Y,Ω,R,r,Ω',hf,k⟩;obtain⟨hg,rfl⟩:=MS.l_inv hf;refine h U s Z H Q I ⟨J,_,un F S,Y,r,R.rs,hg,?_⟩
 cases r with
 | ok d=>exact fun Jq H' s' it=>k Jq J S H' (R.mono s') (RLe.refl _) (jax s') it
 | error x=>exact fun c dx H' _ z=>z.elim
def jrw{cs:List Str}{f:Str}{x d:D}{Y:DSt}{Ω Ω':Sto}{r:Except XD Out}(h:((putO cs f x d).b fun _=>MS.p (.nx Y)) Ω=some (r,Ω')):∃ i cl fs,x=.obj i/\Ω[i]? = some (.ins cl fs)/\cs.contains cl=true/\fs.length<1000/\r=.ok (.nx Y)/\Ω'=Ω.set i (.ins cl (putD f d fs)):=by
 unfold MS.b putO at h
 cases x with
 | obj i =>
  dsimp only at h
  cases hi:Ω[i]? with
  | none=>rw[hi] at h;cases h
  | some so =>
   rw[hi] at h
   cases so with
   | lst _=>cases h
   | exc _ _=>cases h
   | xd _=>cases h
   | ins cl fs =>
    dsimp only at h
    by_cases hcl:(cs.contains cl&&decide (fs.length<1000))=true
    ·rw[if_pos hcl] at h;cases h;rw[Bool.and_eq_true,decide_eq_true_eq] at hcl;exact⟨i,cl,fs,rfl,hi,hcl.1,hcl.2,rfl,rfl⟩
    ·rw[if_neg hcl] at h;cases h
 | _=>cases h
def jje{pos':Pos}(hc:jxc X cs f)(ho:ME X O o fo)(hv:ME X O e fv)(hs:swapsWith e (some (.Attribute o f pos')) pos.line X.env=pure false:=by rfl):MSt X O O B (.Assign [.Attribute o f pos'] e pos) (ePut cs f fo fv):=by
 rintro U s Z H Dn I ⟨Jz,Sz,Hz,F,J,S,Y,Ω,R,r,Ω',hf,k⟩;refine jAe ho hv hs U s Z H Dn I ?_;rcases MS.b_inv hf with ⟨d,Ω1,e1,hf⟩|⟨x,e1,rfl⟩
 ·refine⟨Jz,Sz,Hz,F,J,S,Y,Ω,R,.ok d,Ω1,e1,fun v ρ1 S1 H1 R1 l1 v1 r1=>?_⟩;rcases MS.b_inv hf with ⟨x,Ω2,e2,hf⟩|⟨x,e2,rfl⟩
  ·refine⟨Jz,Sz,Hz,F,ρ1,S1,Y,Ω1,R1,.ok x,Ω2,e2,fun u ρ2 S2 H2 R2 l2 v2 r2=>?_⟩;obtain⟨i,cl,fs,rfl,hi,hcl,hlt,rfl,rfl⟩:=jrw hf;obtain⟨ad,q1,q2⟩:=rep_obj.mp r2;obtain⟨ad',p1,p2,C,dx,vfs,p3,p4,p5,p6,p7⟩:=R2.sto.ats i _ hi;rw[q1] at p1;cases p1
   obtain⟨g1,g2⟩:=hc cl (zbc.mp hcl) C p3;have r1':=(r1.rho l2).mono v2;obtain⟨t1,t2⟩:=R2.put (f:=f) hi q1 p2 p3 p4 p5 p6 p7 r1';exact⟨ad,C,dx,vfs,q2,p4,g1,g2,by rw[p7.length];exact hlt,k ρ2 S2 Z _ t1 (l1.trans l2) (by rw[t2];exact v1.trans v2)⟩
  ·exact⟨Jz,Sz,Hz,F,ρ1,S1,Y,Ω1,R1,.error x,_,e2,trivial⟩
 ·exact⟨Jz,Sz,Hz,F,J,S,Y,Ω,R,.error x,_,e1,trivial⟩
def jFm{i j:Nat}{x y:Str}{p1 p2 p3 pos':Pos}(hN:X.N.Nodup)(ho:O.contains j=true)(hoi:O.contains i=false:=by rfl)(hi:X.N[i]? = some x:=by rfl)(hj:X.N[j]? = some y:=by rfl)(hx:Loc X.env.scope x:=by first|exact Or.inl rfl|exact Or.inr rfl)
  (hv:Vis X.env.scope y:=by first|exact Or.inl rfl|exact Or.inr (Or.inl rfl)|exact Or.inr (Or.inr rfl))
  (hd:(y == ("__debug__":Str))=false:=by decide) (hcd:(y == ("__classdict__":Str))=false:=by decide) (hbase:attributeBase (.Name y p1) "pop" X.env (eval (.Name y p1) X.env)=eval (.Name y p1) X.env:=by rfl) (hline:(p2.endLine == p3.line)=true:=by rfl)
  (hs:swapsWith (.Call (.Attribute (.Name y p1) "pop" p2) [] [] p3) (some (.Name x pos')) pos.line X.env=pure false:=by rfl) (hf:X.fn x=true\/X.env.scope.names.lookup x=some .local:=by first|exact .inl rfl|exact .inr rfl|assumption) :
  MSt X O O B (.Assign [.Name x pos'] (.Call (.Attribute (.Name y p1) "pop" p2) [] [] p3) pos) (ePop i j):=by
 rintro U s Z H Dn I ⟨Jz,Sz,Hz,F,J,S,Y,Ω,R,r,Ω',hg,k⟩;have ho':j∈O:=zbc.mp ho;have hoi':i∉O:=fun z=>by rw[zbc.mpr z] at hoi;cases hoi
 obtain⟨l,xs,ds,q1,q2,q3,q4,q5⟩:=R.rs.own j ho';refine jlq hN hi hx (jFy PySem.F.plainAttrs_list PySem.F.slot_list_pop PySem.F.type_list_pop jFp (jmu hj hv hd hcd) hbase hline) hs hf U s Z H Dn I ?_;refine⟨.ref l,q2,.inl ⟨rfl,_,SqL.of q3⟩,?_⟩;unfold ePop at hg;have hjj:(Y[j]?).join=some (.lst ds):=by rw[q1];rfl
 rw[hjj] at hg;dsimp only at hg
 cases hl:ds[ds.length-1]? with
 | none=>rw[hl] at hg;cases hg
 | some d =>
  rw[hl] at hg;cases hg;obtain⟨v,w1,w2⟩:=q5.get hl;have hR:=R.write ho' q2 q5.dropLast;have hh:hid (upd H l (.lst xs.dropLast)) (fob (un F S) Z O)=hid H (fob (un F S) Z O):=jgd (fob_t.mpr (.inr ⟨j,ho',q2⟩));refine⟨l,xs,v,rfl,rfl,q3,by rw[q5.length];exact w1,?_⟩;refine k J S _ _ (hR.set hoi' (by rw[hh];exact w2)) (RLe.refl _) ?_;rw[jbr hoi',hh];exact Same.refl _
def jFk{body:List Stmt}{h:D->DSt->Option DSt}(hp:PassesOwn (model X.prog X.w) X.A X.env X.xe)(hc:X.calm=true)(hi:MI X O tg iter fi)(hg:DG X O tg h)(hb:MSs X O O O body g)
  (hs:∀ x,foldedSetIterable iter X.env x=pure x:=by intro _;rfl):MSt X O O B (.For tg iter body [] pos) (eFor fi h g):=by
 rintro U s Z H Dn I ⟨Jz,Sz,Hz,F,J,S,Y,Ω,R,r,Ω',hgf,k⟩;refine jv8 hp hc hi hg hb hs U s Z H Dn I ?_;rcases MS.b_inv hgf with ⟨ds,Ω1,e1,hgf⟩|⟨y,e1,rfl⟩
 ·refine⟨Jz,Sz,Hz,F,J,S,Y,Ω,R,.ok ds,Ω1,e1,fun Jq ρ1 S1 H1 R1 l1 v1 it=>?_⟩;refine⟨fun i m Z' H'=>m=ds.length-i/\i<=ds.length/\∃ J' S' Y' Ω2,RM Jz Sz Hz F X.K X.mg O J' S' H' Z' Y' Ω2/\RLe ρ1 J'/\Same (hid H1 (fob (un F S1) Z O)) (hid H' (fob (un F S') Z' O))/\forE g h (ds.drop i) Y' Ω2=some (r,Ω'),
   ⟨ds.length,by simp,Nat.zero_le _,ρ1,S1,Y,Ω1,R1,RLe.refl _,Same.refl _,hgf⟩,?_⟩
  rintro i m Z' H' ⟨rfl,hil,J',S',Y',Ω2,R',l',f',hr⟩;obtain⟨j1,j2⟩:=it H' (fob (un F S') Z' O) i f' (fun p hp=>R'.fresh hp)
  by_cases hlt:i<ds.length
  ·obtain⟨go,yld⟩:=j1 hlt;refine .inr ⟨go,fun Z2 H2=>∃ ρ2 S2 Y2 Ω3,RM Jz Sz Hz F X.K X.mg O ρ2 S2 H2 Z2 Y2 Ω3/\RLe ρ1 ρ2/\Same (hid H1 (fob (un F S1) Z O)) (hid H2 (fob (un F S2) Z2 O))/\forE g h (ds.drop (i+1)) Y2 Ω3=some (r,Ω'),fun Z2 H2 ⟨ρ2,S2,Y2,Ω3,a1,a2,a3,a4⟩=>⟨ds.length-(i+1),by omega,rfl,hlt,ρ2,S2,Y2,Ω3,a1,a2,a3,a4⟩,fun x H2 y=>?_⟩;obtain⟨s2,d,hd,rd⟩:=yld x H2 y;have hdr:ds.drop i=d::ds.drop (i+1):=by
    rw[List.drop_eq_getElem_cons hlt];have:ds[i]=d:=by rw[zax hlt] at hd;exact zby hd
    rw[this]
   rw[hdr] at hr;unfold forE at hr
   cases e2:h d Y' with
   | none=>rw[e2] at hr;cases hr
   | some Y1 =>
    rw[e2] at hr;dsimp only at hr;have R2:=R'.mono s2;have f2:Same (hid H1 (fob (un F S1) Z O)) (hid H2 (fob (un F S') Z' O)):=f'.trans (jax s2);refine⟨J',_,un F S',Y',d,Y1,R2.rs,rd.rho l',e2,fun Z3 ef R3=>?_⟩;have R3':RM Jz Sz Hz F X.K X.mg O J' S' H2 Z3 Y1 Ω2:=R2.next R3 (by rw[ef];exact Same.refl _);rcases MS.b_inv hr with ⟨o,Ω3,e3,hr⟩|⟨y,e3,rfl⟩
    ·refine⟨Jz,Sz,Hz,F,J',S',Y1,Ω2,R3',.ok o,Ω3,e3,?_⟩;rw[ef]
     cases o with
     | nx Y4=>exact fun J4 S4 Z4 H4 R4 l4 v4=>⟨J4,S4,Y4,Ω3,R4,l'.trans l4,f2.trans v4,hr⟩
     | ct Y4=>exact fun J4 S4 Z4 H4 R4 l4 v4=>⟨J4,S4,Y4,Ω3,R4,l'.trans l4,f2.trans v4,hr⟩
     | bk Y4=>cases hr;exact fun J4 S4 Z4 H4 R4 l4 v4=>k J4 S4 Z4 H4 R4 (l1.trans (l'.trans l4)) (v1.trans (f2.trans v4))
     | rt v=>cases hr;exact k
    ·exact⟨Jz,Sz,Hz,F,J',S',Y1,Ω2,R3',.error y,_,e3,trivial⟩
  ·have ei:i=ds.length:=by omega
   subst ei;rw[List.drop_length] at hr;cases hr;exact .inl ⟨j2 rfl,k J' S' Z' H' R' (l1.trans l') (v1.trans f')⟩
 ·exact⟨Jz,Sz,Hz,F,J,S,Y,Ω,R,.error y,_,e1,trivial⟩
end
def jih(st:Stmt)(j:Nat):Stmt:=match st with
 | .ClassDef _ _ _ b _ _ _ _ _ _ _=>b.getD j (.Pass ⟨0,0,0,0⟩)
 | _=>.Pass ⟨0,0,0,0⟩
structure ClsAt(K:W.Frag)(mg:qa)(c:Str)(fs:List Str):Prop where
 ok:∀ C,mg c=some (.ref C)->Cls K C/\∀ f∈fs,NoAttr K C f
section
variable {K:W.Frag}{mg:qa}{h:Heap}{c x q:Str}{st:Stmt}{ps:List Str}{C f:Addr}{oc:Value}{od an:Option Addr}{osl:qe}{kV doc pm cdv ct:Value}
def jkm{fs:List Str}(X:K.In h)(G:h.Ns mainGlobals mg)(a:W.nsIn K mainGlobals c=some (some (.ref C)))(p1:W.plainGet K C Str.empty=true)(p2:W.hasDictIn K C=true)(p3:W.plainOver K C=true)
  (p4:W.findIn K (.ref C) "__setattr__"=some (some (.builtin "object.__setattr__"))) (n:∀ f∈fs,W.findIn K (.ref C) f=some none):ClsAt K mg c fs :=
 ⟨fun C' hC=>by rw[W.mg_of X G a] at hC;cases hC;exact⟨⟨p1,p2,p3,p4⟩,n⟩⟩
def ClsAt.is{X:Cx}{fs:List Str}(T:ClsAt X.K X.mg c fs){f:Str}(hf:f∈fs):jxc X [c] f:=fun c' hc C hC=>by
 rw[zcc] at hc;subst hc;exact⟨(T.ok C hC).1,(T.ok C hC).2 f hf⟩
def jn2{fs:List Str}(X:K.In h)(G:h.Ns mainGlobals mg)(T:ClsAt K mg c fs)
  (hb:∀ (kV doc pm:Value) (an:Option Addr) (cdv ct:Value) (us:List Value),us.length=ps.length->bindArgs (W.fnOf x q (jbp st) (jaw st) (jad st) .none kV doc pm an cdv ct) ⟨us,[]⟩=pure (ps.zip us))
  (a:W.nsIn K mainGlobals c=some (some (.ref C))) (m1:W.findIn K (.ref C) x=some (some (.ref f))) (m2:W.isFn K (.ref f)=true)
  (l:K.lookup f=some ⟨oc,od,.func (W.fnOf x q (jbp st) (jaw st) (jad st) .none kV doc pm an cdv ct),osl⟩)
  (cd:W.codeIn K cdv q=true) (k:W.keepIn K (.ref f)=true):MetAt K mg c x q st ps:=by
 have F:=jr1 (st:=st) l cd k;have hm:=W.mg_of X G a;exact⟨C,f,_,hm,(T.ok C hm).1,⟨m1,m2,k⟩,F,F.binds hb⟩
def jxu(X:K.In h)(G:h.Ns mainGlobals mg)
  (hb:∀ (kV doc pm:Value) (an:Option Addr) (cdv ct:Value) (us:List Value),us.length=ps.length->bindArgs (W.fnOf "__init__" q (jbp st) (jaw st) (jad st) .none kV doc pm an cdv ct) ⟨us,[]⟩=pure (ps.zip us))
  (a:W.nsIn K mainGlobals c=some (some (.ref C))) (i1:W.makesIn K C=true) (i2:W.findIn K (.ref C) "__init__"=some (some (.ref f))) (i3:W.isFn K (.ref f)=true) (i4:W.keepIn K (.ref C)=true)
  (l:K.lookup f=some ⟨oc,od,.func (W.fnOf "__init__" q (jbp st) (jaw st) (jad st) .none kV doc pm an cdv ct),osl⟩)
  (cd:W.codeIn K cdv q=true) (k:W.keepIn K (.ref f)=true):IniAt K mg c q st ps:=by
 have F:=jr1 (st:=st) l cd k;exact⟨C,f,_,W.mg_of X G a,⟨i1,i2,i3,i4⟩,F,F.binds hb⟩
end
def mB(f:DSt->MS D):DSt->MS Bool:=fun Y=>(f Y).b fun d=>match d with
 | .bl k=>MS.p k
 | _=>fun _=>none
section
variable {X:Cx}{O:List Nat}{a b:Expr}{fa fb:DSt->MS D}{pos:Pos}
def jFo{op:CmpOp}{g:D->D->Option D}{r:R2}(ho:OpR X (compareOp op) r)(hg:OpD X.K g r)(ha:ME X O a fa)(hb:ME X O b fb)(hm:behindInMarks op b=false):MT X O (.Compare a [op] [b] pos) (mB (m2 g fa fb)):=by
 rintro U s Z H Q I ⟨Jz,Sz,Hz,F,J,S,Y,Ω,R,rr,Ω',hf,k⟩;refine jwb ho ha hb hm U s Z H Q I (jvf (r:=r) hg ?_);rcases MS.b_inv hf with ⟨x,Ω1,e1,hf⟩|⟨x,e1,rfl⟩
 ·cases x with
  | bl kk=>cases hf;exact⟨Jz,Sz,Hz,F,J,S,Y,Ω,R,.ok (.bl kk),_,e1,fun v J' S' H' R' l sm rv=>⟨kk,rep_bl.mp rv,k J' S' H' R' l sm⟩⟩
  | _=>cases hf
 ·exact⟨Jz,Sz,Hz,F,J,S,Y,Ω,R,.error x,Ω',e1,k⟩
end
def spA(K:W.Frag)(n:Nat)(m:List D->MS D):Sp:=fun vs H Q E=>∀ mg,spE K mg n m vs H Q E
def FUEL:Nat:=Classical.choose (⟨100000,rfl⟩:∃ n:Nat,n=100000)
def jt3:FUEL=100000:=Classical.choose_spec (⟨100000,rfl⟩:∃ n:Nat,n=100000)
section
variable {Y:DSt}{fa fb:DSt->M D}{fl:DSt->M (List D)}{g:D->D->Option D}{u:D->Option D}{k:List D->Option D}{ta tb:DSt->M Bool}{g1 g2:DSt->M Out}{m:List D->M D}{ki:List D->Option (List D)}{fi:DSt->M (List D)}{tg:D->DSt->Option DSt}
@[simp] theorem jH1(i:Nat):vR i Y=M.o (Y[i]?).join:=rfl
@[simp] theorem e_C(d:D):fC d Y=M.p d:=rfl
@[simp] theorem e_2:f2 g fa fb Y=(fa Y).b fun x=>(fb Y).b fun y=>M.o (g x y):=rfl
@[simp] theorem e_1:f1 u fa Y=(fa Y).b fun x=>M.o (u x):=rfl
def asB:Option D->M Bool
 | some (.bl b)=>M.p b
 | _=>none
@[simp] theorem jD4(b:Bool):asB (some (.bl b))=M.p b:=rfl
@[simp] theorem e_t2:t2 g fa fb Y=(fa Y).b fun x=>(fb Y).b fun y=>asB (g x y):=rfl
@[simp] theorem jxi:fNil Y=M.p []:=rfl
@[simp] theorem jrx:jac fa fl Y=(fa Y).b fun x=>(fl Y).b fun xs=>M.p (x::xs):=rfl
@[simp] theorem e_L:fL k fl Y=(fl Y).b fun xs=>M.o (k xs):=rfl
@[simp] theorem jEi:jau m fl Y=(fl Y).b m:=rfl
@[simp] theorem jHz:gNot (.bl b)=some (.bl !b):=rfl
@[simp] theorem jEm:tNot ta Y=(ta Y).b fun x=>M.p !x:=rfl
@[simp] theorem jEl:tAnd ta tb Y=(ta Y).b fun x=>if x=true then tb Y else M.p false:=rfl
@[simp] theorem jH0:tOr ta tb Y=(ta Y).b fun x=>if x=true then M.p true else tb Y:=rfl
@[simp] theorem e_if:fIf ta fa fb Y=(ta Y).b fun x=>if x=true then fa Y else fb Y:=rfl
def andB(b:D)(r:M D):M D:=match b with
 | .bl true=>r
 | .bl false=>M.p (.bl false)
 | _=>none
def orB(b:D)(r:M D):M D:=match b with
 | .bl true=>M.p (.bl true)
 | .bl false=>r
 | _=>none
@[simp] theorem andB_t(r:M D):andB (.bl true) r=r:=rfl
@[simp] theorem andB_f(r:M D):andB (.bl false) r=M.p (.bl false):=rfl
@[simp] theorem orB_t(r:M D):orB (.bl true) r=M.p (.bl true):=rfl
@[simp] theorem orB_f(r:M D):orB (.bl false) r=r:=rfl
@[simp] theorem jHx:fAnd fa fb Y=(fa Y).b fun x=>andB x (fb Y):=rfl
@[simp] theorem e_or:fOr fa fb Y=(fa Y).b fun x=>orB x (fb Y):=rfl
@[simp] theorem jEn:tTru fa Y=(fa Y).b fun x=>M.o (truD x):=rfl
@[simp] theorem jG2(b:Bool):truD (.bl b)=some b:=rfl
@[simp] theorem jI9:truD .non=some false:=rfl
@[simp] theorem e_nx:gNx Y=M.p (.nx Y):=rfl
def seqO(g2:DSt->M Out):Out->M Out
 | .nx Y'=>g2 Y'
 | o=>M.p o
@[simp] theorem joi(Y':DSt):seqO g2 (.nx Y')=g2 Y':=rfl
@[simp] theorem jwu(d:D):seqO g2 (.rt d)=M.p (.rt d):=rfl
@[simp] theorem jIt(Y':DSt):seqO g2 (.bk Y')=M.p (.bk Y'):=rfl
@[simp] theorem jIu(Y':DSt):seqO g2 (.ct Y')=M.p (.ct Y'):=rfl
@[simp] theorem jo7:gSeq g1 g2 Y=(g1 Y).b (seqO g2):=by
 show (g1 Y).b _=_;congr 1
@[simp] theorem jxk(i:Nat):gSet i fa Y=(fa Y).b fun d=>M.p (.nx (Y.set i (some d))):=rfl
@[simp] theorem jta:gRet fa Y=(fa Y).b fun d=>M.p (.rt d):=rfl
@[simp] theorem e_drop:jH4 fa Y=(fa Y).b fun _=>M.p (.nx Y):=rfl
@[simp] theorem jBm:gIf ta g1 g2 Y=(ta Y).b fun b=>if b=true then g1 Y else g2 Y:=rfl
@[simp] theorem e_brk:gBrk Y=M.p (.bk Y):=rfl
@[simp] theorem e_cnt:gCnt Y=M.p (.ct Y):=rfl
def appO(i:Nat)(Y:DSt)(d:D):Option D->M Out
 | some (.lst ds)=>if ds.length<sizeLine then M.p (.nx (Y.set i (some (.lst (ds++[d]))))) else none
 | _=>none
def jrk{i:Nat}{Y:DSt}{d:D}{ds:List D}(h:ds.length<sizeLine):appO i Y d (some (.lst ds))=M.p (.nx (Y.set i (some (.lst (ds++[d]))))):=if_pos h
@[simp] theorem jBk(i:Nat):gApp i fa Y=(fa Y).b fun d=>appO i Y d (Y[i]?).join:=rfl
@[simp] theorem jBl:gFor fi tg g1 Y=(fi Y).b fun ds=>forD g1 tg ds Y:=rfl
@[simp] theorem jBn:jha ki fl Y=(fl Y).b fun ds=>M.o (ki ds):=rfl
@[simp] theorem jzr:ji8 fa Y=(fa Y).b fun d=>M.o (seqD d):=rfl
@[simp] theorem e_yes:tYes Y=M.p true:=rfl
@[simp] theorem jxj(d:D):outD (.rt d)=M.p d:=rfl
@[simp] theorem jHo(Y:DSt):outD (.nx Y)=M.p .non:=rfl
def ji3(N:Nat)(x0:D):mir 1 N g1 [x0]=(g1 (some x0::List.replicate (N-1) none)).b outD:=rfl
def jgv(N:Nat)(x0 x1:D):mir 2 N g1 [x0,x1]=(g1 (some x0::some x1::List.replicate (N-2) none)).b outD:=rfl
def jry(N:Nat)(x0 x1 x2:D):mir 3 N g1 [x0,x1,x2]=(g1 (some x0::some x1::some x2::List.replicate (N-3) none)).b outD:=rfl
def jzs(N:Nat)(x0 x1 x2 x3:D):mir 4 N g1 [x0,x1,x2,x3]=(g1 (some x0::some x1::some x2::some x3::List.replicate (N-4) none)).b outD:=rfl
@[simp] theorem b_none{α β:Type}(f:α->M β):M.b none f=none:=rfl
@[simp] theorem jA3{α β γ:Type}(m:M α)(f:α->M β)(h:β->M γ):(m.b f).b h=m.b fun a=>(f a).b h:=by
 cases m with
 | none=>rfl
 | some e=>cases e<;>rfl
@[simp] theorem jEj{own:Nat}{caps:qf}{tc:DSt->M Bool}:jnk own caps fi tg tc fa Y=(fi Y).b fun ds=>M.o ((jg4 tg tc fa ds (jja own caps Y)).bind ja2):=rfl
end
@[simp] theorem lt_int(i j:Int):gLt (.int i) (.int j)=some (.bl (decide (i<j))):=rfl
@[simp] theorem le_int(i j:Int):gLe (.int i) (.int j)=some (.bl (decide (i<=j))):=rfl
@[simp] theorem gt_int(i j:Int):gGt (.int i) (.int j)=some (.bl (decide (j<i))):=rfl
@[simp] theorem jEu(i j:Int):gGe (.int i) (.int j)=some (.bl (decide (j<=i))):=rfl
@[simp] theorem add_int(i j:Int):gAdd (.int i) (.int j)=some (.int (i+j)):=rfl
@[simp] theorem sub_int(i j:Int):gSub (.int i) (.int j)=some (.int (i-j)):=rfl
@[simp] theorem neg_int(i:Int):gNeg (.int i)=some (.int (-i)):=rfl
def jby{i j:Int}(h:0<j):gMod (.int i) (.int j)=some (.int (i % j)):=if_pos h
def Bt(k:Nat)(i:Int):Prop:=i.natAbs<2 ^ k
def Bt.mono{a b:Nat}{i:Int}(h:Bt a i)(hab:a<=b):Bt b i:=zcx h (Nat.pow_le_pow_right (by decide) hab)
def Bt.mul{a b:Nat}{i j:Int}(h:Bt a i)(k:Bt b j):Bt (a+b) (i*j):=by
 unfold Bt at *;rw[Int.natAbs_mul,Nat.pow_add];exact Nat.mul_lt_mul'' h k
def Bt.add{a:Nat}{i j:Int}(h:Bt a i)(k:Bt a j):Bt (a+1) (i+j):=by
 unfold Bt at *;rw[Nat.pow_succ];omega
def Bt.neg{a:Nat}{i:Int}(h:Bt a i):Bt a (-i):=by unfold Bt at *;omega
def Bt.big{k:Nat}{i:Int}(h:Bt k i)(hk:k<=100000):jh8 i=true:=by
 have h':=zcx h (Nat.pow_le_pow_right (by decide:2 > 0) hk);rw[<- jt1] at h';unfold jh8 BIG;rw[Bool.and_eq_true,decide_eq_true_eq,decide_eq_true_eq];omega
def jFq{a b:Nat}{i j:Int}(h:Bt a i)(k:Bt b j)(ha:a<=100000:=by decide)(hb:b<=100000:=by decide):gMul (.int i) (.int j)=some (.int (i*j)):=by
 have:(jh8 i&&jh8 j)=true:=by rw[h.big ha,k.big hb];rfl
 exact if_pos this
def jdj{i j:Int}(h:0<j)(h2:j<2 ^ 200):jev (.int i) (.int j)=some (.int (i / j)):=by
 refine if_pos ⟨h,?_⟩;unfold DIVB;have:(2 ^ 200:Nat)<=2 ^ 9000:=Nat.pow_le_pow_right (by decide) (by decide);rw[<- jt2] at this;omega
def jCx{i:Int}{j:Int}(h:0<=j/\j<=1000/\-(2 ^ 60)<i/\i<2 ^ 60):gPow (.int i) (.int j)=some (.int (i ^ j.toNat)):=if_pos h
def atI_get{α:Type}{xs:List α}{j:Nat}{v:α}(h:xs[j]? = some v):atI xs (j:Int)=some v:=by
 have hj:=(zbb.mp h).1;unfold atI ixN;rw[if_pos (by omega),if_pos (by omega)];simpa using h
@[simp] theorem ix_t(ds:List D)(i:Int):gIx (.tup ds) (.int i)=atI ds i:=rfl
@[simp] theorem ix_l(ds:List D)(i:Int):gIx (.lst ds) (.int i)=atI ds i:=rfl
@[simp] theorem at0{α:Type}(x:α)(xs:List α):atI (x::xs) 0=some x:=by
 have:=atI_get (xs:=x::xs) (j:=0) (v:=x) rfl;simpa using this
@[simp] theorem at1{α:Type}(x y:α)(xs:List α):atI (x::y::xs) 1=some y:=by
 have:=atI_get (xs:=x::y::xs) (j:=1) (v:=y) rfl;simpa using this
@[simp] theorem at2{α:Type}(x y z:α)(xs:List α):atI (x::y::z::xs) 2=some z:=by
 have:=atI_get (xs:=x::y::z::xs) (j:=2) (v:=z) rfl;simpa using this
@[simp] theorem at3{α:Type}(x y z w:α)(xs:List α):atI (x::y::z::w::xs) 3=some w:=by
 have:=atI_get (xs:=x::y::z::w::xs) (j:=3) (v:=w) rfl;simpa using this
@[simp] theorem jpc(ds:List D):kLen [.lst ds]=some (.int ds.length):=rfl
@[simp] theorem jH9(ds:List D):kLen [.tup ds]=some (.int ds.length):=rfl
@[simp] theorem jDp(ds:List D):kTuple [.lst ds]=some (.tup ds):=rfl
@[simp] theorem jE9(ds:List D):kList [.lst ds]=some (.lst ds):=rfl
@[simp] theorem range1(j:Int):jce [.int j]=some (jcr 0 j.toNat):=rfl
@[simp] theorem jGg(i j:Int):jce [.int i,.int j]=some (jcr i (j-i).toNat):=rfl
@[simp] theorem enum_l(xs:List D):jxl [.lst xs]=some (jBp 0 xs):=rfl
@[simp] theorem jGq(ds:List D):seqD (.lst ds)=some ds:=rfl
@[simp] theorem jIv(ds:List D):seqD (.tup ds)=some ds:=rfl
@[simp] theorem kmin(i j:Int):kMin [.int i,.int j]=some (.int (if j<i then j else i)):=rfl
@[simp] theorem jH7(b:Bool):kInt [.bl b]=some (.int (if b then 1 else 0)):=rfl
@[simp] theorem jJa(x y:D):jbq [x,y]=some (.tup [x,y]):=rfl
@[simp] theorem jJb(x y z:D):jbq [x,y,z]=some (.tup [x,y,z]):=rfl
@[simp] theorem tupD4(x y z w:D):jbq [x,y,z,w]=some (.tup [x,y,z,w]):=rfl
@[simp] theorem jId:ja2 []=some (.lst []):=rfl
@[simp] theorem jIe(x:D):ja2 [x]=some (.lst [x]):=rfl
@[simp] theorem jIf(x y:D):ja2 [x,y]=some (.lst [x,y]):=rfl
@[simp] theorem jIg(x y z:D):ja2 [x,y,z]=some (.lst [x,y,z]):=rfl
def jB5{ds:List D}(h:ds.length<=sizeLine):ja2 ds=some (.lst ds):=if_pos h
@[simp] theorem jur(i j:Int):gEq (.int i) (.int j)=some (.bl (i == j)):=rfl
@[simp] theorem jFs(i j:Int):gNe (.int i) (.int j)=some (.bl !(i == j)):=rfl
@[simp] theorem jqp(i:Int):kIsi [.int i,.ty "int"]=some (.bl true):=rfl
@[simp] theorem jpb(i:Int):kIsi [.int i,.ty "bool"]=some (.bl false):=rfl
@[simp] theorem jxy(i:List D):kIsi [.tup i,.ty "tuple"]=some (.bl true):=rfl
theorem jD9{c:DSt}{fe:DSt->M D}{F:D->D}:∀ (ds:List D) (x:Option D),(∀ d∈ds,fe (some d::c)=some (.ok (F d)))->jg4 (gName 0) tYes fe ds (x::c)=some (ds.map F)
 | [],_,_=>rfl
 | d::ds,x,h=>by
  unfold jg4;have e1:gName 0 d (x::c)=some (some d::c):=rfl;rw[e1];dsimp only [tYes,M.p];rw[h d zaa];dsimp only;rw[jD9 ds (some d) fun e he=>h e (zaw _ he)];rfl
theorem jxa:∀ (xs ys:List D),zipD xs ys=(xs.zip ys).map fun p=>.tup [p.1,p.2]
 | [],_=>by simp[zipD]
 | _::_,[]=>by simp[zipD]
 | x::xs,y::ys=>by simp[zipD,jxa xs ys]
theorem jut{g:DSt->M Out}{tg:D->DSt->Option DSt}(I:List D->DSt->Prop)(h:∀ d ds Y,I (d::ds) Y->∃ Y1,tg d Y=some Y1/\∃ Y2,(g Y1=some (.ok (.nx Y2))\/g Y1=some (.ok (.ct Y2)))/\I ds Y2) :
  ∀ (ds:List D) (Y:DSt),I ds Y->∃ Y',forD g tg ds Y=some (.ok (.nx Y'))/\I [] Y'
 | [],Y,hi=>⟨Y,rfl,hi⟩
 | d::ds,Y,hi=>by
  obtain⟨Y1,e1,Y2,e2,i2⟩:=h d ds Y hi;obtain⟨Y',e3,i3⟩:=jut I h ds Y2 i2;refine⟨Y',?_,i3⟩;unfold forD;rw[e1];dsimp only;rcases e2 with e2|e2<;>(rw[e2];exact e3)
@[simp] theorem jHp(i:Nat)(d:D)(Y:DSt):gName i d Y=some (Y.set i (some d)):=rfl
@[simp] theorem jHq(i j:Nat)(x y:D)(Y:DSt):je7 i j (.tup [x,y]) Y=some ((Y.set i (some x)).set j (some y)):=rfl
def getI:M D->Int
 | some (.ok (.int i))=>i
 | _=>0
def juw{m:M D}{i:Int}(h:m=some (.ok (.int i))):m=some (.ok (.int (getI m))):=by rw[h];rfl
def jk3{g:DSt->M Out}{tg:D->DSt->Option DSt}(ds:List D)(I:Nat->DSt->Prop)
  (h:∀ (j:Nat) (hj:j<ds.length) (Y:DSt),I j Y->∃ Y1,tg ds[j] Y=some Y1/\∃ Y2,(g Y1=some (.ok (.nx Y2))\/g Y1=some (.ok (.ct Y2)))/\I (j+1) Y2) (Y:DSt) (h0:I 0 Y) :
  ∃ Y',forD g tg ds Y=some (.ok (.nx Y'))/\I ds.length Y':=by
 obtain⟨Y',e,j,hd,hj,hi⟩:=jut (g:=g) (tg:=tg) (fun rem Y=>∃ j,rem=ds.drop j/\j<=ds.length/\I j Y) (fun d rem Y ⟨j,hr,hj,hi⟩=>by
  have hlt:j<ds.length:=by
   by_cases q:j<ds.length
   ·exact q
   ·rw[List.drop_eq_nil_of_le (by omega)] at hr;cases hr
  rw[List.drop_eq_getElem_cons hlt] at hr;obtain⟨rfl,rfl⟩:=List.cons.inj hr;obtain⟨Y1,e1,Y2,e2,i2⟩:=h j hlt Y hi;exact⟨Y1,e1,Y2,e2,j+1,rfl,hlt,i2⟩) ds Y ⟨0,rfl,Nat.zero_le _,h0⟩
 refine⟨Y',e,?_⟩;have:j=ds.length:=by
  have:=congrArg List.length hd;simp at this;omega
 rw[<- this];exact hi
@[simp] theorem jj1(lo:Int)(n:Nat):(jcr lo n).length=n:=by simp[jcr]
@[simp] theorem jj0(lo:Int)(n j:Nat)(h:j<(jcr lo n).length):(jcr lo n)[j]=.int (lo+j):=by simp[jcr]
def jtp(n:Nat)(F:D->D):(jcr 0 n).map F=(List.range n).map fun j=>F (.int (j:Nat)):=by
 unfold jcr;rw[List.map_map];apply List.map_congr_left;intro a _;simp
def jtj{lo:Int}{n:Nat}{d:D}(h:d∈jcr lo n):∃ j:Nat,j<n/\d=.int (lo+j):=by
 unfold jcr at h;obtain⟨j,hj,rfl⟩:=List.mem_map.mp h;exact⟨j,List.mem_range.mp hj,rfl⟩
def jHv{c:DSt}{fe:DSt->M D}{F:Nat->D}(n:Nat)(x:Option D)(h:∀ j:Nat,j<n->fe (some (.int (j:Nat))::c)=some (.ok (F j))):jg4 (gName 0) tYes fe (jcr 0 n) (x::c)=some ((List.range n).map F):=by
 have:=jD9 (c:=c) (fe:=fe) (F:=fun d=>match d with|.int i=>F i.toNat|_=>.non) (jcr 0 n) x (fun d hd=>by
  obtain⟨j,hj,rfl⟩:=jtj hd;have e:(0:Int)+(j:Nat)=(j:Nat):=Int.zero_add _;rw[e,h j hj];rfl)
 rw[this,jtp];rfl
section
variable {Y:DSt}{fa fb:DSt->M D}{fl:DSt->M (List D)}{g:D->D->Option D}{k:List D->Option D}
@[simp] theorem jHy(i:Nat):gAug i g fa Y=(M.o (Y[i]?).join).b fun x=>(fa Y).b fun y=>(M.o (g x y)).b fun d=>M.p (.nx (Y.set i (some d))):=rfl
@[simp] theorem jBb(i j:Int):gCat (.int i) (.int j)=some (.int (i+j)):=rfl
def jBd{x y:Str}(h:x.length+y.length<=sizeLine):gCat (.str x) (.str y)=some (.str (x++y)):=if_pos h
def jBc{x y:List D}(h:x.length+y.length<=sizeLine):gCat (.lst x) (.lst y)=some (.lst (x++y)):=if_pos h
def jdx{a b:Nat}{i j:Int}(h:Bt a i)(k:Bt b j)(ha:a<=100000:=by decide)(hb:b<=100000:=by decide):jci (.int i) (.int j)=some (.int (i*j)):=jFq h k ha hb
theorem jof{α:Type}(x:α):∀ n:Nat,(List.replicate n [x]).flatten=List.replicate n x
 | 0=>rfl
 | n+1=>by rw[List.replicate_succ,List.flatten_cons,jof x n];rfl
def jx9{x:D}{n:Nat}(h1:1<=n)(h2:n<=1000):jci (.tup [x]) (.int n)=some (.tup (List.replicate n x)):=by
 have:jci (.tup [x]) (.int n)=some (.tup (List.replicate (n:Int).toNat [x]).flatten):=if_pos ⟨by simp,by omega,by omega,by simp;omega⟩;rw[this,jof];simp
def jEk(x:D)(n:Nat)(hl:fl Y=M.p [x])(hb:fb Y=M.p (.int n))(hn:n<=1000):fRep fl fb Y=M.p (.lst (List.replicate n x)):=by
 unfold fRep;rw[hl,hb];have h1:([x]:List D).length<=sizeLine:=by show 1<=sizeLine;decide
 have h3:1000<=sizeLine:=by decide
 have h2:-(2 ^ 63)<=(n:Int)/\(n:Int)<2 ^ 63/\([x]:List D).length*(n:Int).toNat<=sizeLine:=⟨by omega,by omega,by simp;omega⟩
 rw[M.b_p,if_pos h1,M.b_p];dsimp only;rw[if_pos h2,jof];rfl
@[simp] theorem jEh(h:D->DSt->Option DSt):gAsg h fa Y=(fa Y).b fun d=>match h d Y with
 | some Y'=>M.p (.nx Y')
 | none=>none:=rfl
@[simp] theorem e_tup3(i j l:Nat)(x y z:D):juv i j l (.tup [x,y,z]) Y=some (((Y.set i (some x)).set j (some y)).set l (some z)):=rfl
@[simp] theorem ju2(b:Bool):kIntT [.bl b]=some (.int (if b then 1 else 0)):=rfl
theorem jt9:∀ bs:List Bool,blsD (bs.map .bl)=some bs
 | []=>rfl
 | b::bs=>by rw[List.map_cons];unfold blsD;rw[jt9 bs];rfl
def jAy(bs:List Bool):kAll [.lst (bs.map .bl)]=some (.bl (bs.all id)):=by
 show (blsD (bs.map D.bl)).map (fun ns=>D.bl (ns.all id))=_;rw[jt9];rfl
def jo4{c:DSt}{fe:DSt->M D}{α:Type}{K:α->D×D}{F:α->D}(ps:List α)(x y:Option D)(h:∀ p∈ps,fe (some (K p).1::some (K p).2::c)=some (.ok (F p))):jg4 (je7 0 1) tYes fe (ps.map fun p=>.tup [(K p).1,(K p).2]) (x::y::c)=some (ps.map F):=by
 induction ps generalizing x y with
 | nil=>rfl
 | cons p ps ih =>
  rw[List.map_cons];unfold jg4;have e1:je7 0 1 (.tup [(K p).1,(K p).2]) (x::y::c)=some (some (K p).1::some (K p).2::c):=rfl;rw[e1];dsimp only [tYes,M.p];rw[h p zaa];dsimp only;rw[ih (some (K p).1) (some (K p).2) fun e he=>h e (zaw _ he)];rfl
def ji1{c:DSt}{fe:DSt->M D}{α:Type}{K:α->D}{F:α->D}(ps:List α)(x:Option D)(h:∀ p∈ps,fe (some (K p)::c)=some (.ok (F p))):jg4 (gName 0) tYes fe (ps.map K) (x::c)=some (ps.map F):=by
 induction ps generalizing x with
 | nil=>rfl
 | cons p ps ih =>
  rw[List.map_cons];unfold jg4;have e1:gName 0 (K p) (x::c)=some (some (K p)::c):=rfl;rw[e1];dsimp only [tYes,M.p];rw[h p zaa];dsimp only;rw[ih (some (K p)) fun e he=>h e (zaw _ he)];rfl
def jxb(as bs:List Int):zipD (as.map .int) (bs.map .int)=(as.zip bs).map fun p=>.tup [.int p.1,.int p.2]:=by
 rw[jxa,List.zip_map,List.map_map];rfl
end
def jA7{α β:Type}(r:Option (Except XD α×Sto))(f:α->MS β):Option (Except XD β×Sto):=match r with
 | none=>none
 | some (.error x,Ω')=>some (.error x,Ω')
 | some (.ok a,Ω')=>f a Ω'
section
variable {α β:Type}{Ω Ω':Sto}{Y:DSt}{fa fb fo:DSt->MS D}{fl:DSt->MS (List D)}{ta:DSt->MS Bool}{g1 g2:DSt->MS Out}{g:D->D->Option D}
@[simp] theorem s_b(m:MS α)(f:α->MS β):(m.b f) Ω=jA7 (m Ω) f:=by
 unfold MS.b jA7
 cases m Ω with
 | none=>rfl
 | some p=>obtain⟨q,Ω1⟩:=p;cases q<;>rfl
@[simp] theorem jis(a:α)(f:α->MS β):jA7 (some (.ok a,Ω')) f=f a Ω':=rfl
@[simp] theorem s_p(a:α):MS.p a Ω=some (.ok a,Ω):=rfl
@[simp] theorem s_lp(a:α):MS.l (M.p a) Ω=some (.ok a,Ω):=rfl
@[simp] theorem jIo(a:α):MS.l (some (.ok a):M α) Ω=some (.ok a,Ω):=rfl
@[simp] theorem s_o(a:α):MS.o (some a) Ω=some (.ok a,Ω):=rfl
@[simp] theorem s_lF(f:DSt->M α):lF f Y=MS.l (f Y):=rfl
@[simp] theorem jIn(cs:List Str)(f:Str):mGet cs f fa Y=(fa Y).b fun x=>getO cs f x:=rfl
@[simp] theorem jAk:jhd fa fl Y=(fa Y).b fun x=>(fl Y).b fun xs=>MS.p (x::xs):=rfl
@[simp] theorem s_2:m2 g fa fb Y=(fa Y).b fun x=>(fb Y).b fun y=>MS.o (g x y):=rfl
@[simp] theorem s_L(k:List D->Option D):mL k fl Y=(fl Y).b fun xs=>MS.o (k xs):=rfl
@[simp] theorem jwo(m:List D->M D):jlc m fl Y=(fl Y).b fun ds=>MS.l (m ds):=rfl
@[simp] theorem jGk(m:List D->MS D):jds m fl Y=(fl Y).b m:=rfl
@[simp] theorem jGp(i:Nat):eSet i fa Y=(fa Y).b fun d=>MS.p (.nx (Y.set i (some d))):=rfl
@[simp] theorem jGo:eRet fa Y=(fa Y).b fun d=>MS.p (.rt d):=rfl
@[simp] theorem jAl:jqg fa Y=(fa Y).b fun _=>MS.p (.nx Y):=rfl
@[simp] theorem jIq(cs:List Str)(f:Str):ePut cs f fo fa Y=(fa Y).b fun d=>(fo Y).b fun x=>(putO cs f x d).b fun _=>MS.p (.nx Y):=rfl
@[simp] theorem s_if:eIf ta g1 g2 Y=(ta Y).b fun b=>if b=true then g1 Y else g2 Y:=rfl
@[simp] theorem s_nx:eNx Y=MS.p (.nx Y):=rfl
@[simp] theorem jIp:mNot ta Y=(ta Y).b fun x=>MS.p !x:=rfl
@[simp] theorem jIr:mTru fa Y=(fa Y).b fun x=>MS.o (truD x):=rfl
def asBS:D->MS Bool
 | .bl k=>MS.p k
 | _=>fun _=>none
@[simp] theorem jA1(k:Bool):asBS (.bl k)=MS.p k:=rfl
@[simp] theorem s_B:mB fa Y=(fa Y).b asBS:=by
 show (fa Y).b _=_;congr 1
def seqS(g2:DSt->MS Out):Out->MS Out
 | .nx Y'=>g2 Y'
 | o=>MS.p o
@[simp] theorem jrd(Y':DSt):seqS g2 (.nx Y')=g2 Y':=rfl
@[simp] theorem jDd(d:D):seqS g2 (.rt d)=MS.p (.rt d):=rfl
@[simp] theorem jDa:eSeq g1 g2 Y=(g1 Y).b (seqS g2):=by
 show (g1 Y).b _=_;congr 1
@[simp] theorem jy2(d:D):outE (.rt d)=MS.p d:=rfl
@[simp] theorem jy1(Y:DSt):outE (.nx Y)=MS.p .non:=rfl
def jGm(N:Nat)(x0:D):mirE 1 N g1 [x0]=(g1 (some x0::List.replicate (N-1) none)).b outE:=rfl
def jwq(N:Nat)(x0 x1:D):mirE 2 N g1 [x0,x1]=(g1 (some x0::some x1::List.replicate (N-2) none)).b outE:=rfl
def jGn(N:Nat)(x0 x1 x2:D):mirE 3 N g1 [x0,x1,x2]=(g1 (some x0::some x1::some x2::List.replicate (N-3) none)).b outE:=rfl
@[simp] theorem jAm(c x:Str)(m:List D->MS D):jkd c x m fo fl Y=(fo Y).b fun o=>match o with
 | .obj i=>jn3 c x m i fl Y
 | _=>fun _=>none:=rfl
@[simp] theorem jwp(c:Str)(m:List D->MS D):jpf c m fl Y=(fl Y).b fun ds=>jtg c m ds:=rfl
@[simp] theorem jGl(fi:DSt->MS (List D))(tg:D->DSt->Option DSt):eFor fi tg g1 Y=(fi Y).b fun ds=>forE g1 tg ds Y:=rfl
end
section
variable {X:Cx}{O:List Nat}{E:XK}{b:Expr}{fb:DSt->M D}{pos:Pos}
def juk(i:Nat){x:Str}{p:Pos}(ho:O.contains i=true)(hb:DE X O E b fb)(hN:X.N[i]? = some x:=by rfl)(hv:Vis X.env.scope x:=by first|exact Or.inl rfl|exact Or.inr (Or.inl rfl)|exact Or.inr (Or.inr rfl))
  (hd:(x == ("__debug__":Str))=false:=by decide) (hcd:(x == ("__classdict__":Str))=false:=by decide) (hs:jqc b:=by exact fun _ _=>rfl):DE X O E (.Subscript (.Name x p) b pos) (f2 gIx (vR i) fb):=by
 rintro U s Z H Q I ⟨J,Hz,F,Y,r,R,hf,k⟩;have ho':i∈O:=zbc.mp ho;obtain⟨l,xs,ds,q1,q2,q3,q4,q5⟩:=R.own i ho';refine jF1 jat (jmu hN hv hd hcd) hb hs U s Z H Q I ⟨.ref l,q2,?_⟩;have e0:vR i Y=some (.ok (.lst ds)):=by unfold vR;rw[q1];rfl
 rcases M.b_inv hf with ⟨x,e1,hf⟩|⟨x,e1,rfl⟩
 ·rw[e0] at e1;cases e1;rcases M.b_inv hf with ⟨y,e2,hf⟩|⟨y,e2,rfl⟩
  ·refine⟨J,Hz,F,Y,.ok y,R,e2,fun v H2 s2 r2=>?_⟩;obtain⟨d,hd,rfl⟩:=M.o_inv hf;unfold gIx at hd
   split at hd
   ·rename_i z;cases z
    obtain⟨w,e,r⟩:=jra q5 hd;exact .inl ⟨l,xs,_,w,rfl,rep_int.mp r2,SqL.of (s2 _ _ q3),e,k w H2 s2 (r.mono (jax s2))⟩
   ·rename_i z;cases z
   ·rename_i z;cases z
   ·cases hd
  ·exact⟨J,Hz,F,Y,.error y,R,e2,k⟩
 ·rw[e0] at e1;cases e1
end
def jC4(own:Nat)(caps:qf)(Y:DSt):jja own caps Y=List.replicate own none++caps.map fun p=>(Y[p.2]?).join:=rfl
def zip_tt(xs ys:List D):jgt [.tup xs,.tup ys]=some (zipD xs ys):=rfl
def jHn(xs ys:List D):jgt [.tup xs,.lst ys]=some (zipD xs ys):=rfl
def jHm(xs ys:List D):jgt [.lst xs,.tup ys]=some (zipD xs ys):=rfl
def jHl(xs ys:List D):jgt [.lst xs,.lst ys]=some (zipD xs ys):=rfl
def jJf{g1 g2:DSt->M Out}{Y Y':DSt}(h:g1 Y=some (.ok (.nx Y'))):gSeq g1 g2 Y=g2 Y':=by rw[jo7,h,M.b_ok,joi]
def w_rt{g1 g2:DSt->M Out}{Y:DSt}{d:D}(h:g1 Y=some (.ok (.rt d))):gSeq g1 g2 Y=some (.ok (.rt d)):=by rw[jo7,h,M.b_ok,jwu];rfl
def w_if{t:DSt->M Bool}{g1 g2:DSt->M Out}{Y:DSt}{b:Bool}(h:t Y=some (.ok b)):gIf t g1 g2 Y=if b=true then g1 Y else g2 Y:=by rw[jBm,h,M.b_ok]
def jdu{t:DSt->M Bool}{g1 g2:DSt->M Out}{Y:DSt}(h:t Y=some (.ok false)):gSeq (gIf t g1 gNx) g2 Y=g2 Y:=jJf (by rw[w_if h,if_neg (by decide)];rfl)
def jsw{t:DSt->M Bool}{fa:DSt->M D}{g2:DSt->M Out}{Y:DSt}{d:D}(h:t Y=some (.ok true))(hd:fa Y=some (.ok d)):gSeq (gIf t (gRet fa) gNx) g2 Y=some (.ok (.rt d)):=by
 rw[jo7,w_if h,if_pos rfl,jta,hd,M.b_ok];rfl
def jiu{fa:DSt->M D}{Y:DSt}{d:D}(hd:fa Y=some (.ok d)):gRet fa Y=some (.ok (.rt d)):=by rw[jta,hd,M.b_ok];rfl
def jDt{fa:DSt->M D}{Y:DSt}{d:D}(i:Nat)(hd:fa Y=some (.ok d)):gSet i fa Y=some (.ok (.nx (Y.set i (some d)))):=by rw[jxk,hd,M.b_ok];rfl
def jJe{fi:DSt->M (List D)}{tg:D->DSt->Option DSt}{g:DSt->M Out}{Y:DSt}{ds:List D}(h:fi Y=some (.ok ds)):gFor fi tg g Y=forD g tg ds Y:=by rw[jBl,h,M.b_ok]
def jJd{fa:DSt->M D}{Y:DSt}{d:D}{ds:List D}(i:Nat)(hd:fa Y=some (.ok d))(hi:Y[i]? = some (some (.lst ds)))(hl:ds.length<=100000):gApp i fa Y=some (.ok (.nx (Y.set i (some (.lst (ds++[d])))))):=by
 rw[jBk,hd,M.b_ok,hi];exact jrk (by have:=sizeLine_eq;omega)
def jxm{g:DSt->M Out}{tg:D->DSt->Option DSt}{d:D}{ds:List D}{Y Y1 Y2:DSt}(h1:tg d Y=some Y1)(h2:g Y1=some (.ok (.nx Y2))):forD g tg (d::ds) Y=forD g tg ds Y2:=by
 conv=>lhs;unfold forD
 rw[h1];dsimp only;rw[h2];rfl
def jzu{g:DSt->M Out}{tg:D->DSt->Option DSt}{d:D}{ds:List D}{Y Y1:DSt}{v:D}(h1:tg d Y=some Y1)(h2:g Y1=some (.ok (.rt v))):forD g tg (d::ds) Y=some (.ok (.rt v)):=by
 conv=>lhs;unfold forD
 rw[h1];dsimp only;rw[h2];rfl
def stp:=And.intro (@if_true.{1}) <| And.intro (@if_false.{1}) <| And.intro (@Bool.false_eq_true) <| And.intro (@jo7) <| And.intro (@jxk) <| And.intro (@e_2) <| And.intro (@e_1) <| And.intro (@e_t2) <| And.intro (@jta) <| And.intro (@jBm) <| And.intro (@jBl) <| And.intro (@jBn) <| And.intro (@jzr) <| And.intro (@jEj) <| And.intro (@jEi) <| And.intro (@jrx) <| And.intro (@jH1) <| And.intro (@jxi) <| And.intro (@e_C) <| And.intro (@e_L) <| And.intro (@e_if) <| And.intro (@jEn) <| And.intro (@jEl) <| And.intro (@jH0) <| And.intro (@jEm) <| And.intro (@jHz) <| And.intro (@e_nx) <| And.intro (@jHy) <| And.intro (@jBk) <| And.intro (@jHx) <| And.intro (@e_or) <| And.intro (@M.o_some) <| And.intro (@M.b_p) <| And.intro (@M.b_ok) <| And.intro (@jA3) <| And.intro (@joi) <| And.intro (@jwu) <| And.intro (@jxj) <| And.intro (@ix_t) <| And.intro (@ix_l) <| And.intro (@at0) <| And.intro (@at1) <| And.intro (@at2) <| And.intro (@at3) <| And.intro (@jGq) <| And.intro (@jIv) <| And.intro (@jDp) <| And.intro (@jE9) <| And.intro (@jpc) <| And.intro (@jH9) <| And.intro (@jJa) <| And.intro (@jJb) <| And.intro (@jId) <| And.intro (@jIe) <| And.intro (@jIf) <| And.intro (@jIg) <| And.intro (@jBb) <| And.intro (@sub_int) <| And.intro (@neg_int) <| And.intro (@jur) <| And.intro (@jFs) <| And.intro (@lt_int) <| And.intro (@le_int) <| And.intro (@gt_int) <| And.intro (@jEu) <| And.intro (@jD4) <| And.intro (@jG2) <| And.intro (@range1) <| And.intro (@jGg) <| And.intro (@Int.toNat_natCast) <| And.intro (@jxb) <| And.intro (@jC4) <| And.intro (@zip_tt) <| And.intro (@jHn) <| And.intro (@jHm) <| And.intro (@jHl) <| And.intro (@jqp) <| And.intro (@jpb) <| And.intro (@ju2) <| And.intro (@List.replicate_succ.{0}) <| And.intro (@List.replicate_zero.{0}) <| And.intro (@List.set_cons_succ.{0}) <| And.intro (@List.set_cons_zero.{0}) <| And.intro (@List.getElem?_cons_zero.{0}) <| And.intro (@List.getElem?_cons_succ.{0}) <| And.intro (@Option.join_some.{0}) <| And.intro (@List.map_nil.{0,0}) <| And.intro (@List.map_cons.{0,0}) <| And.intro (@List.append_nil.{0}) <| And.intro (@List.cons_append.{0}) <| And.intro (@List.nil_append.{0}) <| And.intro (@Option.bind_some.{0,0}) <| True.intro
end DL
namespace L2
open PyProof.Rows
section
end
end L2
namespace DL
open L2
section
end
section
variable {Jz J J':Rho}{Sz S S' F:qd}{Hz H:Hp}{K:W.Frag}{mg:qa}{O:List Nat}{Z:St}{Y:DSt}{Ω:Sto}
def SOk.no_tup{J:Rho}{S:qd}{K:W.Frag}{mg:qa}{H Hv:Hp}{a:Addr}{so:SO}(h:SOk J S K mg H Hv a so)(xs:List V):H a≠some (.tup xs):=fun q=>by
 cases so with
 | ins c fs =>
  obtain⟨_,_,_,_,p,_⟩:=h;rw[q] at p;cases p
 | lst ds =>
  obtain⟨_,p,_⟩:=h;rw[q] at p;cases p
 | exc c j =>
  cases h with
  | no f C h1 h2=>rw[q] at h2;exact jHk (zby h2).symm
  | yes f j C dx h1 h2 h3=>rw[q] at h3;exact jHk (zby h3).symm
 | xd fs =>
  obtain⟨_,p,_⟩:=h;rw[q] at p;exact jJh (zby p).symm
def RM.putS(R:RM Jz Sz Hz F K mg O J S H Z Y Ω){i:Nat}{a:Addr}{so0 so':SO}{o0 o':HO}(hi:Ω[i]? = some so0)(ha:J i=some a)(hS:S a=true)(hH:H a=some o0)(hno:∀ y,HO.own y≠o0)(hr:SOk J S K mg (upd H a o') (hid H (fob (un F S) Z O)) a so') :
  RM Jz Sz Hz F K mg O J S (upd H a o') Z Y (Ω.set i so')/\hid (upd H a o') (fob (un F S) Z O)=hid H (fob (un F S) Z O):=by
 have hF:un F S a=true:=un_t.mpr (.inr hS);have hh:hid (upd H a o') (fob (un F S) Z O)=hid H (fob (un F S) Z O):=jgd (jgw a hF);have il:i<Ω.length:=(zbb.mp hi).1;refine⟨⟨R.rs.updF hF,R.rho,fun b o h1 h2=>?_,R.old,R.new,R.own0,R.ff,?_⟩,hh⟩
 ·have hb:b≠a:=by
   rintro rfl;rcases R.new b hS with q|q
   ·rw[q] at h1;cases h1
   ·rw[q] at h2;cases h2
  rw[jal hb];exact R.same b o h1 h2
 ·rw[hh];refine⟨fun j so hj=>?_,R.sto.inj,fun j hj=>R.sto.top j (by simpa using hj),fun b hb=>jl2 (R.sto.fin b hb),jl1 R.sto.tv fun xs z=>hr.no_tup xs (by rw[jaq,z])⟩
  by_cases hji:j=i
  ·subst hji;rw[zcz il] at hj;cases hj;exact⟨a,ha,hS,hr⟩
  ·rw[zbw (Ne.symm hji)] at hj;obtain⟨a',q1,q2,q3⟩:=R.sto.ats j so hj;have ne:a'≠a:=by
    rintro rfl;exact hji (R.sto.inj j i a' q1 ha)
   refine⟨a',q1,q2,?_⟩
   cases so with
   | ins c' fs' =>
    obtain⟨C',dx',vfs',p1,p2,p3,p4,p5⟩:=q3;have nd:dx'≠a:=jCi p3 hH (hno _);exact⟨C',dx',vfs',p1,by rw[jal ne];exact p2,by rw[jal nd];exact p3,p4,p5⟩
   | lst ds0 =>
    obtain⟨xs0,p1,p2⟩:=q3;exact⟨xs0,by rw[jal ne];exact p1,p2⟩
   | exc c j=>exact ExcOk.mono (fun _ _ z=>z) (jal ne) q3
   | xd fs =>
    obtain⟨vfs,p1,p2⟩:=q3;exact⟨vfs,by rw[jal ne];exact p1,p2⟩
def RM.newS(R:RM Jz Sz Hz F K mg O J S H Z Y Ω){x:Addr}{nso:SO}{no:HO}(hx:H x=none)(hr:∀ J' S' Hv',RLe J J'->Same (hid H (fob (un F S) Z O)) Hv'->SOk J' S' K mg (upd H x no) Hv' x nso) :
  RM Jz Sz Hz F K mg O (addR J Ω.length x) (addS S x x) (upd H x no) Z Y (Ω++[nso])/\RLe J (addR J Ω.length x) /\
   Same (hid H (fob (un F S) Z O)) (hid (upd H x no) (fob (un F (addS S x x)) Z O)):=by
 have top:=R.sto.top Ω.length (zac _);have l:RLe J (addR J Ω.length x):=fun i a h=>by
  unfold addR
  by_cases e:i=Ω.length
  ·subst e;rw[top] at h;cases h
  ·rw[if_neg e];exact h
 have sm:Same H (upd H x no):=jbs hx;have old:∀ b,S b=true->addS S x x b=true:=fun b h=>addS_t.mpr (.inl h)
 have new:∀ b,addS S x x b=true->S b=true\/H b=none:=fun b h=>by
  rcases addS_t.mp h with q|rfl|rfl
  ·exact .inl q
  ·exact .inr hx
  ·exact .inr hx
 have ff:∀ b,fob F Z O b=true->addS S x x b=false:=fun b h=>by
  have h2:fob (un F S) Z O b=true:=by rw[<- jfx];exact un_t.mpr (.inl h)
  cases e:addS S x x b with
  | false=>rfl
  | true =>
   rcases addS_t.mp e with q|rfl|rfl
   ·rcases fob_t.mp h with z|z
    ·rw[R.ff b z] at q;cases q
    ·exact absurd z (R.base_S q)
   ·rw[R.fresh hx] at h2;cases h2
   ·rw[R.fresh hx] at h2;cases h2
 have keep:∀ b,S b=true->(upd H x no) b=H b:=R.at_store sm;have vis0:Same (hid H (fob (un F S) Z O)) (hid (upd H x no) (un (fob F Z O) (addS S x x))):=fun b o q=>by
  obtain⟨q1,q2⟩:=hid_some.mp q;refine hid_some.mpr ⟨?_,sm b o q2⟩
  cases e:un (fob F Z O) (addS S x x) b with
  | false=>rfl
  | true =>
   rcases un_t.mp e with z|z
   ·have h2:fob (un F S) Z O b=true:=by rw[<- jfx];exact un_t.mpr (.inl z)
    rw[h2] at q1;cases q1
   ·rcases new b z with z|z
    ·have h2:fob (un F S) Z O b=true:=jgw b (un_t.mpr (.inr z));rw[h2] at q1;cases q1
    ·rw[z] at q2;cases q2
 have sto:StoOk (addR J Ω.length x) (addS S x x) K mg (upd H x no) (hid (upd H x no) (un (fob F Z O) (addS S x x))) (Ω++[nso]):=by
  refine⟨fun i so hi=>?_,fun i j a h1 h2=>?_,fun i hi=>?_,fun b hb=>?_,jw4 (jl1 R.sto.tv fun xs z=>(hr J S _ (RLe.refl _) (Same.refl _)).no_tup xs (by rw[jaq,z])) vis0⟩
  ·by_cases h:i<Ω.length
   ·rw[List.getElem?_append_left h] at hi;obtain⟨a,q1,q2,q3⟩:=R.sto.ats i so hi;refine⟨a,l i a q1,old a q2,?_⟩
    cases so with
    | ins c' fs' =>
     obtain⟨C',dx',vfs',p1,p2,p3,p4,p5⟩:=q3;exact⟨C',dx',vfs',p1,by rw[keep a q2];exact p2,by rw[keep dx' p4];exact p3,old _ p4,p5.mono l vis0⟩
    | lst ds =>
     obtain⟨xs,p1,p2⟩:=q3;exact⟨xs,by rw[keep a q2];exact p1,(p2.rho l).mono vis0⟩
    | exc c j=>exact ExcOk.mono l (keep a q2) q3
    | xd fs =>
     obtain⟨vfs,p1,p2⟩:=q3;exact⟨vfs,by rw[keep a q2];exact p1,p2.mono l vis0⟩
   ·have e:i=Ω.length:=by
     have:=(zbb.mp hi).1;simp at this;omega
    subst e;rw[List.getElem?_append_right (zac _),Nat.sub_self] at hi;cases hi;exact⟨x,by unfold addR;rw[if_pos rfl],addS_t.mpr (.inr (.inl rfl)),hr _ _ _ l vis0⟩
  ·have fresh:∀ i a,i≠Ω.length->J i=some a->a≠x:=fun i a hi h z=>by
    subst z;have il:i<Ω.length:=by
     by_cases q:i<Ω.length
     ·exact q
     ·rw[R.sto.top i (by omega)] at h;cases h
    obtain⟨a',q1,q2,_⟩:=R.sto.ats i _ (zax il);rw[h] at q1;cases q1
    exact R.sto.fin a q2 hx
   unfold addR at h1 h2
   by_cases e1:i=Ω.length
   ·by_cases e2:j=Ω.length
    ·rw[e1,e2]
    ·rw[if_pos e1] at h1;rw[if_neg e2] at h2
     cases h1;exact absurd rfl (fresh j _ e2 h2)
   ·by_cases e2:j=Ω.length
    ·rw[if_neg e1] at h1;rw[if_pos e2] at h2
     cases h2;exact absurd rfl (fresh i _ e1 h1)
    ·rw[if_neg e1] at h1;rw[if_neg e2] at h2
     exact R.sto.inj i j a h1 h2
  ·rw[zcb,List.length_singleton] at hi;unfold addR;rw[if_neg (by omega)];exact R.sto.top i (by omega)
  ·rcases addS_t.mp hb with q|rfl|rfl
   ·rw[keep b q];exact R.sto.fin b q
   ·rw[jaq];exact fun z=>nomatch z
   ·rw[jaq];exact fun z=>nomatch z
 obtain⟨t1,t2⟩:=R.call l (fun b o _ h=>sm b o h) old new ff sto;exact⟨t1,l,t2⟩
end
section
end
def forL(k:Nat->D->D)(g:DSt->MS Out)(h:D->DSt->Option DSt)(n:Nat):Nat->Nat->DSt->MS Out
 | 0,_,_=>fun _=>none
 | f+1,i,Y=>fun Ω=>match Ω[n]? with
  | some (.lst ds)=>match ds[i]? with
   | none=>some (.ok (.nx Y),Ω)
   | some d=>match h (k i d) Y with
    | none=>none
    | some Y1=>((g Y1).b fun o=>match o with
     | .nx Y2=>forL k g h n f (i+1) Y2
     | .ct Y2=>forL k g h n f (i+1) Y2
     | .bk Y2=>MS.p (.nx Y2)
     | .rt v=>MS.p (.rt v)) Ω
  | _=>none
def runL(k:Nat->D->D)(g:DSt->MS Out)(h:D->DSt->Option DSt)(fuel:Nat)(Y:DSt):D->MS Out
 | .obj n=>forL k g h n fuel 0 Y
 | _=>fun _=>none
section
end
section
end
section
end
end DL
namespace L2
open PyProof.Rows
section
variable {κ:Type}[DecidableEq κ]
end
section
end
section
end
section
end
section
end
section
end
section
end
section
end
section
end
section
end
end L2
namespace Att
open PySem PySem.W PySem.Calls PyProof.Rows
end Att
namespace L2
open PyProof.Rows
section
variable {κ:Type}[DecidableEq κ]
end
section
variable {prog:Program}{w:World}{κ:Type}[DecidableEq κ]{knd:HeapKind prog w κ}{A:Around}{E:qc}{s:Shared}{d a:Addr}{xs:List (κ×Addr×Value)}{k:κ}
end
section
end
section
end
end L2
namespace DL
open L2
section
end
end DL
namespace L2
open PyProof.Rows
section
end
end L2
namespace DL
open L2
section
end
end DL
namespace DL
open L2 PyProof.Rows
section
def jH5:List D->Option D
 | [.lst [.int i,.int j]]=>some (.int (if j<i then j else i))
 | _=>none
@[simp] theorem kmin1(i j:Int):jH5 [.lst [.int i,.int j]]=some (.int (if j<i then j else i)):=rfl
end
end DL
namespace L2
open PyProof.Rows
section
end
open Att
def jzy{α:Type}(c:Nat->Nat->Bool):W.KasT α->α
 | .ret a=>a
 | .ask i j k=>jzy c (k (c i j))
def jB3{α:Type}(n:Nat):W.KasT α->Bool
 | .ret _=>true
 | .ask i j k=>decide (i<n)&&decide (j<n)&&jB3 n (k true)&&jB3 n (k false)
section
end
section
variable {P:Program}{w:World}{H:Hp}{h:Heap}{a:Addr}{o:HO}
def ObjOk.here(x:ObjOk P w H h a o):∃ ob,h.get? a=some ob:=by
 cases o with
 | lst xs=>obtain⟨_,_,_,_,e⟩:=x;exact⟨_,e⟩
 | tup xs=>obtain⟨_,_,_,o,e,_⟩:=x;exact⟨_,e⟩
 | dK kvs=>obtain⟨_,_,_,_,o,_,_,e,_⟩:=x;exact⟨_,e⟩
 | dT kvs=>obtain⟨_,_,_,_,o,_,_,e,_⟩:=x;exact⟨_,e⟩
 | ins C dx fs=>obtain⟨_,_,_,e,_⟩:=x;exact⟨_,e⟩
 | own y=>exact x
 | xd fs=>obtain⟨_,⟨_,_,_,e,_⟩,_⟩:=x;exact⟨_,e⟩
 | rng lo hi=>obtain⟨_,_,_,e⟩:=x;exact⟨_,e⟩
 | frz ob u=>obtain⟨e,_⟩:=x;exact⟨_,e⟩
 | tbl ps=>exact⟨_,x⟩
 | met f y=>exact⟨_,x⟩
 | ext φ=>exact x.2.1
end
section
end
end L2
namespace DL
open L2
section
end
end DL
namespace DL
open PyProof.Rows L2
section
end
section
end
section
variable {K:W.Frag}{T:Addr}
variable (hT:K.lookup T=some ⟨.none,none,.fields #[],#[]⟩)
include hT
end
section
end
end DL
namespace DL
open L2
section
end
section
end
section
end
section
end
section
end
end DL
namespace L2
open PyProof.Rows
end L2
namespace DL
open PyProof.Rows L2
section
end
section
end
end DL
namespace L2
open PyProof.Rows
open Att
section
def jG1(ts:List (List Int))(n:Nat):List Nat:=(jzy (fun i j=>HT.lexLt (ts.getD i []) (ts.getD j [])) (W.kas_sort n)).toList
end
end L2
namespace DL
open PyProof.Rows L2
section
def okT(ts:List (List Int))(n:Nat):Bool:=decide (2<=n)&&decide (n<64)&&ts.all (fun t=>decide (t.length=3))&&jB3 n (W.kas_sort n)&&(jG1 ts n).all (fun i=>decide (i<n))&&decide ((jG1 ts n).length<=64)
end
def jx2(fa fb:DSt->MS D):DSt->MS D:=fun Y=>(fa Y).b fun x=>match x with
 | .bl true=>fb Y
 | .bl false=>MS.p (.bl false)
 | _=>fun _=>none
section
variable {X:Cx}{O:List Nat}{a b:Expr}{rest:List Expr}{pos:Pos}{fa fb:DSt->MS D}
def jFi{op}(h:ME X O a fa):ME X O (.BoolOp op [a] pos) fa:=fun U s Z H Q I hw=>jAb h U s Z H Q I hw
def jFd(ha:ME X O a fa)(hb:ME X O (.BoolOp .And (b::rest) pos) fb):ME X O (.BoolOp .And (a::b::rest) pos) (jx2 fa fb):=by
 rintro U s Z H Q I ⟨Jz,Sz,Hz,F,J,S,Y,Ω,R,r,Ω',hf,k⟩;refine jz9 ha hb U s Z H Q I ?_;rcases MS.b_inv hf with ⟨x,Ω1,e1,hf⟩|⟨x,e1,rfl⟩
 ·refine⟨Jz,Sz,Hz,F,J,S,Y,Ω,R,.ok x,Ω1,e1,fun u ρ1 S1 H1 R1 l1 v1 r1=>?_⟩
  cases x with
  | bl z =>
   refine⟨z,rep_bl.mp r1,?_⟩
   cases z with
   | true =>
    refine iteT ⟨Jz,Sz,Hz,F,ρ1,S1,Y,Ω1,R1,r,Ω',hf,?_⟩
    cases r with
    | ok d=>exact fun v ρ2 S2 H2 R2 l2 v2 r2=>k v ρ2 S2 H2 R2 (l1.trans l2) (v1.trans v2) r2
    | error y=>trivial
   | false =>
    refine iteF ?_;cases hf;exact k _ ρ1 S1 H1 R1 l1 v1 (rep_bl.mpr rfl)
  | _=>cases hf
 ·exact⟨Jz,Sz,Hz,F,J,S,Y,Ω,R,.error x,_,e1,trivial⟩
end
end DL
namespace L2
open PyProof.Rows
section
end
end L2
namespace DL
open L2
section
end
end DL
namespace L2
open PyProof.Rows Builtin Builtin.ObjectAttr
open PySem.W (Frag InstAt Looks findIn mroIn clsIn findObj takerIn tailIn isFn)
abbrev bmV:List Value:=[.type "ValueError",.type "Exception",.type "BaseException",.type "object"]
def xIn(K:Frag)(C:Addr):Bool:=match K.lookup C with
 | some ⟨.type "type",_,.cls cd,sl⟩=>(match cd.mro,sl.toList with
  | .ref C'::bm,[_,_,_,_,some (.builtin n),_]=>C' == C&&n == "ValueError.__new__"&&!cd.hasDel&&cd.hasDict&&tailIn K bmV bm
  | _,_=>false)
 | _=>false
inductive XAt(K:Frag)(h:Heap)(C:Addr):Prop
 | mk (bm:List Value) (N:Addr) (nm q:Str) (bs:List Value) (sn:List Str) (sub:List Value) (ab:Bool) (col:Option Bool) (dd:Option Addr) (k0 k1 k2 k3 k5:Option Value) (cd:ClassData)
  (hC:h.get? C=some (excClassObj nm q C N bs bm true sn sub ab col dd k0 k1 k2 k3 k5 "ValueError.__new__")) (T:OwnTail h bmV bm) (hk:clsIn K C=some cd) (hm:cd.mro=.ref C::bm) (hd:cd.hasDict=true) (hN:cd.ns=N)
def x_at{K:Frag}{h:Heap}{C:Addr}(X:K.In h)(e:xIn K C=true):XAt K h C:=by
 unfold xIn at e
 split at e
 ·rename_i dd cd sl ho
  split at e
  ·rename_i C' bm k0 k1 k2 k3 n k5 hm hs;simp only[Bool.and_eq_true,beq_iff_eq,Bool.not_eq_true'] at e;obtain⟨⟨⟨⟨e1,e2⟩,e3⟩,e4⟩,e5⟩:=e;subst e1 e2;have hk:clsIn K C'=some cd:=by unfold clsIn;rw[ho]
   have hm0:=hm;have e40:=e4;obtain⟨nm,bs,mro,ns,qn,hd,sn,sub,ab,col,del⟩:=cd;dsimp only at hm e3 e4;subst hm e3 e4;have hsl:sl=#[k0,k1,k2,k3,some (.builtin "ValueError.__new__"),k5]:=by
    obtain⟨l⟩:=sl;simp only at hs;rw[hs]
   subst hsl;exact⟨bm,ns,nm,qn,bs,sn,sub,ab,col,dd,k0,k1,k2,k3,k5,_,X _ _ ho,W.tail_of_in X e5,hk,hm0,e40,rfl⟩
  ·cases e
 ·cases e
def jq9{h:Heap}{bm:List Value}(self:Value)(T:OwnTail h bmV bm):refuseLoop self "__setattr__" bm=pure ():=by
 induction T with
 | base=>exact PySem.F.store_ValueError.passes self
 | own _ _ _ _ ih=>rw[refuseLoop_ref];exact ih
section
variable {prog:Program}{w:World}{A:Around}{E:qc}{s:Shared}{K:Frag}{x C f:Addr}{name:Str}{v:Value}{ox:Obj}{od:Option Obj}
def jHf{rest:List Value}{Q:qc}(X:K.In s.heap)(hx:xIn K C=true)(hi:findIn K (.ref C) "__init__"=some (some (.ref f)))(hf:isFn K (.ref f)=true)
  (hq:∀ h' e,Heap.MadeExcOf s.heap h' e (.ref C) rest->wpAny (model prog w) (A.under (.builtin "type.__call__" ⟨.ref C::rest,[]⟩)) (call (.ref f) (.ref e::rest)) (fun r s'=>r=.none/\Q (.ref e) s') E { s with heap:=h' }) (hrest:rest.length<=sizeLine) :
  wpAny (model prog w) A (call (.ref C) rest) Q E s:=by
 obtain⟨bm,N,nm,q,bs,sn,sub,ab,col,dd,k0,k1,k2,k3,k5,cd,hC,T,hk,hm,hd,hN⟩:=x_at X hx;obtain⟨h,g,d,t,os⟩:=s;have F:=PySem.F.excBase_ValueError;have f1:=tc_lookup;have f2:=tc_bind (.ref C);have hT:(⟨h,g,d,t,os⟩:Shared).TypeIs (.ref C) "type":=⟨_,hC,rfl⟩
 refine wpAny_call (codeAny_of_tree (show wpAny _ _ (callAny (.ref C) _) _ _ _ from ?_))
 repeat (any_goals (first|assumption|with_reducible refine wpAny_loadPart_at hC ?_|wp_step))
 refine⟨rfl,codeAny_call_builtin_at (Code.quiet_builtin _ (by decide +kernel)) entry_typeCall (wpAny_check_type_call_sub hC ?_)⟩
 repeat (first|with_reducible refine wpAny_loadPart_at hC ?_|with_reducible refine wpAny_madeBy_exc hC ?_|wp_step)
 refine codeAny_call_builtin_code (Code.quiet_builtin _ F.quiet) (wpAny_check_new_subT F T hC (codeAny_exc_new_subT F T hC (show wpAny _ _ _ _ _ _ from ?_) hrest));have kp:∀ b o,h.get? b=some o->((h.push { cls:=.type "tuple",data:=.seq rest.toArray }).push { cls:=.ref C,data:=.fields #[.ref h.objs.size,.none,.none,.none,.bool false,.none] }).get? b=some o:=fun b o e=>zaz _ (zaz _ e)
 have hC1:=kp _ _ hC;have X1:K.In ((h.push { cls:=.type "tuple",data:=.seq rest.toArray }).push { cls:=.ref C,data:=.fields #[.ref h.objs.size,.none,.none,.none,.bool false,.none] }):=fun b o e=>kp b o (X b o e)
 have hg1:((h.push { cls:=.type "tuple",data:=.seq rest.toArray }).push { cls:=.ref C,data:=.fields #[.ref h.objs.size,.none,.none,.none,.bool false,.none] }).get? (h.objs.size+1)=some { cls:=.ref C,data:=.fields #[.ref h.objs.size,.none,.none,.none,.bool false,.none] }:=by heap_get
 have hc1:(Value.ref C::bm).contains (.ref C)=true:=by simp
 unfold isInstance
 repeat (first|with_reducible refine wpAny_loadPart_at hg1 ?_|(with_reducible refine wpAny_isSubtype_exc hC1 ?_;rw[hc1])|wp_step)
 refine wpAny_isSubtype_exc (C:=C) hC1 ?_;rw[hc1]
 repeat wp_step
 repeat (first|with_reducible refine wpAny_loadPart_at hg1 ?_|wp_step)
 show wpAny _ _ (typeLookup (.ref C) _) _ _ _;refine (W.looks_findIn X1 hi).at ?_;refine wpAny_holding (zay ((W.bind_fn X1 _ (beq_iff_eq.mp hf)).at ?_));refine zay (wpAny_mono (hq _ (h.objs.size+1) ⟨kp,Heap.get?_none_of_le (Nat.le_succ _),h.objs.size,hg1,Heap.get?_none_of_le (zac _),zaz _ (Heap.get?_push_at rfl rfl)⟩) (fun r s' hr=>?_) fun _ _ z=>z);obtain⟨rfl,hQ⟩:=hr
 wp_walk
 exact hQ
def jDx{K:Frag}{C:Addr}{h:Heap}(X:K.In h)(hx:xIn K C=true){T:String}(hT:bmV.contains (.type T)=true):mroIn K C (.type T)=some true:=by
 obtain⟨bm,N,nm,q,bs,sn,sub,ab,col,dd,k0,k1,k2,k3,k5,cd,hC,Tl,hk,hm,hd,hN⟩:=x_at X hx;unfold mroIn;rw[hk,Option.bind_some,hm,if_neg (fun z=>by cases z),List.contains_cons,Tl.hasType hT,Bool.or_true]
def jHg{R:Result->Shared->Prop}{tk:Tok}(X:K.In s.heap)(I:InstAt s.heap x ox C od)(hx:xIn K C=true)(ht:takerIn K C name=some none)
  (h:∀ b,wpAny (model prog w) A.in1 (storeInOwnDict (.ref x) (.ref C) (.str name tk) name v b) (fun fin s'=>match fin with|.done f=>R (.ok f) s'|.again c'=>c'.quiet=true/\codeAny (model prog w) A c' R s') (fun e s'=>R (.error e) s') s) :
  codeAny (model prog w) A (.call (.builtin "object.__setattr__") ⟨[.ref x,.str name tk,v],[]⟩) R s:=by
 have SF:=PySem.F.store_object;have sub:Looks (model prog w) s.heap (isInstance (.ref x) (.type "object")) true:=I.type.andThen (W.looks_mroIn X (jDx X hx (by decide)));obtain⟨bm,N,nm,q,bs,sn,sub',ab,col,dd,k0,k1,k2,k3,k5,cd,hC,Tl,hk,hm,hd,hN⟩:=x_at X hx;have hmr:Looks (model prog w) s.heap (mroOf (.ref C)) (.ref C::bm):=by
  have:=(W.looks_clsIn (M:=model prog w) X hk).andThen (f:=fun cd=>pure cd.mro) (b:=cd.mro) .now;rw[hm] at this;exact this
 refine codeAny_call_builtin SF.slot.plain SF.entry (@W.check_slot (model prog w) _ _ s "object.__setattr__" "object" "__setattr__" (.ref x) [.str name tk,v] [] _ SF.kind SF.split sub (SF.args (.ref x) (.str name tk) v) ?_);obtain⟨attr,ha,hr⟩:=Option.bind_eq_some_iff.mp ht;have L3:Looks (model prog w) s.heap (storeTaker? attr) none:=by
  cases attr with
  | none=>exact .now
  | some a =>
   obtain⟨b,hb,e⟩:=Option.map_eq_some_iff.mp hr
   cases b with
   | false=>exact (W.looks_takesIn X hb).andThen .now
   | true=>cases e
 rw[W.osa_eq,refuse_eq];refine zay (zay (I.type.here (zay (hmr.here ?_))));rw[refuseLoop_ref,jq9 _ Tl];exact zab (zay (I.type.here (zay ((W.looks_findIn X ha).here (zay (L3.here (h _)))))))
def jrh{h:Heap}{vs:Array Value}{sl:qe}(e:h.get? x=some (xOb C none vs sl)):InstAt h x (xOb C none vs sl) C none:=⟨e,rfl,rfl,trivial⟩
def jop{h:Heap}{vs:Array Value}{sl:qe}{dx:Addr}{o:Obj}(e:h.get? x=some (xOb C (some dx) vs sl))(e2:h.get? dx=some o):InstAt h x (xOb C (some dx) vs sl) C (some o):=⟨e,rfl,rfl,e2⟩
def jHh{vs:Array Value}{sl:qe}{Q:Unit->Shared->Prop}(X:K.In s.heap)(h0:s.heap.get? x=some (xOb C none vs sl))(hx:xIn K C=true)(hs:findIn K (.ref C) "__setattr__"=some (some (.builtin "object.__setattr__")))(ht:takerIn K C name=some none)
  (h:∀ h':Heap,h'.get? x=some (xOb C (some s.heap.objs.size) vs sl)->h'.Ns1 s.heap.objs.size (fun y=>if y=name then some v else none)->(∀ b ob,b≠x->s.heap.get? b=some ob->h'.get? b=some ob)->Q () { s with heap:=h',toks:=s.toks+2 }) :
  wpAny (model prog w) A (setAttr (.ref x) name v) Q E s:=by
 have I:=jrh h0;refine W.set_plain X I hs (jHg (s:={ s with toks:=s.toks+1 }) X I hx ht fun b=>?_);obtain⟨bm,N,nm,q,bs,sn,sub',ab,col,dd,k0,k1,k2,k3,k5,cd,hC,Tl,hk,hm,hd,hN⟩:=x_at X hx;have hxs:x≠s.heap.objs.size:=zcv (zbv h0);have h1:(s.heap.push { cls:=.type "dict",data:=.dict #[] }).get? x=some (xOb C none vs sl):=zaz _ h0;refine zay (zab (zay (zay (wpAny_loadPart h0 (zay (Looks.here (s:={ s with toks:=s.toks+1 }) (W.looks_clsIn X hk) ?_))))));rw[hd];refine (show wpAny (model prog w) A.in1 (alloc { cls:=Value.type "dict",data:=Data.dict #[] } >>= fun d=>update x (fun o=>{ cls:=o.cls,dict:=some d,data:=o.data,slots:=o.slots }) >>= fun _=>(pure (some d):Sem (Option Addr))) _ _ _ from ?_);refine zay (wpAny_alloc (zay (wpAny_update h1 (zab ?_))));have g1:((s.heap.push { cls:=.type "dict",data:=.dict #[] }).update x fun o=>{ cls:=o.cls,dict:=some s.heap.objs.size,data:=o.data,slots:=o.slots }).get? s.heap.objs.size=some { cls:=.type "dict",data:=.dict #[] }:=by
  rw[Heap.get?_update_ne _ _ _ _ hxs.symm];exact zbz _ rfl
 have g2:((s.heap.push { cls:=.type "dict",data:=.dict #[] }).update x fun o=>{ cls:=o.cls,dict:=some s.heap.objs.size,data:=o.data,slots:=o.slots }).Ns s.heap.objs.size (fun _=>none) :=
  ⟨_,#[],_,g1,rfl,(fun e he=>absurd he (by simp)),fun _=>rfl⟩
 show wpAny _ _ (storeInDict s.heap.objs.size (.str name s.toks) name v) _ _ _;unfold storeInDict newKeyGuard;refine zay (zab (zay (wpAny_nsSet1 (s:=⟨(s.heap.push { cls:=.type "dict",data:=.dict #[] }).update x fun o=>{ cls:=o.cls,dict:=some s.heap.objs.size,data:=o.data,slots:=o.slots },s.gens,s.drawn,s.toks+1,s.os⟩) (Heap.Ns1.of_empty g2) fun h' hn' hsb=>?_)));obtain⟨oD,esD,epD,hoD,hdD,hcD⟩:=hn'.count (PySem.Within.cons name v PySem.Within.nil);refine zay (wpAny_lookBehind hoD (by rw[hdD];exact pastItsLine_dict (zdx hcD (by rw[List.length_cons,List.length_nil,sizeLine_eq];omega))) ?_);refine zab (h h' ?_ hn' fun b ob nb hb=>?_)
 ·refine (hsb.2 x hxs).trans (Heap.get?_update_self _ h1 rfl)
 ·exact (hsb.2 b (zcv (zbv hb))).trans ((Heap.get?_update_ne _ _ _ _ nb).trans (zaz _ hb))
def jHi{vs:Array Value}{sl:qe}{dx:Addr}{mA:qa}{ns:List Str}{Q:Unit->Shared->Prop}(X:K.In s.heap)(h0:s.heap.get? x=some (xOb C (some dx) vs sl))(hn:s.heap.Ns1 dx mA)(hx:xIn K C=true)
  (hs:findIn K (.ref C) "__setattr__"=some (some (.builtin "object.__setattr__"))) (ht:takerIn K C name=some none) (hw:PySem.Within mA ns) (hsz:ns.length<=sizeLine)
  (h:∀ h':Heap,h'.Ns1 dx (fun y=>if y=name then some v else mA y)->Heap.SameBut dx s.heap h'->Q () { s with heap:=h',toks:=s.toks+2 }) :
  wpAny (model prog w) A (setAttr (.ref x) name v) Q E s:=by
 obtain⟨od,_,_,e1,_⟩:=id hn;have I:=jop h0 e1;refine W.set_plain X I hs (jHg (s:={ s with toks:=s.toks+1 }) X I hx ht fun b=>?_);obtain⟨bm,N,nm,q,bs,sn,sub',ab,col,dd,k0,k1,k2,k3,k5,cd,hC,Tl,hk,hm,hd,hN⟩:=x_at X hx;refine zay (zab (zay (zay (wpAny_loadPart h0 (zay (Looks.here (s:={ s with toks:=s.toks+1 }) (W.looks_clsIn X hk) ?_))))));rw[hd];refine zab (a:=some dx) (zay (zab (zay (wpAny_nsSet1 (s:={ s with toks:=s.toks+1 }) hn fun h' hn2 hs2=>?_))));obtain⟨oD,esD,epD,hoD,hdD,hcD⟩:=hn2.count (PySem.Within.cons name v hw);exact zay (wpAny_lookBehind hoD (by rw[hdD];exact pastItsLine_dict (zdx hcD (by rw[List.length_cons];omega))) (zab (h _ hn2 hs2)))
end
end L2
namespace L2
open PyProof.Rows Builtin Builtin.ObjectAttr
open PySem.W (Frag InstAt Looks findIn mroIn clsIn findObj takerIn specialIn takesIn hasDictIn isFn)
section
variable {prog:Program}{w:World}{A:Around}{E:qc}{s:Shared}{K:Frag}{x C f:Addr}{name:Str}{v:Value}{ox:Obj}{od:Option Obj}
def jxz:builtinKind "BaseException.__getattribute__"=some .slot:=by decide +kernel
def jww:splitId "BaseException.__getattribute__"=some ("BaseException","__getattribute__"):=by decide +kernel
def x_ga{R:Result->Shared->Prop}{tk:Tok}(X:K.In s.heap)(I:InstAt s.heap x ox C od)(hx:xIn K C=true)
  (h:wpAny (model prog w) A.in1 (Builtin.«object.__getattribute__» ⟨[.ref x,.str name tk],[]⟩) (fun fin s'=>match fin with|.done f=>R (.ok f) s'|.again c'=>c'.quiet=true/\codeAny (model prog w) A c' R s') (fun e s'=>R (.error e) s') s) :
  codeAny (model prog w) A (.call (.builtin "BaseException.__getattribute__") ⟨[.ref x,.str name tk],[]⟩) R s:=by
 have sub:Looks (model prog w) s.heap (isInstance (.ref x) (.type "BaseException")) true:=I.type.andThen (W.looks_mroIn X (jDx X hx (by decide)));exact codeAny_call_builtin PySem.F.excAttr_ValueError.ga.plain PySem.F.entry_bexc_ga (@W.check_slot (model prog w) _ _ s "BaseException.__getattribute__" "BaseException" "__getattribute__" (.ref x) [.str name tk] [] _ jxz jww sub (PySem.F.args_bexc_ga _ _) h)
def x_by{tk:Tok}{fill expr:Bool}{Q:qc}(X:K.In s.heap)(I:InstAt s.heap x ox C od)(hx:xIn K C=true)(hga:findIn K (.ref C) "__getattribute__"=some (some (.builtin "BaseException.__getattribute__")))(hgh:findIn K (.ref C) "__getattr__"=some none)
  (h:wpAny (model prog w) A.in1 (Builtin.«object.__getattribute__» ⟨[.ref x,.str name tk],[]⟩) (fun fin s'=>match fin with|.done (.ret v)=>wpAny (model prog w) A (handedOut v) Q E s'|_=>False) (fun _ _=>False) s) :
  wpAny (model prog w) A (getAttrBy (.ref x) (.str name tk) fill expr) Q E s:=by
 have L0:=I.type (M:=model prog w);have L1:=W.looks_findIn (M:=model prog w) X hga;have L2:=W.looks_hook (M:=model prog w) (mc:=.ref C) (r:=none) X hgh;unfold getAttrBy;refine wpAny_holding (zay (L0.here (zay (L1.here ?_))));show wpAny _ _ (getAttrByItsOwn (.ref x) (.str name tk) (.ref C) (.builtin "BaseException.__getattribute__") fill expr) _ _ _;unfold getAttrByItsOwn;refine zay (L2.here (zay (wpAny_attempt (wpAny_holding ?_))));have e0:callGetattribute (.ref x) (.str name tk) (.builtin "BaseException.__getattribute__") expr=boundAndCalled (.builtin "BaseException.__getattribute__") (.ref x) (.str name tk):=by cases expr<;>rfl
 rw[e0];unfold boundAndCalled;rw[PySem.F.excAttr_ValueError.ga.bind];refine zay (zab (wpAny_call (x_ga X I hx (wpAny_mono h (fun fin s' z=>?_) fun _ _ z=>z.elim))));rcases fin with (_|_|_|_)|_<;>first|exact z|exact z.elim
def jAt{tk:Tok}{r:Found}{Q:PySem.Fin->Shared->Prop}(X:K.In s.heap)(I:InstAt s.heap x ox C od)(hf:findObj K C od name=some r)
  (h:wpAny (model prog w) A (match r with|.value v=>ret v|.bind g a=>bindTo g a (.ref x) (.ref C)|.missing=>unsupported "no") Q E s) (hr:r≠.missing) :
  wpAny (model prog w) A (Builtin.«object.__getattribute__» ⟨[.ref x,.str name tk],[]⟩) Q E s:=by
 have L0:=I.type (M:=model prog w);have L1:=W.looks_find (M:=model prog w) X I hf;refine zay (zab (zay (zab (zay (L0.here (zay (L1.here ?_)))))))
 cases r with
 | value v=>exact h
 | bind g a=>exact h
 | missing=>exact absurd rfl hr
def jHe{h:Heap}(X:K.In h)(hx:xIn K C=true):hasDictIn K C=true:=by
 obtain⟨bm,N,nm,q,bs,sn,sub',ab,col,dd,k0,k1,k2,k3,k5,cd,hC,Tl,hk,hm,hd,hN⟩:=x_at X hx;unfold hasDictIn;rw[hk];exact hd
def jJg{vs:Array Value}{sl:qe}{dx:Addr}{mA:qa}{expr:Bool}{Q:qc}(X:K.In s.heap)(h0:s.heap.get? x=some (xOb C (some dx) vs sl))(hn:s.heap.Ns1 dx mA)(hx:xIn K C=true)
  (hga:findIn K (.ref C) "__getattribute__"=some (some (.builtin "BaseException.__getattribute__"))) (hgh:findIn K (.ref C) "__getattr__"=some none) (ha:findIn K (.ref C) name=some none) (hv:mA name=some v) (hh:W.handedIn v=true)
  (h:Q v { s with toks:=s.toks+1 }):wpAny (model prog w) A (getAttr (.ref x) name expr) Q E s:=by
 obtain⟨o,ho,hl⟩:=jpd hn;have I:=jop h0 ho;unfold getAttr;refine zay (wpAny_mkText (x_by (s:={ s with toks:=s.toks+1 }) X I hx hga hgh (jAt (s:={ s with toks:=s.toks+1 }) X I (r:=.value v) (W.findObj_own (jHe X hx) ha rfl (by rw[hl,hv])) (zab (W.handed_on hh h)) (fun z=>nomatch z))))
def jDv{Q:Option Value->Shared->Prop}(X:K.In s.heap)(I:InstAt s.heap x ox C od)(hx:xIn K C=true)(hga:findIn K (.ref C) "__getattribute__"=some (some (.builtin "BaseException.__getattribute__")))(hgh:findIn K (.ref C) "__getattr__"=some none)
  (ha:findIn K (.ref C) "__class__"=some (some (.builtin "object.__class__"))) (hn:specialIn K (.builtin "object.__class__") "__get__"=some (some (.builtin "getset_descriptor.__get__"))) (htk:takesIn K (.builtin "object.__class__")=some true)
  (h:Q (some (.ref C)) { s with toks:=s.toks+1 }):wpAny (model prog w) A (getAttr? (.ref x) "__class__") Q E s:=by
 obtain⟨bm,N,nm,q,bs,sn,sub',ab,col,dd,k0,k1,k2,k3,k5,cd,hC,Tl,hk,hm,hd,hN⟩:=x_at X hx;have hf:findObj K C od "__class__"=some (.bind (.builtin "getset_descriptor.__get__") (.builtin "object.__class__")):=by
  unfold W.findObj;rw[hk,Option.bind_some,ha,Option.bind_some];dsimp only;rw[hn,Option.bind_some];dsimp only;rw[htk];rfl
 unfold getAttr? getAttrBy?;refine zay (wpAny_mkText (zay (wpAny_attempt (x_by (s:={ s with toks:=s.toks+1 }) X I hx hga hgh (jAt (s:={ s with toks:=s.toks+1 }) X I hf (show wpAny _ _ (holding [Value.builtin "object.__class__"] (call (.builtin "getset_descriptor.__get__") [.builtin "object.__class__",.ref x,.ref C]) >>= ret) _ _ _ from ?_) (fun z=>nomatch z))))));refine zay (wpAny_holding (wpAny_call (W.class_get (s:={ s with toks:=s.toks+1 }) X I (jDx X hx (by decide)) (zab (W.handed_on rfl (zab h))))))
def jzz(hx:xIn K C=true)(hga:findIn K (.ref C) "__getattribute__"=some (some (.builtin "BaseException.__getattribute__")))(hgh:findIn K (.ref C) "__getattr__"=some none)
  (ha:findIn K (.ref C) "__class__"=some (some (.builtin "object.__class__"))) (hn:specialIn K (.builtin "object.__class__") "__get__"=some (some (.builtin "getset_descriptor.__get__"))) (htk:takesIn K (.builtin "object.__class__")=some true) :
  W.KitX K (.ref x) (.ref C) (fun h=>∃ ox od,InstAt h x ox C od) where
 ty:=fun _ _ _ ⟨_,_,I⟩=>I.type
 it:=fun _ _ X _=>by
  obtain⟨bm,N,nm,q,bs,sn,sub',ab,col,dd,k0,k1,k2,k3,k5,cd,hC,Tl,hk,hm,hd,hN⟩:=x_at X hx;intro A' Q' E' s' k z;unfold isType loadHead;exact zay (wpAny_loadPart (k _ _ hC) (zab z))
 ne:=fun h tp dd its n sl X htp=>by
  obtain⟨bm,N,nm,q,bs,sn,sub',ab,col,dd',k0,k1,k2,k3,k5,cd,hC,Tl,hk,hm,hd,hN⟩:=x_at X hx;refine Bool.eq_false_iff.mpr fun q=>?_
  rw[<- Value.ref.inj (beq_iff_eq.mp q),hC] at htp;exact absurd (Value.type.inj (congrArg Obj.cls (zby htp))) (by decide)
 ca:=fun X ⟨_,_,I⟩ z=>jDv X I hx hga hgh ha hn htk z
end
end L2
namespace L2
open PyProof.Rows
open PySem.W (Frag InstAt Looks findIn mroIn clsIn findObj takerIn specialIn takesIn hasDictIn isFn)
structure XCls(K:Frag)(C:Addr):Prop where
 x:xIn K C=true
 sa:findIn K (.ref C) "__setattr__"=some (some (.builtin "object.__setattr__"))
 ga:findIn K (.ref C) "__getattribute__"=some (some (.builtin "BaseException.__getattribute__"))
 gh:findIn K (.ref C) "__getattr__"=some none
 cl:findIn K (.ref C) "__class__"=some (some (.builtin "object.__class__"))
 kp:W.keepIn K (.ref C)=true
def xCls(K:Frag)(C:Addr):Bool:=xIn K C&&findIn K (.ref C) "__setattr__" == some (some (.builtin "object.__setattr__"))&&findIn K (.ref C) "__getattribute__" == some (some (.builtin "BaseException.__getattribute__"))&&findIn K (.ref C) "__getattr__" == some none&&findIn K (.ref C) "__class__" == some (some (.builtin "object.__class__"))&&W.keepIn K (.ref C)
def jDz{K:Frag}{C:Addr}(h:xCls K C=true):XCls K C:=by
 unfold xCls at h;simp only[Bool.and_eq_true,beq_iff_eq] at h;obtain⟨⟨⟨⟨⟨h1,h2⟩,h3⟩,h4⟩,h5⟩,h6⟩:=h;exact⟨h1,h2,h3,h4,h5,h6⟩
section
variable {X:Cx}{U:qb}{Z:St}{H:Hp}{s:Shared}{h':Heap}{A:Around}{E:qc}{a C dx:Addr}{fs:List (Str×V)}{f:Str}
def jqi{P:Program}{w:World}{φ:Heap->Prop}{h:Heap}(e:φ h)(o:∃ ob,h.get? a=some ob)(k:∀ h1 h2:Heap,φ h1->(∀ ob,h1.get? a=some ob->h2.get? a=some ob)->φ h2):ObjOk P w H h a (.ext φ):=⟨e,o,k⟩
def jsy{P:Program}{w:World}{h:Heap}{od:Option Addr}{fr:Bool}{vs:Array Value}{sl:qe}(e:h.get? a=some (xOb C od vs sl))(ef:fr=true->vs[1]? = some .none):ObjOk P w H h a (XO a C od fr):=jqi ⟨vs,sl,e,ef⟩ ⟨_,e⟩ fun _ _ ⟨vs,sl,e,ef⟩ k=>⟨vs,sl,k _ e,ef⟩
def jAu{P:Program}{w:World}{h:Heap}(e:XDv a fs h):ObjOk P w H h a (XDc a fs):=by
 refine jqi e ?_ ?_
 ·obtain⟨mA,⟨o,_,_,q,_⟩,_⟩:=e;exact⟨o,q⟩
 ·rintro h1 h2 ⟨mA,n,r,w',l⟩ k;exact⟨mA,n.at k,r,w',l⟩
def jqb{od:Option Addr}{fr:Bool}(I:Inv X U Z H s)(e:H a=some (XO a C od fr)):∃ vs sl,s.heap.get? a=some (xOb C od vs sl)/\(fr=true->vs[1]? = some .none):=(show ObjOk X.prog X.w H s.heap a (XO a C od fr) from I.hok a _ e).1
def jzf(I:Inv X U Z H s)(e:H dx=some (XDc dx fs)):XDv dx fs s.heap:=(show ObjOk X.prog X.w H s.heap dx (XDc dx fs) from I.hok dx _ e).1
def Inv.laidX{o:HO}{t':Nat}(I:Inv X U Z H s)(k:∀ b u,s.heap.get? b=some u->h'.get? b=some u)(hD:s.heap.get? a=none)(new:ObjOk X.prog X.w (upd H a o) h' a o):Inv X U Z (upd H a o) { s with heap:=h',toks:=t' }:=by
 have hn:H a=none:=by
  cases e:H a with
  | none=>rfl
  | some u=>obtain⟨o,q⟩:=(I.hok a u e).here;rw[hD] at q;cases q
 have nD:∀ b o,s.heap.get? b=some o->b≠a:=fun b o e z=>by rw[z,hD] at e;cases e
 have nD':∀ b u,H b=some u->b≠a:=fun b u e z=>by rw[z,hn] at e;cases e
 refine I.un ⟨fun b u q _ _ _=>k b u q,fun b u q _ _ _=>⟨u.slots,k b u q⟩,fun b u q n _=>by rw[jal (nD b u q)];exact n,fun b u q _=>⟨u,k b u q⟩,fun b xs q=>by rw[jal (nD' b _ q)];exact q,fun b u xs q=>by rw[jal (nD' b _ q)];exact q,fun b ps q=>⟨#[],by rw[jal (nD' b _ q),q];simp⟩⟩ fun b u e=>?_
 by_cases z:b=a
 ·subst z;rw[jaq] at e;cases e;exact new
 ·rw[jal z] at e;exact (I.hok b u e).stay (fun c v _ q=>k c v q) (fun c q=>by rw[jal (nD' c _ q)];exact q) fun c xs q=>by rw[jal (nD' c _ q)];exact q
def jno{h:Heap}{b:Addr}(I:Inv X U Z H s)(hD:s.heap.get? b=none):H b=none:=by
 cases e:H b with
 | none=>rfl
 | some u=>obtain⟨o,q⟩:=(I.hok b u e).here;rw[hD] at q;cases q
def jzg{y:V}{u:Value}{fr:Bool}{Q:Unit->Shared->Prop}(I:Inv X U Z H s)(e:H a=some (XO a C none fr))(c:XCls X.K C)(ht:takerIn X.K C f=some none)(ry:RelV y u)
  (h:∀ d s',H d=none->Inv X U Z (upd (upd H d (XDc d [(f,y)])) a (XO a C (some d) fr)) s'->Q () s'):wpAny (model X.prog X.w) A (setAttr (.ref a) f u) Q E s:=by
 obtain⟨vs,sl,h0,hf0⟩:=jqb I e;refine jHh I.kIn h0 c.x c.sa ht fun h' e1 n1 k1=>?_
 have hD:s.heap.get? s.heap.objs.size=none:=Heap.get?_none_of_le (zac _);have hn:=jno (h:=s.heap) I hD;have ne:a≠s.heap.objs.size:=fun z=>by rw[z,hD] at h0;cases h0
 have nd:XDv s.heap.objs.size [(f,y)] h':=by
  refine⟨_,n1,fun g=>?_,fun g hg=>?_,Nat.le_of_ble_eq_true rfl⟩
  ·show RelO (List.lookup g [(f,y)]) (if g=f then some u else none)
   by_cases q:g=f
   ·subst q;rw[if_pos rfl,List.lookup_cons,beq_self_eq_true];exact ry
   ·rw[if_neg q,List.lookup_cons,show (g == f)=false by simpa using q];exact True.intro
  ·by_cases q:g=f
   ·subst q;exact zcc.mpr rfl
   ·exact absurd (if_neg q) hg
 refine h s.heap.objs.size _ hn ?_;have nD:∀ b o,s.heap.get? b=some o->b≠s.heap.objs.size:=fun b o q z=>by rw[z,hD] at q;cases q
 have nD':∀ b u,H b=some u->b≠s.heap.objs.size:=fun b u q z=>by rw[z,hn] at q;cases q
 have na:∀ b,H b=none->b≠a:=fun b q z=>by rw[z,e] at q;cases q
 have nx:∀ b u,H b=some u->(∀ φ,u≠.ext φ)->b≠a:=fun b u q hu z=>by rw[z,e] at q;cases q;exact hu _ rfl
 refine I.un ⟨fun b u q n _ _=>k1 b u (na b n) q,fun b u q n _ _=>⟨u.slots,k1 b u (na b n) q⟩,fun b u q n _=>by rw[jal (na b n),jal (nD b u q)];exact n,fun b u q _=>?_,fun b xs q=>by rw[jal (nx b _ q fun _ z=>nomatch z),jal (nD' b _ q)];exact q,
  fun b u xs q=>by rw[jal (nx b _ q fun _ z=>nomatch z),jal (nD' b _ q)];exact q,fun b ps q=>⟨#[],by rw[jal (nx b _ q fun _ z=>nomatch z),jal (nD' b _ q),q];simp⟩⟩ fun b w eb=>?_
 ·by_cases z:b=a
  ·rw[z];exact⟨_,e1⟩
  ·exact⟨u,k1 b u z q⟩
 ·by_cases z:b=a
  ·subst z;rw[jaq] at eb;cases eb;exact jsy e1 hf0
  ·rw[jal z] at eb
   by_cases z2:b=s.heap.objs.size
   ·subst z2;rw[jaq] at eb;cases eb;exact jAu nd
   ·rw[jal z2] at eb;refine (I.hok b w eb).stay (fun c v hc q=>k1 c v ?_ q) (fun c q=>by rw[jal (nx c _ q fun _ z=>nomatch z),jal (nD' c _ q)];exact q) fun c xs q=>by rw[jal (nx c _ q fun _ z=>nomatch z),jal (nD' c _ q)];exact q
    rcases hc with r|r
    ·rw[r];exact z
    ·exact nx c _ r fun _ z=>nomatch z
def jzh{y:V}{u:Value}{fr:Bool}{Q:Unit->Shared->Prop}(I:Inv X U Z H s)(e:H a=some (XO a C (some dx) fr))(ed:H dx=some (XDc dx fs))(c:XCls X.K C)(ht:takerIn X.K C f=some none)(hl:fs.length<1000)(ry:RelV y u)
  (h:∀ s',Inv X U Z (upd H dx (XDc dx (putF f y fs))) s'->Q () s'):wpAny (model X.prog X.w) A (setAttr (.ref a) f u) Q E s:=by
 obtain⟨vs,sl,h0,hf0⟩:=jqb I e;obtain⟨mA,n,r,wi,_⟩:=jzf I ed;refine jHi I.kIn h0 n c.x c.sa ht wi (by rw[zav,sizeLine_eq];omega) fun h' n' sb=>h _ ?_
 have hd:∃ o,h'.get? dx=some o:=let ⟨o,_,_,e',_⟩:=n';⟨o,e'⟩
 refine I.write (x:=dx) (e:=dx) (by rw[ed];exact True.intro) (.inl rfl) (fun b q hb z=>(sb.2 b hb).trans z) hd (jAu ⟨_,n',fun g=>?_,fun g hg=>?_,?_⟩)
 ·show RelO ((putF f y fs).lookup g) (if g=f then some u else mA g);rw[jiq]
  by_cases q:g=f
  ·rw[if_pos q,if_pos q];exact ry
  ·rw[if_neg q,if_neg q];exact r g
 ·by_cases q:g=f
  ·rw[q];exact (jhb f y fs).1
  ·exact (jhb f y fs).2 g (wi g fun z=>hg ((if_neg q).trans z))
 ·have:=jip f y fs;omega
def jD0{v:V}{ex fr:Bool}{Q:qc}(I:Inv X U Z H s)(e:H a=some (XO a C (some dx) fr))(ed:H dx=some (XDc dx fs))(c:XCls X.K C)(ht:findIn X.K (.ref C) f=some none)(l:fs.lookup f=some v)
  (h:∀ u s',Inv X U Z H s'->RelV v u->Q u s'):wpAny (model X.prog X.w) A (getAttr (.ref a) f ex) Q E s:=by
 obtain⟨vs,sl,h0,hf0⟩:=jqb I e;obtain⟨mA,n,r,wi,_⟩:=jzf I ed;obtain⟨u,hu,ru⟩:=RelO.some_of (v:=v) (o:=mA f) (by rw[<- l];exact r f);exact jJg I.kIn h0 n c.x c.ga c.gh ht hu (jpa ru) (h u _ (I.tok _) ru)
def jB7{h h':Heap}{us:List Value}(m:Heap.MadeExcOf h h' a (.ref C) us):∃ vs sl,h'.get? a=some (xOb C none vs sl)/\vs[1]? = some .none:=by
 obtain⟨_,_,t,e,_⟩:=m;exact⟨_,_,e,rfl⟩
end
structure XMk(K:Frag)(C f:Addr):Prop where
 c:XCls K C
 init:findIn K (.ref C) "__init__"=some (some (.ref f))
 fn:isFn K (.ref f)=true
section
variable {X:Cx}{CX:CXT}{k:Nat}{f C:Addr}{fd:FuncData}{ps:List Str}{sp:Sp}{E:XK}{x m:Str}{p pos:Pos}{e o value:Expr}{es:List Expr}{ta tv:TE}{t:TA}
def jwl{U:qb}{Z:St}{H:Hp}{s:Shared}{Q:VK}{us:List Value}{vs:List V}(M:XMk X.K C f)(F:FnOk X.prog X.w X.K X.mg X.base CX k f fd ps sp)(hr:Room (k+1) X.A)(hb:Binds X.K fd ps [])
  (hx:jj6 CX X E) (I:Inv X U Z H s) (r:Vals vs us) (hz:vs.length<=1000)
  (h:∀ a,H a=none->sp (.ref a::vs) (upd H a (XO a C none true)) (fun v H2=>v=.non/\Q (.ref a) H2) E) :
  wpAny (model X.prog X.w) X.A (call (.ref C) us) (EP X U Z Q) X.xe s:=by
 refine jHf I.kIn M.c.x M.init M.fn (fun h' a m=>?_) (by rw[<- r.length,sizeLine_eq];omega);have hn:=jno (h:=s.heap) I m.new;have hq:=h a hn;obtain⟨w1,w2,w3,w4⟩:=jB7 m;have I2:Inv X U Z (upd H a (XO a C none true)) { s with heap:=h' }:=I.laidX (t':=s.toks) m.keeps m.new (jsy w3 fun _=>w4);have r2:Vals (V.ref a::vs) (Value.ref a::us):=.cons rfl r;have hl:(Value.ref a::us++[]).length=ps.length:=by
  rw[List.append_nil];have e:=r2.length;rw[F.len _ _ _ _ hq] at e;exact e.symm
 refine wpAny_call (codeAny_mono (F.run _ X.stack _ _ ⟨Value.ref a::us,[]⟩ (Value.ref a::us++[]) _ _ E (hr.make C us []) (I2.env0.make C us []) (hb _ (Value.ref a::us) I2.kIn hl) (by rw[List.append_nil];exact r2) hq) fun r s' hq'=>?_)
 cases r with
 | error e=>exact hx U Z _ _ e s' I2 hq'
 | ok fl =>
  cases fl with
  | ret u =>
   obtain⟨v,H',I3,rv,ev,q3⟩:=I2.after hq';subst ev;exact⟨rv,⟨V.ref a,H',I3,rfl,q3⟩⟩
  | next=>exact False.elim hq'
  | brk=>exact False.elim hq'
  | cont=>exact False.elim hq'
def jG0(C:Addr)(sp:Sp)(E:XK)(t:TA):TE:=fun Z H Q=>t Z H fun vs H1=>vs.length<=1000/\∀ a,H1 a=none->sp (.ref a::vs) (upd H1 a (XO a C none true)) (fun v H2=>v=.non/\Q (.ref a) H2) E
def jyl(M:XMk X.K C f)(F:FnOk X.prog X.w X.K X.mg X.base CX k f fd ps sp)(hr:Room (k+1) X.A)(hg:Gl X x)(hm:X.mg x=some (.ref C))(hb:Binds X.K fd ps [])(hx:jj6 CX X E)
  (ha:PA X (e::es) t) (hdb:(x == ("__debug__":Str))=false:=by decide) (he:zsE e es X.env:=by rfl) (hpl:zbT pos es X.env:=by rfl) :
  PE X (.Call (.Name x p) (e::es) [] pos) (jG0 C sp E t):=by
 intro U s Z H Q I h;refine wpAny_Call_Name_kw (jju I hg hm ?_ hdb);exact W.callWith_K (h₀:=X.base) I.ok.mod.kin M.c.kp (thn (ha pos U s Z H _ I h) fun us s1 ⟨vs,H1,I1,r,hz,q⟩=>⟨I1.kIn,jwl M F hr hb hx I1 r hz q⟩) he hpl
inductive tXFld(K:Frag)(ta:TE)(g:Str)(Z:St)(H:Hp)(Q:VK):Prop
 | mk (h:ta Z H fun x H1=>∃ a C dx fr fs v,x=.ref a/\H1 a=some (XO a C (some dx) fr)/\H1 dx=some (XDc dx fs)/\XCls K C/\findIn K (.ref C) g=some none/\fs.lookup g=some v/\Q v H1)
def jCu{g:Str}(he:PE X e ta)(hb:attributeBase e g X.env (eval e X.env)=eval e X.env):PE X (.Attribute e g pos) (tXFld X.K ta g):=by
 intro U s Z H Q I h;refine jt6 hb (thn (he U s Z H _ I h.1) fun u s1 hzz=>?_);obtain⟨x,H1,I1,rx,a,C,dx,fr,fs,v,ex,ea,ed,c,n,l,q⟩:=hzz;subst ex;cases rx;exact jD0 I1 ea ed c n l fun u' s2 I2 ru=>⟨v,H1,I2,ru,q⟩
inductive XPut(K:Frag)(H:Hp)(a:Addr)(g:Str)(y:V)(Q:Hp->Prop):Prop
 | first (C:Addr) (fr:Bool) (ea:H a=some (XO a C none fr)) (c:XCls K C) (ht:takerIn K C g=some none) (q:∀ d,H d=none->Q (upd (upd H d (XDc d [(g,y)])) a (XO a C (some d) fr)))
 | more (C dx:Addr) (fr:Bool) (fs:List (Str×V)) (ea:H a=some (XO a C (some dx) fr)) (ed:H dx=some (XDc dx fs)) (c:XCls K C) (ht:takerIn K C g=some none) (l:fs.length<1000) (q:Q (upd H dx (XDc dx (putF g y fs))))
def jC1{g:Str}{pos':Pos}(ha:PE X o ta)(hv:PE X value tv)(hs:swapsWith value (some (.Attribute o g pos')) pos.line X.env=pure false) :
  PS X (.Assign [.Attribute o g pos'] value pos) (fun D Z H=>tv Z H fun y H1=>ta Z H1 fun x H2=>∃ a,x=.ref a/\XPut X.K H2 a g y (D.nx Z)):=by
 intro U s Z H D I h;refine plainObj_wpAny_Assign_Attribute (thn (hv U s Z H _ I h) fun u s1 ⟨y,H1,I1,ry,q⟩=>thn (ha U s1 Z H1 _ I1 q) fun ov s2 hzz=>?_) hs;obtain⟨x,H2,I2,rx,a,ex,q2⟩:=hzz;subst ex;cases rx
 cases q2 with
 | first C fr ea c ht q=>exact jzg I2 ea c ht ry fun d s3 hd I3=>⟨Z,_,I3,q d hd⟩
 | more C dx fr fs ea ed c ht l q=>exact jzh I2 ea ed c ht l ry fun s3 I3=>⟨Z,_,I3,q⟩
def joz(hn:specialIn X.K (.builtin "object.__class__") "__get__"=some (some (.builtin "getset_descriptor.__get__")))(htk:takesIn X.K (.builtin "object.__class__")=some true) :
  CallR X (.builtin "isinstance") (fun xs H Q=>∃ a C od fr v c b,xs=[.ref a,v]/\H a=some (XO a C od fr)/\XCls X.K C/\(∀ dx,od=some dx->∃ fs,H dx=some (XDc dx fs))/\(∀ u,RelV v u->u=c)/\W.kitOne X.K (.ref C) c=some b/\Q (.bl b) H):=by
 intro U s Z H xs us Q I r h;obtain⟨a,C,od,fr,v,c,b,rfl,ea,cl,hd,hv,hk,q⟩:=h;obtain⟨u,c',rfl,ru,rc⟩:=r.two;cases ru;rw[hv c' rc];obtain⟨vs,sl,h0,hf0⟩:=jqb I ea;have Jq:∃ ox od',InstAt s.heap a ox C od':=by
  cases od with
  | none=>exact⟨_,_,jrh h0⟩
  | some dx =>
   obtain⟨fs,ed⟩:=hd dx rfl;obtain⟨mA,⟨o,_,_,e,_⟩,_⟩:=jzf I ed;exact⟨_,_,jop h0 e⟩
 exact W.kia_one (jzz cl.x cl.ga cl.gh cl.cl hn htk) I.kIn Jq hk (fun z=>nomatch z) fun tk=>⟨.bl b,H,I.tok _,rfl,q⟩
end
end L2
namespace DL
open L2
structure ErrT(K:W.Frag)(mg:qa)(cs fs:List Str)(b:Str):Prop where
 ats:∀ c∈cs,∃ C,mg c=some (.ref C)
 atb:∃ C,mg b=some (.ref C)
 cls:∀ c∈cs,∀ C,mg c=some (.ref C)->XCls K C
 fld:∀ c∈cs,∀ C,mg c=some (.ref C)->∀ f∈fs,W.findIn K (.ref C) f=some none
 pair:∀ c∈cs,∀ d∈cs,∀ C,mg c=some (.ref C)->∃ D,mg d=some (.ref D)/\W.kitOne K (.ref C) (.ref D)=some (c == d)
 base:∀ c∈cs,∀ C,mg c=some (.ref C)->∃ D,mg b=some (.ref D)/\W.kitOne K (.ref C) (.ref D)=some true
 val:∀ c∈cs,∀ C,mg c=some (.ref C)->W.kitOne K (.ref C) (.type "ValueError")=some true
 sp:W.specialIn K (.builtin "object.__class__") "__get__"=some (some (.builtin "getset_descriptor.__get__"))
 tk:W.takesIn K (.builtin "object.__class__")=some true
def xOne(K:W.Frag)(es:List (Str×Addr))(B:Addr)(fs:List Str)(p:Str×Addr):Bool :=
 xCls K p.2&&fs.all (fun f=>W.findIn K (.ref p.2) f == some none)&&W.kitOne K (.ref p.2) (.ref B) == some true&&W.kitOne K (.ref p.2) (.type "ValueError") == some true&&es.all fun q=>W.kitOne K (.ref p.2) (.ref q.2) == some (p.1 == q.1)
def xTab(K:W.Frag)(es:List (Str×Addr))(B:Addr)(fs:List Str):Bool :=
 es.all (xOne K es B fs)&&W.specialIn K (.builtin "object.__class__") "__get__" == some (some (.builtin "getset_descriptor.__get__"))&&W.takesIn K (.builtin "object.__class__") == some true
def jBt{K:W.Frag}{mg:qa}{es:List (Str×Addr)}{B:Addr}{fs:List Str}{b:Str}(hm:∀ p∈es,mg p.1=some (.ref p.2))(hb:mg b=some (.ref B))(h:xTab K es B fs=true):ErrT K mg (es.map (·.1)) fs b:=by
 unfold xTab at h;rw[Bool.and_eq_true,Bool.and_eq_true,List.all_eq_true,beq_iff_eq,beq_iff_eq] at h;obtain⟨⟨h1,h2⟩,h3⟩:=h;have one:∀ c∈es.map (·.1),∀ C,mg c=some (.ref C)->xOne K es B fs (c,C)=true:=fun c hc C hC=>by
  obtain⟨p,hp,rfl⟩:=List.mem_map.mp hc;rw[hm p hp] at hC;cases hC;exact h1 p hp
 have all:∀ c∈es.map (·.1),∀ C,mg c=some (.ref C)->(((xCls K C=true/\fs.all (fun f=>W.findIn K (.ref C) f == some none)=true)/\W.kitOne K (.ref C) (.ref B)=some true)/\W.kitOne K (.ref C) (.type "ValueError")=some true)/\(es.all fun q=>W.kitOne K (.ref C) (.ref q.2) == some (c == q.1))=true:=fun c hc C hC=>by
  have:=one c hc C hC;unfold xOne at this;rw[Bool.and_eq_true,Bool.and_eq_true,Bool.and_eq_true,Bool.and_eq_true,beq_iff_eq,beq_iff_eq] at this;exact this
 refine⟨fun c hc=>by obtain⟨p,hp,rfl⟩:=List.mem_map.mp hc;exact⟨_,hm p hp⟩,⟨B,hb⟩,fun c hc C hC=>jDz (all c hc C hC).1.1.1.1,fun c hc C hC f hf=>?_,fun c hc d hd C hC=>?_,fun c hc C hC=>⟨B,hb,(all c hc C hC).1.1.2⟩,fun c hc C hC=>(all c hc C hC).1.2,h2,h3⟩
 ·exact beq_iff_eq.mp (List.all_eq_true.mp (all c hc C hC).1.1.1.2 f hf)
 ·obtain⟨q,hq,rfl⟩:=List.mem_map.mp hd;exact⟨q.2,hm q hq,beq_iff_eq.mp (List.all_eq_true.mp (all c hc C hC).2 q hq)⟩
def jqt(c:Str)(m:List D->MS D)(ds:List D):MS D:=fun Ω=>((m (.obj Ω.length::ds)).b fun d=>match d with
 | .non=>MS.p (.obj Ω.length)
 | _=>fun _=>none) (Ω++[.exc c (none,true)])
def jfa(c:Str)(m:List D->MS D)(fl:DSt->MS (List D)):DSt->MS D:=fun Y=>(fl Y).b fun ds=>jqt c m ds
inductive IniY(P:Program)(w:World)(K:W.Frag)(mg:qa)(base:Heap)(k:Nat)(c:Str)(n:Nat)(sp:Sp):Prop
 | mk (C f:Addr) (fd:FuncData) (ps:List Str) (h1:ps.length=n) (h2:mg c=some (.ref C)) (h3:XMk K C f) (h4:Binds K fd ps []) (h5:FnOk P w K mg base CX0 k f fd ps sp)
structure IniXE(P:Program)(w:World)(K:W.Frag)(mg:qa)(base:Heap)(k:Nat)(c:Str)(n:Nat)(m:List D->MS D):Prop where
 ex:IniY P w K mg base k c n (spE K mg n m)
 ar:∀ ds Ω r,m ds Ω=some r->ds.length=n
 sm:n<=1000
structure IniXAt(K:W.Frag)(mg:qa)(c q:Str)(st:Stmt)(ps:List Str):Prop where
 ex:∃ C f fd,mg c=some (.ref C)/\XMk K C f/\Fun K "__init__" q st f fd/\Binds K fd ps []
section
variable {P:Program}{w:World}{K:W.Frag}{mg:qa}{base:Heap}
def jnt{c q:Str}{st:Stmt}{N ps:List Str}{k:Nat}{O':List Nat}{g:DSt->MS Out}(hf:IniXAt K mg c q st ps)(S:FnScope N ps (jad st))
  (hbody:∀ (f:Addr) (cdv:Value) (A:Around) (outer:List Env) (s:Shared) (H:Hp) (E:XK),Room k (A.deeper (PyProof.Rows.envOfC q (jad st) s.heap.objs.size f cdv)) ->
   MSs (cxOf CX0 P w K mg base N q (jad st) f cdv A outer s H E).nox [] O' [] (jaw st) g) (hs:ps.length<=1000):IniXE P w K mg base (k+1) c ps.length (mirE ps.length N.length g):=by
 obtain⟨C,f,fd,hm,hM,F,hb⟩:=hf.ex;exact⟨⟨C,f,fd,ps,rfl,hm,hM,hb,fn_E F S hbody⟩,jjw,hs⟩
end
section
variable {X:Cx}{O:List Nat}{e:Expr}{es:List Expr}{fl:DSt->MS (List D)}{pos p:Pos}{x c f:Str}{k n:Nat}
variable {Jz J:Rho}{Sz S F:qd}{Hz H:Hp}{Z:St}{Y:DSt}{Ω Ω':Sto}{d:Str}
def RM.newX{Ca x:Addr}(R:RM Jz Sz Hz F X.K X.mg O J S H Z Y Ω)(hm:X.mg c=some (.ref Ca))(hx:H x=none):RM Jz Sz Hz F X.K X.mg O (addR J Ω.length x) (addS S x x) (upd H x (XO x Ca none true)) Z Y (Ω++[.exc c (none,true)])/\RLe J (addR J Ω.length x) /\
   Same (hid H (fob (un F S) Z O)) (hid (upd H x (XO x Ca none true)) (fob (un F (addS S x x)) Z O)) :=
 R.newS (nso:=.exc c (none,true)) hx fun J' S' Hv' l v=>ExcOk.no true Ca hm jaq
def jx5{m:List D->MS D}{Ca:Addr}{vs:List V}{ds:List D}{r:Except XD D}{Q:VK}(hm:X.mg c=some (.ref Ca))(ar:∀ ds Ω r,m ds Ω=some r->ds.length=n)(R:RM Jz Sz Hz F X.K X.mg O J S H Z Y Ω)(hr:Reps J X.K (hid H (fob (un F S) Z O)) ds vs)(hf:jqt c m ds Ω=some (r,Ω'))
  (k:match (generalizing:=false) r with
   | .ok d=>∀ v J' S' H',RM Jz Sz Hz F X.K X.mg O J' S' H' Z Y Ω'->RLe J J'->Same (hid H (fob (un F S) Z O)) (hid H' (fob (un F S') Z O))->Rep J' X.K (hid H' (fob (un F S') Z O)) d v->Q v H'
   | .error _=>True):∀ x,H x=none->spE X.K X.mg n m (.ref x::vs) (upd H x (XO x Ca none true)) (fun v H2=>v=.non/\Q (.ref x) H2) E0:=by
 intro x hx;obtain⟨t1,t2,t3⟩:=R.newX hm hx;have hob:Rep (addR J Ω.length x) X.K (hid (upd H x (XO x Ca none true)) (fob (un F (addS S x x)) Z O)) (.obj Ω.length) (.ref x):=rep_obj.mpr ⟨x,by unfold addR;rw[if_pos rfl],rfl⟩;unfold jqt at hf;rcases MS.b_inv hf with ⟨d,Ω1,e1,hf⟩|⟨y,e1,rfl⟩
 ·refine jly t1 (ar _ _ _ e1) (Reps.cons hob ((hr.rho t2).mono t3)) e1 ?_;intro v ρ2 S2 H2 R2 l2 v2 r2
  cases d with
  | non =>
   cases hf;exact⟨rep_non.mp r2,k (.ref x) ρ2 S2 H2 R2 (t2.trans l2) (t3.trans v2) ((hob.rho l2).mono v2)⟩
  | _=>cases hf
 ·exact jly t1 (ar _ _ _ e1) (Reps.cons hob ((hr.rho t2).mono t3)) e1 trivial
def jvd{m:List D->MS D}{ds:List D}{r:Except XD D}(ar:∀ ds Ω r,m ds Ω=some r->ds.length=n)(hf:jqt c m ds Ω=some (r,Ω')):ds.length+1=n:=by
 unfold jqt at hf;rcases MS.b_inv hf with ⟨d,Ω1,e1,hf⟩|⟨y,e1,rfl⟩
 ·exact ar _ _ _ e1
 ·exact ar _ _ _ e1
def jkp{m:List D->MS D}(C:IniXE X.prog X.w X.K X.mg X.base k c n m)(hr:Room (k+1) X.A)(ha:MA X O (e::es) fl)(hg:Gl X c:=by rfl)(hdb:(c == ("__debug__":Str))=false:=by decide)(he:zsE e es X.env:=by rfl)
  (hpl:zbT pos es X.env:=by rfl):ME X O (.Call (.Name c p) (e::es) [] pos) (jfa c m fl):=by
 obtain⟨Ca,f,fd,ps,hl,hm,hM,hb,G⟩:=C.ex;rintro U s Z H Q I ⟨Jz,Sz,Hz,F,J,S,Y,Ω,R,r,Ω',hf,k⟩;refine jyl hM G hr hg hm hb (fun _ _ _ _ _ _ _ z=>z.elim) ha hdb he hpl U s Z H Q I (E:=E0) ?_;rcases MS.b_inv hf with ⟨ds,Ω1,e1,hf⟩|⟨y,e1,rfl⟩
 ·refine⟨Jz,Sz,Hz,F,J,S,Y,Ω,R,.ok ds,Ω1,e1,fun vs ρ1 S1 H1 R1 l1 v1 r1=>?_⟩;refine⟨?_,jx5 hm C.ar R1 r1 hf ?_⟩
  ·have h1:=jvd C.ar hf;have h2:=C.sm;rw[r1.length];omega
  ·cases r with
   | error y=>trivial
   | ok d=>exact fun v ρ2 S2 H2 R2 l2 v2 r2=>k v ρ2 S2 H2 R2 (l1.trans l2) (v1.trans v2) r2
 ·exact⟨Jz,Sz,Hz,F,J,S,Y,Ω,R,.error y,_,e1,trivial⟩
end
end DL
namespace DL
open PyProof.Rows L2
def getX(cs:List Str)(f:Str):D->MS D:=fun x Ω=>match x with
 | .obj i=>match Ω[i]? with
  | some (.exc c (some j,_))=>match Ω[j]? with
   | some (.xd fs)=>if cs.contains c then (fs.lookup f).map fun d=>(.ok d,Ω) else none
   | _=>none
  | _=>none
 | _=>none
def jnw(cs:List Str)(f:Str)(fa:DSt->MS D):DSt->MS D:=fun Y=>(fa Y).b fun x=>getX cs f x
def putX(cs:List Str)(f:Str)(x d:D):MS Unit:=fun Ω=>match x with
 | .obj i=>match Ω[i]? with
  | some (.exc c (none,fr))=>if cs.contains c then some (.ok (),(Ω++[SO.xd [(f,d)]]).set i (.exc c (some Ω.length,fr))) else none
  | some (.exc c (some j,_))=>match Ω[j]? with
   | some (.xd fs)=>if cs.contains c&&decide (fs.length<1000) then some (.ok (),Ω.set j (.xd (putD f d fs))) else none
   | _=>none
  | _=>none
 | _=>none
def jjr(cs:List Str)(f:Str)(fo fv:DSt->MS D):DSt->MS Out:=fun Y=>(fv Y).b fun d=>(fo Y).b fun x=>(putX cs f x d).b fun _=>MS.p (.nx Y)
def isX(cs:List Str)(g:Str->Bool):D->MS D:=fun x Ω=>match x with
 | .obj i=>match Ω[i]? with
  | some (.exc c (none,_))=>if cs.contains c then some (.ok (.bl (g c)),Ω) else none
  | some (.exc c (some j,_))=>match Ω[j]? with
   | some (.xd fs)=>if cs.contains c then some (.ok (.bl (g c)),Ω) else none
   | _=>none
  | _=>none
 | _=>none
def mIsX(cs:List Str)(g:Str->Bool)(fa:DSt->MS D):DSt->MS D:=fun Y=>(fa Y).b fun x=>isX cs g x
section
variable {Ω Ω':Sto}{cs:List Str}{f:Str}{x d:D}
inductive GetXI(cs:List Str)(f:Str)(x:D)(Ω Ω':Sto)(r:Except XD D):Prop
 | mk (i j:Nat) (c:Str) (fr:Bool) (fs:List (Str×D)) (d:D) (h1:x=.obj i) (h2:Ω[i]? = some (.exc c (some j,fr))) (h3:Ω[j]? = some (.xd fs)) (h4:c∈cs) (h5:fs.lookup f=some d) (h6:r=.ok d) (h7:Ω'=Ω)
def jxp{r:Except XD D}(h:getX cs f x Ω=some (r,Ω')):GetXI cs f x Ω Ω' r:=by
 unfold getX at h
 split at h
 ·rename_i i
  split at h
  ·rename_i c j fr hi
   split at h
   ·rename_i fs hj
    split at h
    ·rename_i hc
     cases hl:fs.lookup f with
     | none=>rw[hl] at h;cases h
     | some d=>rw[hl] at h;cases h;exact⟨i,j,c,fr,fs,d,rfl,hi,hj,zbc.mp hc,hl,rfl,rfl⟩
    ·cases h
   ·cases h
  ·cases h
 ·cases h
inductive PutXI(cs:List Str)(f:Str)(x d:D)(Ω Ω':Sto)(r:Except XD Unit):Prop
 | first (i:Nat) (c:Str) (fr:Bool) (h1:x=.obj i) (h2:Ω[i]? = some (.exc c (none,fr))) (h4:c∈cs) (h6:r=.ok ()) (h7:Ω'=(Ω++[SO.xd [(f,d)]]).set i (.exc c (some Ω.length,fr)))
 | more (i j:Nat) (c:Str) (fr:Bool) (fs:List (Str×D)) (h1:x=.obj i) (h2:Ω[i]? = some (.exc c (some j,fr))) (h3:Ω[j]? = some (.xd fs)) (h4:c∈cs) (h5:fs.length<1000) (h6:r=.ok ()) (h7:Ω'=Ω.set j (.xd (putD f d fs)))
def jsh{r:Except XD Unit}(h:putX cs f x d Ω=some (r,Ω')):PutXI cs f x d Ω Ω' r:=by
 unfold putX at h
 split at h
 ·rename_i i
  split at h
  ·rename_i c fr hi
   split at h
   ·rename_i hc;cases h;exact .first i c fr rfl hi (zbc.mp hc) rfl rfl
   ·cases h
  ·rename_i c j fr hi
   split at h
   ·rename_i fs hj
    split at h
    ·rename_i hc;rw[Bool.and_eq_true,decide_eq_true_eq] at hc;cases h;exact .more i j c fr fs rfl hi hj (zbc.mp hc.1) hc.2 rfl rfl
    ·cases h
   ·cases h
  ·cases h
 ·cases h
inductive IsXI(cs:List Str)(g:Str->Bool)(x:D)(Ω Ω':Sto)(r:Except XD D):Prop
 | mk (i:Nat) (c:Str) (oj:Option Nat) (fr:Bool) (h1:x=.obj i) (h2:Ω[i]? = some (.exc c (oj,fr))) (h3:∀ j,oj=some j->∃ fs,Ω[j]? = some (.xd fs)) (h4:c∈cs) (h6:r=.ok (.bl (g c))) (h7:Ω'=Ω)
def jqo{g:Str->Bool}{r:Except XD D}(h:isX cs g x Ω=some (r,Ω')):IsXI cs g x Ω Ω' r:=by
 unfold isX at h
 split at h
 ·rename_i i
  split at h
  ·rename_i c fr hi
   split at h
   ·rename_i hc;cases h;exact⟨i,c,none,fr,rfl,hi,(fun j z=>nomatch z),zbc.mp hc,rfl,rfl⟩
   ·cases h
  ·rename_i c j fr hi
   split at h
   ·rename_i fs hj
    split at h
    ·rename_i hc;cases h;exact⟨i,c,some j,fr,rfl,hi,fun j' z=>by cases z;exact⟨fs,hj⟩,zbc.mp hc,rfl,rfl⟩
    ·cases h
   ·cases h
  ·cases h
 ·cases h
end
def jsv{K:W.Frag}{C:Addr}{f:Str}(h:W.findIn K (.ref C) f=some none):W.takerIn K C f=some none:=by
 unfold W.takerIn;rw[h];rfl
def jAw{a C:Addr}{od:Option Addr}{fr:Bool}:∀ y,HO.own y≠XO a C od fr:=fun y z=>by unfold XO at z;cases z
def jHj{a:Addr}{fs:List (Str×V)}:∀ y,HO.own y≠XDc a fs:=fun y z=>by unfold XDc at z;cases z
section
variable {X:Cx}{O B:List Nat}{o e:Expr}{fa fo fv:DSt->MS D}{fl:DSt->MS (List D)}{pos p p2:Pos}{x c f:Str}{k:Nat}
variable {Jz J:Rho}{Sz S F:qd}{Hz H:Hp}{Z:L2.St}{Y:DSt}{Ω Ω':Sto}{cs fs:List Str}{bn d:Str}
def jvg(T:ErrT X.K X.mg cs fs bn)(hf:fs.contains f=true)(ha:ME X O e fa)(hb:attributeBase e f X.env (eval e X.env)=eval e X.env:=by rfl):ME X O (.Attribute e f pos) (jnw cs f fa):=by
 rintro U s Z H Q I ⟨Jz,Sz,Hz,F,J,S,Y,Ω,R,r,Ω',hg,k⟩;refine jCu ha hb U s Z H Q I ⟨?_⟩;rcases MS.b_inv hg with ⟨x,Ω1,e1,hg⟩|⟨x,e1,rfl⟩
 ·refine⟨Jz,Sz,Hz,F,J,S,Y,Ω,R,.ok x,Ω1,e1,fun u ρ1 S1 H1 R1 l1 v1 r1=>?_⟩;obtain⟨i,j,c,fr,fl,d,rfl,hi,hj,hc,hl,rfl,rfl⟩:=jxp hg;obtain⟨ad,q1,q2⟩:=rep_obj.mp r1;obtain⟨ad',p1,p2,p3⟩:=R1.sto.ats i _ hi;rw[q1] at p1;cases p1
  obtain⟨dx,s1,s2,vfs,s3,s4⟩:=R1.sto.ats j _ hj
  cases p3 with
  | yes fr j C dx' h1 h2 h3 =>
   rw[s1] at h2;cases h2
   obtain⟨w,w1,w2⟩:=s4.get hl;exact⟨ad,C,dx,fr,vfs,w,q2,h3,s3,T.cls c hc C h1,T.fld c hc C h1 f (zbc.mp hf),w1,k w ρ1 S1 H1 R1 l1 v1 w2⟩
 ·exact⟨Jz,Sz,Hz,F,J,S,Y,Ω,R,.error x,_,e1,trivial⟩
def jn5{pos':Pos}(T:ErrT X.K X.mg cs fs bn)(hf:fs.contains f=true)(ho:ME X O o fo)(hv:ME X O e fv)(hs:swapsWith e (some (.Attribute o f pos')) pos.line X.env=pure false:=by rfl):MSt X O O B (.Assign [.Attribute o f pos'] e pos) (jjr cs f fo fv):=by
 rintro U s Z H Dn I ⟨Jz,Sz,Hz,F,J,S,Y,Ω,R,r,Ω',hg,k⟩;refine jC1 ho hv hs U s Z H Dn I ?_;rcases MS.b_inv hg with ⟨d,Ω1,e1,hg⟩|⟨x,e1,rfl⟩
 ·refine⟨Jz,Sz,Hz,F,J,S,Y,Ω,R,.ok d,Ω1,e1,fun v ρ1 S1 H1 R1 l1 v1 r1=>?_⟩;rcases MS.b_inv hg with ⟨x,Ω2,e2,hg⟩|⟨x,e2,rfl⟩
  ·refine⟨Jz,Sz,Hz,F,ρ1,S1,Y,Ω1,R1,.ok x,Ω2,e2,fun u ρ2 S2 H2 R2 l2 v2 r2=>?_⟩;have r1':=(r1.rho l2).mono v2;rcases MS.b_inv hg with ⟨z,Ω3,e3,hg⟩|⟨y,e3,rfl⟩
   ·cases hg
    cases jsh e3 with
    | first i c fr h1 h2 h4 h6 h7 =>
     subst h1 h7;obtain⟨ad,q1,q2⟩:=rep_obj.mp r2;obtain⟨ad',p1,p2,p3⟩:=R2.sto.ats i _ h2;rw[q1] at p1;cases p1
     cases p3 with
     | no fr C g1 g2 =>
      refine⟨ad,q2,.first C fr g2 (T.cls c h4 C g1) (jsv (T.fld c h4 C g1 f (zbc.mp hf))) fun dx hd=>?_⟩;obtain⟨t1,t2,t3⟩:=R2.newS (nso:=.xd [(f,d)]) (no:=XDc dx [(f,v)]) hd fun J' S' Hv' l vv=>⟨[(f,v)],jaq,v,[],rfl,(r1'.rho l).mono vv,rfl⟩
      have il:i<Ω2.length:=(zbb.mp h2).1;have hne:ad≠dx:=fun z=>by rw[z,hd] at g2;cases g2
      have q1':=t2 _ _ q1;obtain⟨w1,w2⟩:=t1.putS (so':=.exc c (some Ω2.length,fr)) (o':=XO ad C (some dx) fr) (by rw[List.getElem?_append_left il];exact h2) q1' (addS_t.mpr (.inl p2)) (by rw[jal hne];exact g2) jAw
       (ExcOk.yes fr _ C dx g1 (by unfold addR;rw[if_pos rfl]) jaq)
      exact k _ _ Z _ w1 (l1.trans (l2.trans t2)) (by rw[w2];exact v1.trans (v2.trans t3))
    | more i j c fr fl h1 h2 h3 h4 h5 h6 h7 =>
     subst h1 h7;obtain⟨ad,q1,q2⟩:=rep_obj.mp r2;obtain⟨ad',p1,p2,p3⟩:=R2.sto.ats i _ h2;rw[q1] at p1;cases p1
     obtain⟨dx,s1,s2,vfs,s3,s4⟩:=R2.sto.ats j _ h3
     cases p3 with
     | yes fr j C dx' g1 g2 g3 =>
      rw[s1] at g2;cases g2
      refine⟨ad,q2,.more C dx fr vfs g3 s3 (T.cls c h4 C g1) (jsv (T.fld c h4 C g1 f (zbc.mp hf))) (by rw[s4.length];exact h5) ?_⟩;obtain⟨w1,w2⟩:=R2.putS (so':=.xd (putD f d fl)) (o':=XDc dx (putF f v vfs)) h3 s1 s2 s3 jHj ⟨_,jaq,s4.put r1'⟩;exact k _ _ Z _ w1 (l1.trans l2) (by rw[w2];exact v1.trans v2)
   ·cases jsh e3 with
    | first i c fr h1 h2 h4 h6 h7=>cases h6
    | more i j c fr fl h1 h2 h3 h4 h5 h6 h7=>cases h6
  ·exact⟨Jz,Sz,Hz,F,ρ1,S1,Y,Ω1,R1,.error x,_,e2,trivial⟩
 ·exact⟨Jz,Sz,Hz,F,J,S,Y,Ω,R,.error x,_,e1,trivial⟩
def jFf{g:Str->Bool}{nm:Expr}{v:V}{u:Value}(T:ErrT X.K X.mg cs fs bn)(hn:PE X nm (tC v))(hv:∀ w,RelV v w->w=u)(hk:∀ c∈cs,∀ C,X.mg c=some (.ref C)->W.kitOne X.K (.ref C) u=some (g c))(ha:ME X O e fa)(hG:Gl X "isinstance":=by rfl)(hm:X.mg "isinstance"=none)
  (he:starEach (e::[nm]) X.env=(false,eval e X.env)::starEach [nm] X.env:=by rfl) (he2:starEach [nm] X.env=(false,eval nm X.env)::starEach [] X.env:=by rfl) (hpl:(backTo pos (starEach [nm] X.env)).any (·.1)=false:=by rfl) :
  ME X O (.Call (.Name "isinstance" p) [e,nm] [] pos) (mIsX cs g fa):=by
 rintro U s Z H Q I ⟨Jz,Sz,Hz,F,J,S,Y,Ω,R,r,Ω',hg,k⟩;refine jkr (joz T.sp T.tk) hG hm jdh (je2 ha (je2 hn jlo he2) he) (by decide) (by decide) he hpl U s Z H Q I ?_;rcases MS.b_inv hg with ⟨x,Ω1,e1,hg⟩|⟨x,e1,rfl⟩
 ·refine⟨Jz,Sz,Hz,F,J,S,Y,Ω,R,.ok x,Ω1,e1,fun w ρ1 S1 H1 R1 l1 v1 r1=>?_⟩;obtain⟨i,c,oj,fr,rfl,hi,hj,hc,rfl,rfl⟩:=jqo hg;obtain⟨ad,q1,q2⟩:=rep_obj.mp r1;obtain⟨ad',p1,p2,p3⟩:=R1.sto.ats i _ hi;rw[q1] at p1;cases p1
  subst q2
  cases p3 with
  | no fr C h1 h2=>exact⟨ad,C,none,fr,v,u,g c,rfl,h2,T.cls c hc C h1,(fun dx z=>nomatch z),hv,hk c hc C h1,k _ ρ1 S1 H1 R1 l1 v1 (rep_bl.mpr rfl)⟩
  | yes fr j C dx h1 h2 h3 =>
   obtain⟨fl,hj⟩:=hj j rfl;obtain⟨dx',s1,s2,vfs,s3,s4⟩:=R1.sto.ats j _ hj;rw[h2] at s1;cases s1
   exact⟨ad,C,some dx,fr,v,u,g c,rfl,h3,T.cls c hc C h1,fun dx' z=>by cases z;exact⟨vfs,s3⟩,hv,hk c hc C h1,k _ ρ1 S1 H1 R1 l1 v1 (rep_bl.mpr rfl)⟩
 ·exact⟨Jz,Sz,Hz,F,J,S,Y,Ω,R,.error x,_,e1,trivial⟩
def jnd:bootBuiltins "ValueError"=some (.type "ValueError"):=by decide +kernel
def jFg(T:ErrT X.K X.mg cs fs bn)(hm:X.mg "isinstance"=none)(hvm:X.mg "ValueError"=none)(ha:ME X O e fa)(hg:Gl X "ValueError":=by rfl)(hG:Gl X "isinstance":=by rfl)
  (he:starEach (e::[.Name "ValueError" p2]) X.env=(false,eval e X.env)::starEach [.Name "ValueError" p2] X.env:=by rfl):ME X O (.Call (.Name "isinstance" p) [e,.Name "ValueError" p2] [] pos) (mIsX cs (fun _=>true) fa) :=
 jFf (v:=.ty "ValueError") (u:=.type "ValueError") T (jvy hg hvm jnd rfl) (fun w r=>by cases r;rfl) (fun c hc C hC=>T.val c hc C hC) ha hG hm he rfl rfl
end
def jk6{K:W.Frag}{mg:qa}{h:Heap}{c q:Str}{st:Stmt}{ps:List Str}{C f:Addr}{oc:Value}{od an:Option Addr}{osl:qe}{kV doc pm cdv ct:Value}(X:K.In h)(G:h.Ns mainGlobals mg)
  (hb:∀ (kV doc pm:Value) (an:Option Addr) (cdv ct:Value) (us:List Value),us.length=ps.length->bindArgs (W.fnOf "__init__" q (jbp st) (jaw st) (jad st) .none kV doc pm an cdv ct) ⟨us,[]⟩=pure (ps.zip us))
  (a:mg c=some (.ref C)) (xc:XCls K C) (i2:W.findIn K (.ref C) "__init__"=some (some (.ref f))) (i3:W.isFn K (.ref f)=true)
  (l:K.lookup f=some ⟨oc,od,.func (W.fnOf "__init__" q (jbp st) (jaw st) (jad st) .none kV doc pm an cdv ct),osl⟩)
  (cd:W.codeIn K cdv q=true) (k:W.keepIn K (.ref f)=true):IniXAt K mg c q st ps:=by
 have F:=jr1 (st:=st) l cd k;exact⟨C,f,_,a,⟨xc,i2,i3⟩,F,F.binds hb⟩
end DL
namespace L2
open PyProof.Rows
open PySem.W (Frag InstAt Looks findIn mroIn clsIn)
section
variable {M:Model}{A:Around}{E:qc}{s:Shared}{K:Frag}{C:Addr}{env:Env}
def jDy{x:Sem Value}{Q:Flow->Shared->Prop}(hh:A.handled=none)
  (h:wpAny M A x (fun v s₁=>∃ e C od vs sl,v=.ref e/\K.In s₁.heap/\xIn K C=true/\s₁.heap.get? e=some (xOb C od vs sl)/\vs[1]? = some .none/\E (.ref e) s₁) E s) :
  wpAny M A (raiseStmt env (some x) none) Q E s:=by
 unfold raiseStmt;refine zay (thn h fun v s₁ hzz=>?_);obtain⟨e,C,od,vs,sl,ev,X,hx,he,h1,hE⟩:=hzz;subst ev;obtain⟨bm,N,nm,q,bs,sn,sub,ab,col,dd,k0,k1,k2,k3,k5,cd,hC,T,hk,hm,hd,hN⟩:=x_at X hx;have hcB:(Value.ref C::bm).contains (.type "BaseException")=true:=by rw[List.contains_cons,T.hasType (show bmV.contains (.type "BaseException")=true by decide),Bool.or_true]
 obtain⟨hp,g,d,tk,os⟩:=s₁
 repeat (first|with_reducible refine wpAny_loadPart_at he ?_|with_reducible refine wpAny_loadPart_at hC ?_|(with_reducible refine wpAny_isSubtype_exc hC ?_;rw[hcB])|wp_step)
 rw[h1];exact zab (by rw[if_neg (by decide)];exact zab (wpAny_raiseNew_none hh hE))
abbrev frL(l:List Env):List Addr:=l.filterMap (·.frame)
inductive TbAt(h:Heap)(vs:Array Value):Prop
 | no (h1:vs[1]? = some .none)
 | yes (T:Addr) (oT:Obj) (ts:Array Value) (h1:vs[1]? = some (.ref T)) (h2:h.get? T=some oT) (h3:oT.data=.fields ts) (h4:ts[3]? = some .none)
inductive Note(l:List Env)(e C:Addr)(od:Option Addr)(vs:Array Value)(sl:qe)(h h':Heap):Prop
 | mk (vs':Array Value) (T:Addr) (oT:Obj) (ts:Array Value) (h1:h'.get? e=some (xOb C od vs' sl)) (h2:vs'[1]? = some (.ref T)) (h3:h.get? T=none) (h4:h'.get? T=some oT) (h5:oT.data=.fields ts) (h6:ts[3]? = some .none)
   (h7:∀ b o,h.get? b=some o->b∉frL l->b≠e->vs[1]?≠some (.ref b)->h'.get? b=some o) (h8:∀ b o,h.get? b=some o->b∈frL l->∃ sl',h'.get? b=some { o with slots:=sl' }) (h9:∀ T,vs[1]? = some (.ref T)->∃ oT ts,h'.get? T=some oT/\oT.data=.fields ts/\ts[3]? = some .none)
def jw8{base:Heap}{env:Env}{outer:List Env}{L e:Addr}{od:Option Addr}{vs:Array Value}{sl:qe}{head:Value}{hadNext:Bool}{Q:Unit->Shared->Prop}
  (hfr:A.frames=some (env::outer)) (hl:s.heap.FunFrames base (env::outer)) (hf:env.frame=some L) (he:s.heap.get? e=some (xOb C od vs sl)) (hsz:1<vs.size)
  (h:∀ h' vs' T oT ts,h'.get? e=some (xOb C od vs' sl)->vs'[1]? = some (.ref T)->s.heap.get? T=none->h'.get? T=some oT->oT.data=.fields ts->ts[3]? = some .none->(∀ b o,s.heap.get? b=some o->b∉frL (env::outer)->b≠e->h'.get? b=some o) ->
   (∀ b o,s.heap.get? b=some o->b∈frL (env::outer)->∃ sl',h'.get? b=some { o with slots:=sl' })->Q () { s with heap:=h' }) :
  wpAny M A (do let a <- frameOf env;let pl <- entryPlaceOf L hadNext;let b <- EntryCells.newEntry head a .none (rawInt L) .none pl;setField (.ref e) 1 b) (fun _ s'=>wpAny M A (setFlight (.ref e) none) Q E s') E s:=by
 have nfe:∀ b,b∈frL (env::outer)->b≠e:=fun b hb z=>by
  obtain⟨_,o,ho,hnf⟩:=hl.mem hb;rw[z,he] at ho;cases ho;exact hnf vs rfl
 refine zay (wpAny_frameOf_fun hfr hl hf fun g hs=>zay (wpAny_entryPlaceOf fun pl hpl=>?_));unfold EntryCells.newEntry newFields;refine zay (wpAny_newObj_type ?_ (hpl.sizeOk5 _ _ _ _ _));have e1:g.get? e=some (xOb C od vs sl):=(hs.2.1 e fun hb=>nfe e hb rfl).trans he;generalize hob:({ cls:=.type "traceback",dict:=none,data:=.fields ([head,.ref L,.none,rawInt L,.none]++(if pl.isEmpty then List.replicate 6 Value.none else pl)).toArray }:Obj)=ob;have hdat:ob.data=.fields ([head,.ref L,.none,rawInt L,.none]++(if pl.isEmpty then List.replicate 6 Value.none else pl)).toArray:=by rw[<- hob]
 have hsz3:3<([head,.ref L,.none,rawInt L,.none]++(if pl.isEmpty then List.replicate 6 Value.none else pl)).toArray.size:=by
  rw[zbx,zcb];show 3<5+_;omega
 generalize ([head,.ref L,.none,rawInt L,.none]++(if pl.isEmpty then List.replicate 6 Value.none else pl)).toArray=ts at hdat hsz3;have e2:=zaz ob e1;refine wpAny_setField e2 rfl hsz ?_;have ne:g.objs.size≠e:=Nat.ne_of_gt (zbv e1);have e3:((g.push ob).update e (Obj.mapFields (·.setIfInBounds 1 (Value.ref g.objs.size)))).get? e=some (xOb C od (vs.setIfInBounds 1 (.ref g.objs.size)) sl):=Heap.get?_update_self _ e2 rfl;have t3:((g.push ob).update e (Obj.mapFields (·.setIfInBounds 1 (Value.ref g.objs.size)))).get? g.objs.size=some ob:=by
  rw[Heap.get?_update_other _ _ (Ne.symm ne)];exact zbz _ (Obj.isFreed_of_fields hdat)
 have v1:(vs.setIfInBounds 1 (Value.ref g.objs.size))[1]? = some (.ref g.objs.size):=by simp[hsz]
 unfold setFlight;refine zay (wpAny_field e3 rfl v1 ?_);rw[if_pos (show (Value.ref g.objs.size != Value.none)=true from by simp)];refine wpAny_setField t3 hdat hsz3 ?_;have dT:=Obj.data_mapFields hdat (·.setIfInBounds 3 ((none:Option Addr).elim Value.none fun f=>rawInt f));have t4:=Heap.get?_update_self (Obj.mapFields (·.setIfInBounds 3 ((none:Option Addr).elim Value.none fun f=>rawInt f))) t3 (Obj.isFreed_of_fields dT);have fresh:s.heap.get? g.objs.size=none:=Heap.get?_none_of_le (by rw[hs.1];exact zac _);have keep:∀ b o,b≠e->g.get? b=some o->(((g.push ob).update e (Obj.mapFields (·.setIfInBounds 1 (Value.ref g.objs.size)))).update g.objs.size (Obj.mapFields (·.setIfInBounds 3 ((none:Option Addr).elim Value.none fun f=>rawInt f)))).get? b=some o:=fun b o hb q=>by
  rw[Heap.get?_update_other _ _ (Nat.ne_of_gt (zbv q)),Heap.get?_update_other _ _ (Ne.symm hb)];exact zaz _ q
 refine h _ _ g.objs.size _ _ ?_ v1 fresh t4 dT (by simp[hsz3]) (fun b o q hb hbe=>keep b o hbe ((hs.2.1 b hb).trans q)) fun b o q hb=>?_
 ·rw[Heap.get?_update_other _ _ ne];exact e3
 ·obtain⟨sl',q'⟩:=hs.2.2 b o q;exact⟨sl',keep b _ (nfe b hb) q'⟩
def jDw{base:Heap}{env:Env}{outer:List Env}{L e:Addr}{od:Option Addr}{vs:Array Value}{sl:qe}{Q:Unit->Shared->Prop}
  (hfr:A.frames=some (env::outer)) (hl:s.heap.FunFrames base (env::outer)) (hf:env.frame=some L) (he:s.heap.get? e=some (xOb C od vs sl)) (tb:TbAt s.heap vs) (hne:vs[1]?≠some (.ref e))
  (h:∀ h',Note (env::outer) e C od vs sl s.heap h'->Q () { s with heap:=h' }):wpAny M A (noteFrame (.ref e) env) (fun _ s'=>wpAny M A (setFlight (.ref e) none) Q E s') E s:=by
 unfold noteFrame;simp only[hf]
 cases tb with
 | no h1 =>
  refine zay (wpAny_field he rfl h1 ?_);rw[if_neg (by decide)];refine jw8 hfr hl hf he (Array.getElem?_eq_some_iff.mp h1).1 fun h' vs' T oT ts a1 a2 a3 a4 a5 a6 a7 a8=>h h' ⟨vs',T,oT,ts,a1,a2,a3,a4,a5,a6,fun b o q hb hbe _=>a7 b o q hb hbe,a8,fun T z=>by rw[h1] at z;cases z⟩
 | yes T oT ts h1 h2 h3 h4 =>
  have hTe:T≠e:=fun z=>hne (by rw[h1,z])
  have nT:T∉frL (env::outer):=fun hb=>by
   obtain⟨_,o,ho,hnf⟩:=hl.mem hb;rw[h2] at ho;cases ho;exact hnf ts h3
  refine zay (wpAny_field he rfl h1 ?_);rw[if_pos (show (Value.ref T != Value.none)=true from by simp)];refine zay (wpAny_field h2 h3 h4 ?_);rw[if_neg (show ¬ ((Value.none == rawInt L)=true) from by simp[rawInt])];refine zay (wpAny_setField h2 h3 (Array.getElem?_eq_some_iff.mp h4).1 ?_);have other:∀ b,b≠T->(s.heap.update T (Obj.mapFields (·.setIfInBounds 3 Value.none))).get? b=s.heap.get? b:=fun b hb=>Heap.get?_update_other _ _ (Ne.symm hb)
  refine jw8 (s:={ s with heap:=s.heap.update T (Obj.mapFields (·.setIfInBounds 3 Value.none)) }) hfr (hl.of_keeps fun b o q nf=>⟨o,(other b fun z=>nf ts (by rw[z,h2] at q;cases q;exact h3)).trans q,rfl⟩) hf ((other e (Ne.symm hTe)).trans he) (Array.getElem?_eq_some_iff.mp h1).1
   fun h' vs' T' oT' ts' a1 a2 a3 a4 a5 a6 a7 a8=>h h' ⟨vs',T',oT',ts',a1,a2,?_,a4,a5,a6,fun b o q hb hbe hbT=>a7 b o ((other b fun z=>hbT (by rw[z];exact h1)).trans q) hb hbe,fun b o q hb=>a8 b o ((other b fun z=>nT (by rw[<- z];exact hb)).trans q) hb,fun T2 z=>?_⟩
  rotate_left
  ·rw[h1] at z;cases z;exact⟨_,_,a7 T _ (Heap.get?_update_self _ h2 (Obj.isFreed_of_fields (Obj.data_mapFields h3 _))) nT hTe,Obj.data_mapFields h3 _,by simp[(Array.getElem?_eq_some_iff.mp h4).1]⟩
  by_cases z:T'=T
  ·subst z;exact absurd a3 (by rw[Heap.get?_update_self _ h2 (Obj.isFreed_of_fields (Obj.data_mapFields h3 _))];exact fun z=>nomatch z)
  ·exact (other T' z).symm.trans a3
end
end L2
namespace L2
open PyProof.Rows
open PySem.W (Frag InstAt Looks findIn mroIn clsIn)
def XT(T:Addr):HO:=.ext fun h=>∃ oT ts,h.get? T=some oT/\oT.data=.fields ts/\ts[3]? = some .none
inductive Fly(H:Hp)(a C:Addr)(od:Option Addr)(s:Shared):Prop
 | mk (e1:H a=some (XO a C od false)) (vs:Array Value) (sl:qe) (e2:s.heap.get? a=some (xOb C od vs sl)) (tb:TbAt s.heap vs) (ne:vs[1]?≠some (.ref a)) (tr:∀ T,vs[1]? = some (.ref T)->H T=some (XT T))
def jw9{P:Program}{w:World}{H:Hp}{h:Heap}{T:Addr}{oT:Obj}{ts:Array Value}(h1:h.get? T=some oT)(h2:oT.data=.fields ts)(h3:ts[3]? = some .none):ObjOk P w H h T (XT T) :=
 jqi ⟨oT,ts,h1,h2,h3⟩ ⟨_,h1⟩ fun _ _ ⟨oT,ts,h1,h2,h3⟩ k=>⟨oT,ts,k _ h1,h2,h3⟩
section
variable {X:Cx}{U:qb}{Z:St}{H:Hp}{s:Shared}{a C:Addr}{od:Option Addr}
def jFu{A':Around}{E':qc}{Q:Unit->Shared->Prop}(I:Inv X U Z H s)(F:Fly H a C od s)(hst:X.stack=X.env::X.outer)(hf:X.env.frame=some X.env.locals)(hA:A'.frames=some X.stack)
  (k:∀ T h',H T=none->Inv X U Z (upd H T (XT T)) { s with heap:=h' }->Fly (upd H T (XT T)) a C od { s with heap:=h' }->Q () { s with heap:=h' }) :
  wpAny (model X.prog X.w) A' (noteFrame (.ref a) X.env) (fun _ s'=>wpAny (model X.prog X.w) A' (setFlight (.ref a) none) Q E' s') E' s:=by
 obtain⟨e1,vs,sl,e2,tb,ne,tr⟩:=F;refine jDw (base:=X.base) (by rw[hA,hst]) (by rw[<- hst];exact I.stack) hf e2 tb ne fun h' N=>?_
 obtain⟨vs',T,oT,ts,n1,n2,n3,n4,n5,n6,n7,n8,n9⟩:=N;have hT:H T=none:=jno (h:=s.heap) I n3;have nfr:∀ b∈frL (X.env::X.outer),H b=none:=fun b hb=>I.stkFree b (by rw[hst];exact hb)
 have na:∀ b,H b=none->b≠a:=fun b q z=>by rw[z,e1] at q;cases q
 have nTb:∀ b,H b=none->vs[1]?≠some (.ref b):=fun b q z=>by rw[tr b z] at q;cases q
 have nT:∀ b u,s.heap.get? b=some u->b≠T:=fun b u q z=>by rw[z,n3] at q;cases q
 have nT':∀ b u,H b=some u->b≠T:=fun b u q z=>by rw[z,hT] at q;cases q
 have there:∀ b o,s.heap.get? b=some o->∃ o',h'.get? b=some o':=fun b o q=>by
  by_cases z2:b=a
  ·rw[z2];exact⟨_,n1⟩
  ·by_cases z3:vs[1]? = some (.ref b)
   ·obtain⟨oT,ts,q',_⟩:=n9 b z3;exact⟨oT,q'⟩
   ·by_cases z4:b∈frL (X.env::X.outer)
    ·obtain⟨sl',q'⟩:=n8 b o q z4;exact⟨_,q'⟩
    ·exact⟨o,n7 b o q z4 z2 z3⟩
 have hok:HOk X.prog X.w (upd H T (XT T)) h':=fun b u e=>by
  by_cases z:b=T
  ·subst z;rw[jaq] at e;cases e;exact jw9 n4 n5 n6
  ·rw[jal z] at e
   by_cases z2:b=a
   ·subst z2;rw[e1] at e;cases e;exact jsy n1 fun z=>nomatch z
   ·by_cases z3:vs[1]? = some (.ref b)
    ·rw[tr b z3] at e;cases e;obtain⟨oT,ts,q1,q2,q3⟩:=n9 b z3;exact jw9 q1 q2 q3
    ·refine (I.hok b u e).stay (fun c v hc q=>?_) (fun c q=>by rw[jal (nT' c _ q)];exact q) fun c xs q=>by rw[jal (nT' c _ q)];exact q
     have hcn:H c≠none:=by
      rcases hc with r|r
      ·rw[r,e];exact fun z=>nomatch z
      ·rw[r];exact fun z=>nomatch z
     refine n7 c v q (fun z=>hcn (nfr c z)) (fun z=>?_) fun z=>?_
     ·rcases hc with r|r
      ·exact z2 (r.symm.trans z)
      ·rw[z,e1] at r;exact absurd (zby r) (fun z=>by unfold XO at z;cases z)
     ·rcases hc with r|r
      ·exact z3 (by rw[<- r];exact z)
      ·rw[tr c z] at r;exact absurd (zby r) (fun z=>by unfold XT at z;cases z)
 have Jq:Inv X U Z (upd H T (XT T)) { s with heap:=h' }:=I.call (g':=s.gens) (t':=s.toks) (d':=s.drawn) (ch:=[]) ⟨fun b o q n hb _=>n7 b o q (by rw[hst] at hb;exact hb) (na b n) (nTb b n),fun b o q n hb _=>n8 b o q (by rw[hst] at hb;exact hb),
  fun b o q n _=>by rw[jal (nT b o q)];exact n,fun b o q _=>there b o q,fun b xs q=>by rw[jal (nT' b _ q)];exact q,fun b u xs q=>by rw[jal (nT' b _ q)];exact q,fun b ps q=>⟨#[],by rw[jal (nT' b _ q),q];simp⟩⟩ hok I.bare (fun b z=>nomatch z)
 refine k T h' hT Jq ⟨by rw[jal (nT' a _ e1)];exact e1,vs',sl,n1,.yes T oT ts n2 n4 n5 n6,fun z=>?_,fun T2 z=>?_⟩
 ·rw[n2] at z;cases z;exact nT' _ _ e1 rfl
 ·rw[n2] at z;cases z;exact jaq
inductive CXr(P:Program)(w:World)(outer:List Env)(H:Hp)(s:Shared)(E:XK)(e:Value)(s':Shared):Prop
 | mk (a C:Addr) (od:Option Addr) (H1 H':Hp) (h1:e=.ref a) (h2:s'.os=s.os) (h3:AllBare s'.gens) (h4:Un (frs outer) [] H H' s.heap s'.heap) (h5:HOk P w H' s'.heap) (h6:Fly H' a C od s') (h7:∀ b o,H1 b=some o->H' b=some o) (h8:E (.ref a) od H1)
def CX1(P:Program)(w:World):CXT:=fun outer H s E e s'=>CXr P w outer H s E e s'
inductive Back(X:Cx)(U:qb)(Z:St)(E:XK)(e:Value)(s:Shared):Prop
 | mk (a C:Addr) (od:Option Addr) (H1 H:Hp) (h1:e=.ref a) (I:Inv X U Z H s) (F:Fly H a C od s) (h7:∀ b o,H1 b=some o->H b=some o) (h8:E (.ref a) od H1)
def jqd{E:XK}{e:Value}{s':Shared}(I:Inv X U Z H s)(h:CX1 X.prog X.w X.stack H s E e s'):Back X U Z E e s':=by
 obtain⟨a,C,od,H1,H',h1,h2,h3,h4,h5,h6,h7,h8⟩:=h;exact⟨a,C,od,H1,H',h1,I.call' h2 h4 h5 h3 (fun b z=>nomatch z),h6,h7,h8⟩
def jE8{P:Program}{w:World}{K:Frag}{mg:qa}{base:Heap}{N:List Str}{qual:Str}{scope:Scope}{f:Addr}{cd:Value}{A:Around}{outer:List Env}{s:Shared}{H:Hp}{E:XK}{e:Value}{s2:Shared}
  (B:Back (cxOf (CX1 P w) P w K mg base N qual scope f cd A outer s H E) U Z E e s2):(cxOf (CX1 P w) P w K mg base N qual scope f cd A outer s H E).xe e s2:=by
 obtain⟨a,C,od,H1,H2,rfl,I,F,h7,h8⟩:=B;show wpAny _ _ (leaving _ (.ref a)) _ _ s2;unfold leaving;refine zay (jFu (X:=cxOf (CX1 P w) P w K mg base N qual scope f cd A outer s H E) I F rfl rfl I.ok.frames fun T h' hT Jq F'=>?_);exact⟨a,C,od,H1,_,rfl,Jq.os,Jq.bare,Jq.base,Jq.hok,F',fun b o q=>by rw[jal (fun z=>by rw[z,] at q;rw[h7 _ _ q] at hT;cases hT)];exact h7 b o q,h8⟩
def jys{e:Expr}{te:TE}{pos:Pos}(he:PE X e te)(hc:X.calm=true):PS X (.Raise (some e) none pos) (fun D Z H=>te Z H fun v H1=>∃ a C od,v=.ref a/\H1 a=some (XO a C od true)/\XCls X.K C/\∀ U s,Inv X U Z (upd H1 a (XO a C od false)) s->Fly (upd H1 a (XO a C od false)) a C od s->X.xe (.ref a) s):=by
 intro U s Z H D I h;show wpAny _ _ (do standAt pos;raiseStmt X.env (some (do let v <- eval e X.env;standAt pos;pure v)) none) _ _ s;refine zay (wpAny_standAt (jDy (K:=X.K) (I.ok.hd hc) (zay (thn (he U s Z H _ I h) fun u s1 ⟨v,H1,I1,rv,a,C,od,ev,ha,cl,k⟩=>zay (wpAny_standAt (zab ?_))))));subst ev;cases rv;obtain⟨vs,sl,h0,hf0⟩:=jqb I1 ha;have h1:=hf0 rfl;refine⟨a,C,od,vs,sl,rfl,I1.kIn,cl.x,h0,h1,?_⟩;have Jq:Inv X U Z (upd H1 a (XO a C od false)) { s1 with heap:=s1.heap,toks:=s1.toks }:=I1.write (x:=a) (e:=a) (by rw[ha];exact True.intro) (.inl rfl) (fun b u _ q=>q) ⟨_,h0⟩ (jsy h0 fun z=>nomatch z);exact k U s1 Jq ⟨jaq,vs,sl,h0,.no h1,fun z=>by rw[h1] at z;(cases z),fun T z=>by rw[h1] at z;cases z⟩
end
end L2
namespace L2
open PyProof.Rows
open PySem.W (Frag InstAt Looks findIn mroIn clsIn)
section
variable {X:Cx}{U:qb}{Z:St}{H:Hp}{s:Shared}{a C:Addr}{od:Option Addr}
abbrev Cx.mk1(X:Cx)(v:Value)(E:qc):Cx:={ X with A:=X.A.mark (some v),calm:=false,xe:=E }
def Inv.mk1(I:Inv X U Z H s)(v:Value)(E:qc):Inv (X.mk1 v E) U Z H s :=
 ⟨⟨I.ok.mod,I.ok.kind,I.ok.glob,I.ok.blt,I.ok.above,I.ok.inj,I.ok.has,I.ok.cab,(fun z=>nomatch z),I.ok.frames,I.ok.stk,I.ok.exf,I.ok.bs,I.ok.bsz,I.ok.noex,I.ok.exfs,I.ok.funs,I.ok.frf⟩,I.os,I.bare,I.base,I.loc,I.cell,I.free,I.freeC,I.pin,I.hok,I.len⟩
def Inv.un1{v:Value}{E:qc}{Z':St}{H':Hp}{s':Shared}(I:Inv X U Z H s)(Jq:Inv (X.mk1 v E) U Z' H' s'):Inv X U Z' H' s' :=
 ⟨I.ok,Jq.os,Jq.bare,Jq.base,Jq.loc,Jq.cell,Jq.free,Jq.freeC,Jq.pin,Jq.hok,Jq.len⟩
def jw5{M:Model}{A:Around}{E:qc}{i:Nat}{x:Str}{v:V}{pos:Pos}{Q:Unit->Shared->Prop}(I:Inv X U Z H s)(hN:X.N.Nodup)(hi:X.N[i]? = some x)(hk:X.env.scope.names.lookup x=some .local)(hv:Z[i]? = some (some v))
  (h:∀ s',Inv X U (Z.set i none) H s'->Q () s'):wpAny M A (unbindBehindTheSuite X.env x pos) Q E s:=by
 obtain⟨m,hn,hl⟩:=id I.loc;have hcls:(X.env.scope.kind == .class || (X.env.scope.kind == .module&&X.env.locals != X.env.globals))=false:=by rw[I.ok.kind];rfl
 have cne:=I.cne;obtain⟨u,ru,lk⟩:=hl i x v hi hv (.inl hk);have hu:m x=some u:=by
  rcases lk with ⟨_,e⟩|⟨k,_⟩
  ·exact e
  ·have hk':X.env.kindOf x=some .local:=hk;rcases k with k|k
   ·rw[hk'] at k;cases k
   ·rw[hk'] at k;cases k
 unfold unbindBehindTheSuite;refine wpAny_onRaise (wpAny_unbindName_local hk hn hu hcls fun h' u' hn' hs=>?_);obtain⟨oL,_,_,hoL,_⟩:=id hn;have low:∀ {b:Addr} {o:Obj},X.s₀.heap.get? b=some o->b≠X.env.locals:=fun e=>zcv (zcx (zbv e) I.ok.above)
 refine h _ ⟨I.ok,I.os,I.bare,⟨fun b o e n hb hx=>(hs.2 b (low e)).trans (I.base.keep b o e n hb hx),fun b o e n hb hx=>?_,I.base.free,fun b o e hx=>?_,I.base.tups,I.base.frzs,I.base.tbls⟩,⟨_,hn',fun j y v' e1 e2 e3=>?_⟩,fun y c e=>?_,I.free,I.freeC,fun p hp=>?_,fun b ob e=>?_,by simpa using I.len⟩
 ·obtain⟨sl,e1⟩:=I.base.slot b o e n hb hx;exact⟨sl,(hs.2 b (low e)).trans e1⟩
 ·obtain⟨o',e1⟩:=I.base.there b o e hx;exact⟨o',(hs.2 b (low e)).trans e1⟩
 ·have hj:j≠i:=fun z=>by
   rw[z,zcz (zbb.mp hv).1] at e2;cases e2
  rw[zbw (Ne.symm hj)] at e2;obtain⟨w,r',q⟩:=hl j y v' e1 e2 e3;refine⟨w,r',?_⟩;rcases q with ⟨k,e⟩|⟨k,c,e,z⟩
  ·refine .inl ⟨k,?_⟩;have:y≠x:=fun e=>hj (jn7 hN e1 (e ▸ hi))
   simp[this,e]
  ·exact .inr ⟨k,c,e,z.sameBut hs (cne y c e)⟩
 ·obtain⟨w,z⟩:=I.cell y c e;exact⟨w,z.sameBut hs (cne y c e)⟩
 ·obtain⟨e,n,ne,nf,d⟩:=I.pin p hp;exact⟨(hs.2 p.1 ne).trans e,n,ne,nf,d⟩
 ·refine (I.hok b ob e).stay (fun c w hc q=>(hs.2 c ?_).trans q) (fun _ q=>q) fun _ _ q=>q
  rintro rfl;rcases hc with z|hc
  ·rw[<- z,I.free] at e;cases e
  ·rw[I.free] at hc;cases hc
def jH8{A':Around}{E':qc}{Q:Unit->Shared->Prop}(I:Inv X U Z H s)(F:Fly H a C od s)(k:∀ s',Inv X U Z H s'->Q () s'):wpAny (model X.prog X.w) A' (setFlight (.ref a) none) Q E' s:=by
 obtain⟨e1,vs,sl,e2,tb,ne,tr⟩:=F;unfold setFlight
 cases tb with
 | no h1 =>
  refine zay (wpAny_field e2 rfl h1 ?_);rw[if_neg (by decide)];exact zab (k s I)
 | yes T oT ts h1 h2 h3 h4 =>
  refine zay (wpAny_field e2 rfl h1 ?_);rw[if_pos (show (Value.ref T != Value.none)=true from by simp)];have hs:=(Array.getElem?_eq_some_iff.mp h4).1;refine wpAny_setField h2 h3 hs (k _ ?_);have dT:=Obj.data_mapFields h3 (·.setIfInBounds 3 ((none:Option Addr).elim Value.none fun f=>rawInt f));have q:=Heap.get?_update_self (Obj.mapFields (·.setIfInBounds 3 ((none:Option Addr).elim Value.none fun f=>rawInt f))) h2 (Obj.isFreed_of_fields dT);have hT:=tr T h1;have Jq:Inv X U Z (upd H T (XT T)) { s with heap:=s.heap.update T (Obj.mapFields (·.setIfInBounds 3 ((none:Option Addr).elim Value.none fun f=>rawInt f))),toks:=s.toks } :=
   I.write (x:=T) (e:=T) (by rw[hT];exact True.intro) (.inl rfl) (fun b u hb z=>(Heap.get?_update_other _ _ (Ne.symm hb)).trans z) ⟨_,q⟩ (jw9 q dT (by simp[hs]))
  have eH:upd H T (XT T)=H:=by
   funext b
   by_cases z:b=T
   ·rw[z,jaq,hT]
   ·rw[jal z]
  rw[eH] at Jq;exact Jq
def jBw{B n y:Str}{Bc:Addr}{j l:Nat}{np hpos py pn ypos:Pos}{Q:Flow->Shared->Prop}{E':qc}(I:Inv X U Z H s)(F:Fly H a C od s)(hex:W.exmOne X.K (.ref C) (.ref Bc)=some true)(hg:Gl X B)(hm:X.mg B=some (.ref Bc))(hdb:(B == ("__debug__":Str))=false)
  (hN:X.N.Nodup) (hj:X.N[j]? = some n) (hn:X.env.scope.names.lookup n=some .local) (hl:X.N[l]? = some y) (hy:X.env.scope.names.lookup y=some .local) (hjl:j≠l)
  (hnd:(n == ("__debug__":Str))=false) (hncd:(n == ("__classdict__":Str))=false) (hs:swapsWith (.Name n pn) (some (.Name y py)) ypos.line X.env=pure false)
  (k:∀ s',Inv X U (((Z.set j (some (.ref a))).set l (some (.ref a))).set j none) H s'->Q .next s') :
  wpAny (model X.prog X.w) X.A (handleBy (.ref a) X.env [.ExceptHandler (some (.Name B np)) (some n) [.Assign [.Name y py] (.Name n pn) ypos] hpos]) Q E' s:=by
 have e2:∃ vs sl,s.heap.get? a=some (xOb C od vs sl):=by obtain⟨_,vs,sl,e2,_⟩:=F;exact⟨vs,sl,e2⟩
 obtain⟨vs,sl,e2⟩:=e2;have jl:j<Z.length:=by rw[I.len];exact (zbb.mp hj).1
 have I':=I.mk1 (.ref a) fun _ _=>False
 have LT:Looks (model X.prog X.w) s.heap (typeOf (.ref a)) (.ref C):=by
  intro A' Q' E' s' k z;unfold typeOf;exact zay (wpAny_loadPart (k _ _ e2) (zab z))
 refine wpAny_handleBy_cons (codeAny_handlers_test (jju (X:=X.mk1 (.ref a) fun _ _=>False) I' hg hm ?_ hdb)) (by intro q;cases q);refine (W.exm_one I.kIn LT hex).here ?_;show codeAny _ _ (.handlers (.ref a) [.ExceptHandler none (some n) [.Assign [.Name y py] (.Name n pn) ypos] hpos] X.env) _ s;refine codeAny_handlers_suite_as (jH8 (X:=X.mk1 (.ref a) fun _ _=>False) I' F fun s1 I1=>?_);refine jjm (X:=X.mk1 (.ref a) fun _ _=>False) I1 hN hj (.inl hn) (v:=.ref a) rfl (fun s2 I2=>?_) (.inr hn);have hv:(Z.set j (some (V.ref a)))[j]? = some (some (.ref a)):=zcz jl;have PSx:=joe (jlq (X:=X.mk1 (.ref a) fun _ _=>False) (pos:=ypos) (pos':=py) hN hl (.inl hy) (jmu (pos:=pn) hj (.inl hn) hnd hncd) hs (.inr hy));refine wpAny_mono (PSx U s2 _ H ⟨fun Z' H'=>Z'=(Z.set j (some (.ref a))).set l (some (.ref a))/\H'=H,fun _ _=>False,fun _ _=>False,fun _ _=>False⟩ I2 ⟨_,hv,rfl,rfl⟩) (fun f s3 q=>?_) fun _ _ z=>z.elim
 cases f with
 | brk=>obtain⟨_,_,_,z⟩:=q;exact z.elim
 | cont=>obtain⟨_,_,_,z⟩:=q;exact z.elim
 | ret u=>obtain⟨_,_,_,_,_,z⟩:=q;exact z.elim
 | next =>
  obtain⟨Z3,H3,I3,rfl,rfl⟩:=q;show wpAny _ X.A (do bindName X.env n .none;unbindBehindTheSuite X.env n hpos) (fun _ s₃=>Q .next s₃) E' s3;refine zay (wpAny_bindName (jjm (I.un1 I3) hN hj (.inl hn) (v:=.non) rfl (fun s4 I4=>?_) (.inr hn)));refine jw5 I4 hN hj hn (zcz (by simpa using jl)) fun s5 I5=>k s5 ?_
  rw[List.set_set] at I5;exact I5
end
end L2
namespace L2
open PyProof.Rows
open PySem.W (Frag InstAt Looks findIn mroIn clsIn)
def EX(Er:Addr->Addr->Option Addr->Hp->Prop):XK:=fun v od H=>∃ a C,v=.ref a/\H a=some (XO a C od false)/\Er a C od H
def jAv{X:Cx}{U:qb}{Z:St}{H:Hp}{s:Shared}{a C C':Addr}{od od':Option Addr}{f f':Bool}(I:Inv X U Z H s)(h:H a=some (XO a C od f))(h':H a=some (XO a C' od' f')):C=C':=by
 obtain⟨vs,sl,e,_⟩:=jqb I h;obtain⟨vs',sl',e',_⟩:=jqb I h';rw[e] at e';have:=congrArg Obj.cls (zby e');exact Value.ref.inj this
section
variable {X:Cx}{CX:CXT}{k:Nat}{f:Addr}{fd:FuncData}{ps:List Str}{sp:Sp}{E:XK}{e:Expr}
def jGh{U:qb}{Z:St}{H:Hp}{s:Shared}{Q:VK}{us:List Value}{vs:List V}(F:FnOk X.prog X.w X.K X.mg X.base CX k f fd ps sp)(hr:Room k X.A)(hb:Binds X.K fd ps [])(hx:∀ H1 s1 e s',Inv X U Z H1 s1->CX X.stack H1 s1 E e s'->X.xe e s')
  (I:Inv X U Z H s) (r:Vals vs us) (h:sp vs H Q E):wpAny (model X.prog X.w) X.A (call (.ref f) us) (EP X U Z Q) X.xe s:=by
 have hl:(us++[]).length=ps.length:=by rw[List.append_nil,<- r.length];exact F.len _ _ _ _ h
 refine wpAny_call (codeAny_mono (F.run X.A X.stack s H ⟨us,[]⟩ (us++[]) vs Q E hr I.env0 (hb s us I.kIn hl) (by rw[List.append_nil];exact r) h) fun r s' hq=>?_)
 cases r with
 | error e=>exact hx H s e s' I hq
 | ok fl =>
  cases fl with
  | ret u=>exact I.after hq
  | next=>exact False.elim hq
  | brk=>exact False.elim hq
  | cont=>exact False.elim hq
end
end L2
namespace DL
open L2
def xdO(i:Nat):XD:=⟨"",[("",.obj i)]⟩
def errI(x:XD):Option Nat:=match x.fs with
 | [(_,.obj i)]=>some i
 | _=>none
def ErrK(K:W.Frag)(mg:qa)(Jz:Rho)(Sz:qd)(Hz:Hp)(F:qd)(Ω':Sto)(x:XD)(E:XK):Prop :=
 ∀ i a C od J' S' H',errI x=some i->RT Jz Sz Hz F K mg J' S' H' Ω'->J' i=some a->H' a=some (XO a C od false)->E (.ref a) od H'
def OkR(K:W.Frag)(mg:qa)(O' B:List Nat)(Jz:Rho)(Sz:qd)(Hz:Hp)(F:qd)(J:Rho)(Hv:Hp)(Dn:Ends)(E:XK)(r:Except XD Out)(Ω':Sto):Prop:=match r with
 | .ok o=>OkE K mg O' B Jz Sz Hz F J Hv Dn (.ok o) Ω'
 | .error x=>ErrK K mg Jz Sz Hz F Ω' x E
theorem OkR.back{K:W.Frag}{mg:qa}{O' B:List Nat}{Jz J J':Rho}{Sz:qd}{Hz:Hp}{F:qd}{Hv Hv':Hp}{Dn:Ends}{E:XK}{r:Except XD Out}{Ω':Sto}(l:RLe J J')(e:Same Hv Hv')(h:OkR K mg O' B Jz Sz Hz F J Hv Dn E r Ω') :
  OkR K mg O' B Jz Sz Hz F J' Hv' Dn E r Ω':=by
 cases r with
 | error x=>exact h
 | ok o=>exact OkE.back l e h
inductive sR(K:W.Frag)(mg:qa)(O O' B:List Nat)(g:DSt->MS Out)(E:XK)(Dn:Ends)(Z:St)(H:Hp):Prop
 | mk (Jz:Rho) (Sz:qd) (Hz:Hp) (F:qd) (J:Rho) (S:qd) (Y:DSt) (Ω:Sto) (R:RM Jz Sz Hz F K mg O J S H Z Y Ω) (r:Except XD Out) (Ω':Sto) (hf:g Y Ω=some (r,Ω')) (k:OkR K mg O' B Jz Sz Hz F J (hid H (fob (un F S) Z O)) Dn E r Ω')
def MSr(X:Cx)(O O' B:List Nat)(E:XK)(st:Stmt)(g:DSt->MS Out):Prop:=PS X st (sR X.K X.mg O O' B g E)
def MSsr(X:Cx)(O O' B:List Nat)(E:XK)(st:List Stmt)(g:DSt->MS Out):Prop:=PSs X st (sR X.K X.mg O O' B g E)
def Wx(X:Cx)(E:XK):Prop:=∀ U Z e s,Back X U Z E e s->X.xe e s
def jpu(cs:List Str)(i:Nat):MS Out:=fun Ω=>match Ω[i]? with
 | some (.exc c (j,true))=>if cs.contains c then some (.error (xdO i),Ω.set i (.exc c (j,false))) else none
 | _=>none
def jgu(cs:List Str)(fa:DSt->MS D):DSt->MS Out:=fun Y=>(fa Y).b fun d=>match d with
 | .obj i=>jpu cs i
 | _=>fun _=>none
inductive RaiseI(cs:List Str)(d:D)(Ω Ω':Sto)(r:Except XD Out):Prop
 | mk (i:Nat) (c:Str) (j:Option Nat) (h1:d=.obj i) (h2:Ω[i]? = some (.exc c (j,true))) (h3:c∈cs) (h4:r=.error (xdO i)) (h5:Ω'=Ω.set i (.exc c (j,false)))
def jwf{cs:List Str}{d:D}{Ω Ω':Sto}{r:Except XD Out}(h:(match d with
 | .obj i=>jpu cs i
 | _=>fun _=>none:MS Out) Ω=some (r,Ω')):RaiseI cs d Ω Ω' r:=by
 split at h
 ·rename_i i;unfold jpu at h
  split at h
  ·rename_i c j hi
   split at h
   ·rename_i hc;cases h;exact⟨i,c,j,rfl,hi,zbc.mp hc,rfl,rfl⟩
   ·cases h
  ·cases h
 ·cases h
section
variable {X:Cx}{O O' O'' B:List Nat}{E:XK}{a c e o iter tg:Expr}{fa:DSt->MS D}{fi:DSt->MS (List D)}{pos:Pos}{st:Stmt}{rest:List Stmt}{g g1 g2:DSt->MS Out}{tc:DSt->MS Bool}{cs fs:List Str}{bn:Str}
def jdp(h:MSt X O O' B st g):MSr X O O' B E st g:=by
 rintro U s Z H Dn I ⟨Jz,Sz,Hz,F,J,S,Y,Ω,R,r,Ω',hf,k⟩;refine h U s Z H Dn I ⟨Jz,Sz,Hz,F,J,S,Y,Ω,R,r,Ω',hf,?_⟩
 cases r with
 | ok o=>exact k
 | error x=>trivial
def jn6(h:MSs X O O' B rest g):MSsr X O O' B E rest g:=by
 rintro U s Z H Dn I ⟨Jz,Sz,Hz,F,J,S,Y,Ω,R,r,Ω',hf,k⟩;refine h U s Z H Dn I ⟨Jz,Sz,Hz,F,J,S,Y,Ω,R,r,Ω',hf,?_⟩
 cases r with
 | ok o=>exact k
 | error x=>trivial
def jbd(h1:MSr X O O' B E st g1)(h2:MSsr X O' O'' B E rest g2):MSsr X O O'' B E (st::rest) (eSeq g1 g2):=by
 rintro U s Z H Dn I ⟨Jz,Sz,Hz,F,J,S,Y,Ω,R,r,Ω',hf,k⟩;refine jod h1 h2 U s Z H Dn I ?_;rcases MS.b_inv hf with ⟨o,Ω1,e1,hf⟩|⟨x,e1,rfl⟩
 ·refine⟨Jz,Sz,Hz,F,J,S,Y,Ω,R,.ok o,Ω1,e1,?_⟩
  cases o with
  | nx Y'=>exact fun ρ1 S1 Z1 H1 R1 l1 v1=>⟨Jz,Sz,Hz,F,ρ1,S1,Y',Ω1,R1,r,Ω',hf,k.back l1 v1⟩
  | rt d=>cases hf;exact k
  | bk Y'=>cases hf;exact k
  | ct Y'=>cases hf;exact k
 ·exact⟨Jz,Sz,Hz,F,J,S,Y,Ω,R,.error x,_,e1,k⟩
def jbn(h1:MSr X O O' B E st g):MSsr X O O' B E [st] g:=fun U s Z H Dn I h=>joe h1 U s Z H Dn I h
def jj8{s1 s2:List Stmt}(hc:MT X O c tc)(h1:MSsr X O O' B E s1 g1)(h2:MSsr X O O' B E s2 g2):MSr X O O' B E (.If c s1 s2 pos) (eIf tc g1 g2):=by
 rintro U s Z H Dn I ⟨Jz,Sz,Hz,F,J,S,Y,Ω,R,r,Ω',hg,k⟩;refine jCz hc h1 h2 U s Z H Dn I ?_;rcases MS.b_inv hg with ⟨z,Ω1,e1,hg⟩|⟨x,e1,rfl⟩
 ·refine⟨Jz,Sz,Hz,F,J,S,Y,Ω,R,.ok z,_,e1,fun ρ1 S1 H1 R1 l1 v1=>?_⟩
  cases z with
  | true=>exact iteT ⟨Jz,Sz,Hz,F,ρ1,S1,Y,Ω1,R1,r,Ω',hg,k.back l1 v1⟩
  | false=>exact iteF ⟨Jz,Sz,Hz,F,ρ1,S1,Y,Ω1,R1,r,Ω',hg,k.back l1 v1⟩
 ·exact⟨Jz,Sz,Hz,F,J,S,Y,Ω,R,.error x,_,e1,trivial⟩
def jvk{body:List Stmt}{h:D->DSt->Option DSt}(hp:PassesOwn (model X.prog X.w) X.A X.env X.xe)(hc:X.calm=true)(hi:MI X O tg iter fi)(hg:DG X O tg h)(hb:MSsr X O O O E body g)
  (hs:∀ x,foldedSetIterable iter X.env x=pure x:=by intro _;rfl):MSr X O O B E (.For tg iter body [] pos) (eFor fi h g):=by
 rintro U s Z H Dn I ⟨Jz,Sz,Hz,F,J,S,Y,Ω,R,r,Ω',hgf,k⟩;refine jv8 hp hc hi hg hb hs U s Z H Dn I ?_;rcases MS.b_inv hgf with ⟨ds,Ω1,e1,hgf⟩|⟨y,e1,rfl⟩
 ·refine⟨Jz,Sz,Hz,F,J,S,Y,Ω,R,.ok ds,Ω1,e1,fun Jq ρ1 S1 H1 R1 l1 v1 it=>?_⟩;refine⟨fun i m Z' H'=>m=ds.length-i/\i<=ds.length/\∃ J' S' Y' Ω2,RM Jz Sz Hz F X.K X.mg O J' S' H' Z' Y' Ω2/\RLe ρ1 J'/\Same (hid H1 (fob (un F S1) Z O)) (hid H' (fob (un F S') Z' O))/\forE g h (ds.drop i) Y' Ω2=some (r,Ω'),
   ⟨ds.length,by simp,Nat.zero_le _,ρ1,S1,Y,Ω1,R1,RLe.refl _,Same.refl _,hgf⟩,?_⟩
  rintro i m Z' H' ⟨rfl,hil,J',S',Y',Ω2,R',l',f',hr⟩;obtain⟨j1,j2⟩:=it H' (fob (un F S') Z' O) i f' (fun p hp=>R'.fresh hp)
  by_cases hlt:i<ds.length
  ·obtain⟨go,yld⟩:=j1 hlt;refine .inr ⟨go,fun Z2 H2=>∃ ρ2 S2 Y2 Ω3,RM Jz Sz Hz F X.K X.mg O ρ2 S2 H2 Z2 Y2 Ω3/\RLe ρ1 ρ2/\Same (hid H1 (fob (un F S1) Z O)) (hid H2 (fob (un F S2) Z2 O))/\forE g h (ds.drop (i+1)) Y2 Ω3=some (r,Ω'),fun Z2 H2 ⟨ρ2,S2,Y2,Ω3,a1,a2,a3,a4⟩=>⟨ds.length-(i+1),by omega,rfl,hlt,ρ2,S2,Y2,Ω3,a1,a2,a3,a4⟩,fun x H2 y=>?_⟩;obtain⟨s2,d,hd,rd⟩:=yld x H2 y;have hdr:ds.drop i=d::ds.drop (i+1):=by
    rw[List.drop_eq_getElem_cons hlt];have:ds[i]=d:=by rw[zax hlt] at hd;exact zby hd
    rw[this]
   rw[hdr] at hr;unfold forE at hr
   cases e2:h d Y' with
   | none=>rw[e2] at hr;cases hr
   | some Y1 =>
    rw[e2] at hr;dsimp only at hr;have R2:=R'.mono s2;have f2:Same (hid H1 (fob (un F S1) Z O)) (hid H2 (fob (un F S') Z' O)):=f'.trans (jax s2);refine⟨J',_,un F S',Y',d,Y1,R2.rs,rd.rho l',e2,fun Z3 ef R3=>?_⟩;have R3':RM Jz Sz Hz F X.K X.mg O J' S' H2 Z3 Y1 Ω2:=R2.next R3 (by rw[ef];exact Same.refl _);rcases MS.b_inv hr with ⟨o,Ω3,e3,hr⟩|⟨y,e3,rfl⟩
    ·refine⟨Jz,Sz,Hz,F,J',S',Y1,Ω2,R3',.ok o,Ω3,e3,?_⟩;rw[ef]
     cases o with
     | nx Y4=>exact fun J4 S4 Z4 H4 R4 l4 v4=>⟨J4,S4,Y4,Ω3,R4,l'.trans l4,f2.trans v4,hr⟩
     | ct Y4=>exact fun J4 S4 Z4 H4 R4 l4 v4=>⟨J4,S4,Y4,Ω3,R4,l'.trans l4,f2.trans v4,hr⟩
     | bk Y4=>cases hr;exact fun J4 S4 Z4 H4 R4 l4 v4=>k J4 S4 Z4 H4 R4 (l1.trans (l'.trans l4)) (v1.trans (f2.trans v4))
     | rt v=>cases hr;exact k
    ·exact⟨Jz,Sz,Hz,F,J',S',Y1,Ω2,R3',.error y,_,e3,k⟩
  ·have ei:i=ds.length:=by omega
   subst ei;rw[List.drop_length] at hr;cases hr;exact .inl ⟨j2 rfl,k J' S' Z' H' R' (l1.trans l') (v1.trans f')⟩
 ·exact⟨Jz,Sz,Hz,F,J,S,Y,Ω,R,.error y,_,e1,trivial⟩
def jjf(T:ErrT X.K X.mg cs fs bn)(hc:X.calm=true)(hx:Wx X E)(ha:ME X O e fa):MSr X O O' B E (.Raise (some e) none pos) (jgu cs fa):=by
 rintro U s Z H Dn I ⟨Jz,Sz,Hz,F,J,S,Y,Ω,R,r,Ω',hg,k⟩;refine jys ha hc U s Z H Dn I ?_;rcases MS.b_inv hg with ⟨d,Ω1,e1,hg⟩|⟨x,e1,rfl⟩
 ·refine⟨Jz,Sz,Hz,F,J,S,Y,Ω,R,.ok d,Ω1,e1,fun v ρ1 S1 H1 R1 l1 v1 r1=>?_⟩;obtain⟨i,c,j,rfl,hi,hcs,rfl,rfl⟩:=jwf hg;obtain⟨ad,q1,q2⟩:=rep_obj.mp r1;obtain⟨ad',p1,p2,p3⟩:=R1.sto.ats i _ hi;rw[q1] at p1;cases p1
  have fin:∀ C od,X.mg c=some (.ref C)->H1 ad=some (XO ad C od true)->SOk ρ1 S1 X.K X.mg (upd H1 ad (XO ad C od false)) (hid H1 (fob (un F S1) Z O)) ad (.exc c (j,false)) ->
    ∃ a C od,v=.ref a/\H1 a=some (XO a C od true)/\XCls X.K C/\∀ U s,Inv X U Z (upd H1 a (XO a C od false)) s->Fly (upd H1 a (XO a C od false)) a C od s->X.xe (.ref a) s:=fun C od g1 g2 g3=>by
   refine⟨ad,C,od,q2,g2,T.cls c hcs C g1,fun pins' s' Jq Fl=>?_⟩;obtain⟨w1,w2⟩:=R1.putS (so':=.exc c (j,false)) (o':=XO ad C od false) hi q1 p2 g2 jAw g3;exact hx pins' Z _ s' ⟨ad,C,od,_,_,rfl,Jq,Fl,fun _ _ z=>z,k i ad C od ρ1 S1 _ rfl w1.rt q1 jaq⟩
  cases p3 with
  | no f C g1 g2=>exact fin C none g1 g2 (ExcOk.no false C g1 jaq)
  | yes f j C dx g1 g2 g3=>exact fin C (some dx) g1 g3 (ExcOk.yes false j C dx g1 g2 jaq)
 ·exact⟨Jz,Sz,Hz,F,J,S,Y,Ω,R,.error x,_,e1,trivial⟩
end
inductive spR(K:W.Frag)(mg:qa)(n:Nat)(m:List D->MS D)(vs:List V)(H:Hp)(Q:VK)(E:XK):Prop
 | mk (hn:vs.length=n) (J:Rho) (S F:qd) (ds:List D) (Ω:Sto) (hF:∀ b,F b=true->H b≠none) (hS:∀ b,F b=true->S b=false) (hr:Reps J K (hid H (un F S)) ds vs) (hs:StoOk J S K mg H (hid H (un F S)) Ω) (r:Except XD D) (Ω':Sto) (hf:m ds Ω=some (r,Ω')) (k:match (generalizing:=false) r with
  | .ok d=>∀ v J' S' H',RT J S H F K mg J' S' H' Ω'->Rep J' K (hid H' (un F S')) d v->Q v H'
  | .error x=>ErrK K mg J S H F Ω' x E)
inductive CalY(P:Program)(w:World)(K:W.Frag)(mg:qa)(base:Heap)(k:Nat)(x:Str)(n:Nat)(sp:Sp):Prop
 | mk (f:Addr) (fd:FuncData) (ps:List Str) (h1:ps.length=n) (h2:mg x=some (.ref f)) (h3:W.keepIn K (.ref f)=true) (h4:Binds K fd ps []) (h5:FnOk P w K mg base (CX1 P w) k f fd ps sp)
inductive MetY(P:Program)(w:World)(K:W.Frag)(mg:qa)(base:Heap)(k:Nat)(c x:Str)(n:Nat)(sp:Sp):Prop
 | mk (C f:Addr) (fd:FuncData) (ps:List Str) (h1:ps.length=n) (h2:mg c=some (.ref C)) (h3:Cls K C) (h4:Meth K C x f) (h5:Binds K fd ps []) (h6:FnOk P w K mg base (CX1 P w) k f fd ps sp)
structure CalR(P:Program)(w:World)(K:W.Frag)(mg:qa)(base:Heap)(k:Nat)(x:Str)(n:Nat)(m:List D->MS D):Prop where
 ex:CalY P w K mg base k x n (spR K mg n m)
 ar:∀ ds Ω r,m ds Ω=some r->ds.length=n
structure MetR(P:Program)(w:World)(K:W.Frag)(mg:qa)(base:Heap)(k:Nat)(c x:Str)(n:Nat)(m:List D->MS D):Prop where
 ex:MetY P w K mg base k c x n (spR K mg n m)
 ar:∀ ds Ω r,m ds Ω=some r->ds.length=n
section
variable {P:Program}{w:World}{K:W.Frag}{mg:qa}{base:Heap}
def joo{N:List Str}{qual:Str}{scope:Scope}{f:Addr}{cd:Value}{A:Around}{outer:List Env}{s:Shared}{H:Hp}{E:XK}:Wx (cxOf (CX1 P w) P w K mg base N qual scope f cd A outer s H E) E:=fun _ _ _ _ B=>jE8 B
def fn_R{x q:Str}{st:Stmt}{N ps:List Str}{k:Nat}{O':List Nat}{g:DSt->MS Out}{f:Addr}{fd:FuncData}(F:Fun K x q st f fd)(Sc:FnScope N ps (jad st))
  (hbody:∀ (f:Addr) (cdv:Value) (A:Around) (outer:List Env) (s:Shared) (H:Hp) (E:XK),Room k (A.deeper (PyProof.Rows.envOfC q (jad st) s.heap.objs.size f cdv)) ->
   MSsr (cxOf (CX1 P w) P w K mg base N q (jad st) f cdv A outer s H E) [] O' [] E (jaw st) g):FnOk P w K mg base (CX1 P w) (k+1) f fd ps (spR K mg ps.length (mirE ps.length N.length g)):=by
 obtain⟨oc,od,kV,doc,pm,an,cdv,ct,osl,rfl,lk,hcd⟩:=F.ex;refine jEr lk hcd Sc (fun vs H Q E h=>h.1) fun A outer s H vs Q E hr h=>?_
 obtain⟨hl,J,S,F',ds,Ω,fin,ff,rp,sto,r,Ω',hmr,k0⟩:=h;refine⟨_,hbody f cdv A outer s H E hr,?_⟩;have hpl:ps.length<=N.length:=by have:=congrArg List.length Sc.pre;rw[List.length_take] at this;omega
 have hdl:ds.length=ps.length:=by rw[<- rp.length];exact hl
 unfold mirE at hmr;rw[if_pos hdl] at hmr;have R:RM J S H F' K mg [] J S H (L2.start N vs) (startD N.length ds) Ω:=by
  refine⟨⟨?_,jay,fun b hb=>?_,fun i d hd _=>?_,fun i hi=>absurd hi (by simp),fun i hi=>absurd hi (by simp)⟩,RLe.refl _,fun b o _ h=>h,fun b h=>h,fun b h=>.inl h,fun i hi=>absurd hi (by simp),ff,by rw[jf5];exact sto⟩
  ·simp[L2.start,startD,rp.length]
  ·rcases un_t.mp hb with z|z
   ·exact fin b z
   ·exact sto.fin b z
  ·obtain⟨v,e,rv⟩:=rp.get (jj3 hd);exact⟨v,jlz e,by rw[jf5];exact rv⟩
 rcases MS.b_inv hmr with ⟨o,Ω1,e1,hmr⟩|⟨y,e1,rfl⟩
 ·refine⟨J,S,H,F',J,S,_,Ω,R,.ok o,Ω1,e1,?_⟩
  cases o with
  | rt d =>
   cases hmr;exact fun v J' S' H' T rv=>k0 v J' S' H' T rv
  | nx Y =>
   cases hmr;exact fun J' S' Z' H' R' _ _=>k0 .non J' S' H' R'.rt (rep_non.mpr rfl)
  | bk Y=>cases hmr
  | ct Y=>cases hmr
 ·exact⟨J,S,H,F',J,S,_,Ω,R,.error y,_,e1,k0⟩
def jng{x:Str}{st:Stmt}{N ps:List Str}{k:Nat}{O':List Nat}{g:DSt->MS Out}(hf:jb3 K mg x st ps)(S:FnScope N ps (jad st))
  (hbody:∀ (f:Addr) (cdv:Value) (A:Around) (outer:List Env) (s:Shared) (H:Hp) (E:XK),Room k (A.deeper (PyProof.Rows.envOfC x (jad st) s.heap.objs.size f cdv)) ->
   MSsr (cxOf (CX1 P w) P w K mg base N x (jad st) f cdv A outer s H E) [] O' [] E (jaw st) g):CalR P w K mg base (k+1) x ps.length (mirE ps.length N.length g):=by
 obtain⟨f,fd,hm,F,hb⟩:=hf;exact⟨⟨f,fd,ps,rfl,hm,F.kp,hb,fn_R F S hbody⟩,jjw⟩
def jCa{c x q:Str}{st:Stmt}{N ps:List Str}{k:Nat}{O':List Nat}{g:DSt->MS Out}(hf:MetAt K mg c x q st ps)(S:FnScope N ps (jad st))
  (hbody:∀ (f:Addr) (cdv:Value) (A:Around) (outer:List Env) (s:Shared) (H:Hp) (E:XK),Room k (A.deeper (PyProof.Rows.envOfC q (jad st) s.heap.objs.size f cdv)) ->
   MSsr (cxOf (CX1 P w) P w K mg base N q (jad st) f cdv A outer s H E) [] O' [] E (jaw st) g):MetR P w K mg base (k+1) c x ps.length (mirE ps.length N.length g):=by
 obtain⟨C,f,fd,hm,hc,hM,F,hb⟩:=hf.ex;exact⟨⟨C,f,fd,ps,rfl,hm,hc,hM,hb,fn_R F S hbody⟩,jjw⟩
end
section
variable {X:Cx}{O:List Nat}{E:XK}{a b e:Expr}{x:Str}{k n:Nat}
variable {Jz J:Rho}{Sz S F:qd}{Hz H:Hp}{Z:St}{Y:DSt}{Ω Ω':Sto}
def jAo{m:List D->MS D}{ds:List D}{vs:List V}{r:Except XD D}{Q:VK}(R:RM Jz Sz Hz F X.K X.mg O J S H Z Y Ω)(hl:ds.length=n)(hr:Reps J X.K (hid H (fob (un F S) Z O)) ds vs)(hm:m ds Ω=some (r,Ω'))
  (k:match (generalizing:=false) r with
   | .ok d=>∀ v J' S' H',RM Jz Sz Hz F X.K X.mg O J' S' H' Z Y Ω'->RLe J J'->Same (hid H (fob (un F S) Z O)) (hid H' (fob (un F S') Z O))->Rep J' X.K (hid H' (fob (un F S') Z O)) d v->Q v H'
   | .error x=>∀ i a C od J' S' H',errI x=some i->RM Jz Sz Hz F X.K X.mg O J' S' H' Z Y Ω'->RLe J J'->Same (hid H (fob (un F S) Z O)) (hid H' (fob (un F S') Z O))->J' i=some a->H' a=some (XO a C od false)->E (.ref a) od H'):spR X.K X.mg n m vs H Q E:=by
 refine⟨by rw[hr.length];exact hl,J,S,fob F Z O,ds,Ω,fun b hb=>?_,fun b hb=>?_,by rw[jfx];exact hr,by rw[jfx];exact R.sto,r,Ω',hm,?_⟩
 ·intro z;have:=R.fresh z;rw[<- jfx,un_t.mpr (.inl hb)] at this;cases this
 ·rcases fob_t.mp hb with z|z
  ·exact R.ff b z
  ·cases e:S b with
   | false=>rfl
   | true=>exact absurd z (R.base_S e)
 ·cases r with
  | error x =>
   intro i a C od J' S' H' hx T hρ hH;obtain⟨t1,t2⟩:=R.call T.rho T.same T.old T.new T.ff T.sto;exact k i a C od J' S' H' hx t1 T.rho t2 hρ hH
  | ok d =>
   intro v J' S' H' T rv;obtain⟨t1,t2⟩:=R.call T.rho T.same T.old T.new T.ff T.sto;rw[jfx] at rv;exact k v J' S' H' t1 T.rho t2 rv
end
structure ErrM(K:W.Frag)(mg:qa)(cs:List Str)(b:Str):Prop where
 atb:∃ C,mg b=some (.ref C)
 ex:∀ c∈cs,∀ C,mg c=some (.ref C)->∀ D,mg b=some (.ref D)->W.exmOne K (.ref C) (.ref D)=some true
def jHc(K:W.Frag)(es:List (Str×Addr))(B:Addr):Bool:=es.all fun p=>W.exmOne K (.ref p.2) (.ref B) == some true
def jBr{K:W.Frag}{mg:qa}{es:List (Str×Addr)}{B:Addr}{b:Str}(hm:∀ p∈es,mg p.1=some (.ref p.2))(hb:mg b=some (.ref B))(h:jHc K es B=true):ErrM K mg (es.map (·.1)) b:=by
 refine⟨⟨B,hb⟩,fun c hc C hC D hD=>?_⟩;rw[hb] at hD;cases hD;obtain⟨p,hp,rfl⟩:=List.mem_map.mp hc;rw[hm p hp] at hC;cases hC;exact beq_iff_eq.mp (List.all_eq_true.mp h p hp)
def jo1(cs:List Str)(j l:Nat)(Y:DSt)(y:XD)(Ω':Sto):Option (Except XD Out×Sto):=match errI y with
 | some q=>match Ω'[q]? with
  | some (.exc c (_,false))=>if cs.contains c then some (.ok (.nx (((Y.set j (some (.obj q))).set l (some (.obj q))).set j none)),Ω') else none
  | _=>none
 | none=>none
inductive CaughtI(cs:List Str)(j l:Nat)(Y:DSt)(y:XD)(Ω Ω':Sto)(r:Except XD Out):Prop
 | mk (q:Nat) (c:Str) (jj:Option Nat) (h1:errI y=some q) (h2:Ω[q]? = some (.exc c (jj,false))) (h3:c∈cs) (h4:r=.ok (.nx (((Y.set j (some (.obj q))).set l (some (.obj q))).set j none))) (h5:Ω'=Ω)
def js6{cs:List Str}{j l:Nat}{Y:DSt}{y:XD}{Ω Ω':Sto}{r:Except XD Out}(h:jo1 cs j l Y y Ω=some (r,Ω')):CaughtI cs j l Y y Ω Ω' r:=by
 unfold jo1 at h
 split at h
 ·rename_i q hq
  split at h
  ·rename_i c jj hi
   split at h
   ·rename_i hc;cases h;exact⟨q,c,jj,hq,hi,zbc.mp hc,rfl,rfl⟩
   ·cases h
  ·cases h
 ·cases h
section
variable {Jz J:Rho}{Sz S F:qd}{Hz H:Hp}{K:W.Frag}{mg:qa}{O:List Nat}{Z:St}{Y:DSt}{Ω:Sto}
def jfh{F:qd}{j:Nat}(h:j∉O):fob F (Z.set j none) O=fob F Z O:=by
 funext b
 rw[Bool.eq_iff_iff,fob_t,fob_t];refine or_congr Iff.rfl ⟨?_,?_⟩
 ·rintro⟨i,hi,q⟩;rw[zbw (by rintro rfl;exact h hi)] at q;exact⟨i,hi,q⟩
 ·rintro⟨i,hi,q⟩;exact⟨i,hi,by rw[zbw (by rintro rfl;exact h hi)];exact q⟩
def RM.unset(R:RM Jz Sz Hz F K mg O J S H Z Y Ω){j:Nat}(ho:j∉O):RM Jz Sz Hz F K mg O J S H (Z.set j none) (Y.set j none) Ω:=by
 have ne:∀ i∈O,j≠i:=fun i hi e=>ho (e ▸ hi)
 refine⟨⟨by simp[R.rs.len],?_,R.rs.fin,fun i d hd hi=>?_,fun i hi=>?_,fun i hi k hk a q1 q2=>?_⟩,R.rho,R.same,R.old,R.new,fun i hi a q=>?_,R.ff,by rw[jfh ho];exact R.sto⟩
 ·rw[jfh ho];exact R.rs.same
 ·rw[jfh ho];have hij:j≠i:=fun z=>by
   subst z
   by_cases q:j<Y.length
   ·rw[zcz q] at hd;cases hd
   ·rw[List.getElem?_eq_none (by simpa using q)] at hd;cases hd
  rw[zbw hij] at hd |-
  exact R.rs.val i d hd hi
 ·rw[zbw (ne i hi),zbw (ne i hi),jfh ho,jfh ho];exact R.rs.own i hi
 ·rw[zbw (ne i hi)] at q1;rw[zbw (ne k hk)] at q2;exact R.rs.nd i hi k hk a q1 q2
 ·rw[zbw (ne i hi)] at q;exact R.own0 i hi a q
end
section
variable {X:Cx}{O:List Nat}{E:XK}{fo:DSt->MS D}{fl:DSt->MS (List D)}{x c:Str}{k n:Nat}
variable {Jz J:Rho}{Sz S F:qd}{Hz H:Hp}{Z:St}{Y:DSt}{Ω Ω':Sto}
def jx8{m:List D->MS D}{Ca:Addr}{r:Except XD D}{Q:VK}(hm:X.mg c=some (.ref Ca))(ar:∀ ds Ω r,m ds Ω=some r->ds.length=n)(R:RM Jz Sz Hz F X.K X.mg O J S H Z Y Ω)(hf:jkd c x m fo fl Y Ω=some (r,Ω'))
  (k:match (generalizing:=false) r with
   | .ok d=>∀ v J' S' H',RM Jz Sz Hz F X.K X.mg O J' S' H' Z Y Ω'->RLe J J'->Same (hid H (fob (un F S) Z O)) (hid H' (fob (un F S') Z O))->Rep J' X.K (hid H' (fob (un F S') Z O)) d v->Q v H'
   | .error y=>∀ i a C od J' S' H',errI y=some i->RM Jz Sz Hz F X.K X.mg O J' S' H' Z Y Ω'->RLe J J'->Same (hid H (fob (un F S) Z O)) (hid H' (fob (un F S') Z O))->J' i=some a->H' a=some (XO a C od false)->E (.ref a) od H'):jDk Ca x (spR X.K X.mg n m) [] E (tE X.K X.mg O fo) (tEL X.K X.mg O fl) Z H Q:=by
 rcases MS.b_inv hf with ⟨od,Ω1,e1,hf⟩|⟨y,e1,rfl⟩
 ·refine⟨Jz,Sz,Hz,F,J,S,Y,Ω,R,.ok od,Ω1,e1,fun v ρ1 S1 H1 R1 l1 v1 r1=>?_⟩;obtain⟨i,fs,rfl,hi,hno,hf2⟩:=jn4 hf;obtain⟨ad,q1,q2⟩:=rep_obj.mp r1;obtain⟨ad',p1,p2,C',dx,vfs,p3,p4,p5,p6,p7⟩:=R1.sto.ats i _ hi;rw[q1] at p1;cases p1
  rw[hm] at p3;cases p3
  refine⟨ad,dx,vfs,q2,p4,p7.none hno,?_⟩;rcases MS.b_inv hf2 with ⟨ds,Ω2,e2,hf3⟩|⟨y,e2,rfl⟩
  ·refine⟨Jz,Sz,Hz,F,ρ1,S1,Y,Ω1,R1,.ok ds,Ω2,e2,fun vs ρ2 S2 H2 R2 l2 v2 r2=>?_⟩;show spR X.K X.mg n m (v::(vs++[])) H2 Q E;rw[List.append_nil];refine jAo R2 (ar _ _ _ hf3) (Reps.cons ((r1.rho l2).mono v2) r2) hf3 ?_
   cases r with
   | error y=>exact fun i a C od J3 S3 H3 he R3 l3 v3 hρ hH=>k i a C od J3 S3 H3 he R3 (l1.trans (l2.trans l3)) (v1.trans (v2.trans v3)) hρ hH
   | ok d=>exact fun v' J3 S3 H3 R3 l3 v3 r3=>k v' J3 S3 H3 R3 (l1.trans (l2.trans l3)) (v1.trans (v2.trans v3)) r3
  ·exact⟨Jz,Sz,Hz,F,ρ1,S1,Y,Ω1,R1,.error y,_,e2,trivial⟩
 ·exact⟨Jz,Sz,Hz,F,J,S,Y,Ω,R,.error y,_,e1,trivial⟩
end
end DL
namespace L2
open PyProof.Rows
open PySem.W (Frag InstAt Looks findIn mroIn clsIn)
section
variable {X:Cx}{CX:CXT}{k:Nat}{f:Addr}{fd:FuncData}{ps:List Str}{sp:Sp}{E:XK}{x:Str}{p pos:Pos}{e:Expr}{es:List Expr}{t:TA}
def jEt{U:qb}{Z:St}{H:Hp}{s:Shared}{Q:VK}(F:FnOk X.prog X.w X.K X.mg X.base CX k f fd ps sp)(hr:Room k X.A)(hg:Gl X x)(hm:X.mg x=some (.ref f))(hk:W.keepIn X.K (.ref f)=true)(hb:Binds X.K fd ps [])
  (hx:∀ H1 s1 e s',Inv X U Z H1 s1->CX X.stack H1 s1 E e s'->X.xe e s') (ha:PA X (e::es) t) (hdb:(x == ("__debug__":Str))=false) (he:zsE e es X.env) (hpl:zbT pos es X.env)
  (I:Inv X U Z H s) (h:jy8 sp [] E t Z H Q):wpAny (model X.prog X.w) X.A (eval (.Call (.Name x p) (e::es) [] pos) X.env) (EP X U Z Q) X.xe s:=by
 refine wpAny_Call_Name_kw (jju I hg hm ?_ hdb);refine W.callWith_K (h₀:=X.base) I.ok.mod.kin hk (thn (ha pos U s Z H _ I h) fun us s1 ⟨vs,H1,I1,r,q⟩=>⟨I1.kIn,?_⟩) he hpl;have q3:sp (vs++[]) H1 Q E:=q;rw[List.append_nil] at q3;exact jGh F hr hb hx I1 r q3
inductive tTryF(K:Frag)(sp:Sp)(t:TA)(Bc:Addr)(j l:Nat)(D:Ends)(Z:St)(H:Hp):Prop
 | mk (Er:Addr->Addr->Option Addr->Hp->Prop) (h1:jy8 sp [] (EX Er) t Z H fun v H1=>D.nx Z H1)
  (h2:∀ a C' od H1,H1 a=some (XO a C' od false)->Er a C' od H1->(∃ C2 od2,H1 a=some (XO a C2 od2 false)/\W.exmOne K (.ref C2) (.ref Bc)=some true)/\∀ H2,(∀ b o,H1 b=some o->H2 b=some o)->D.nx (((Z.set j (some (.ref a))).set l (some (.ref a))).set j none) H2)
def jC0{B n y:Str}{Bc:Addr}{j l:Nat}{np hpos py pn ypos spos tpos:Pos}(F:FnOk X.prog X.w X.K X.mg X.base (CX1 X.prog X.w) k f fd ps sp)(hr:Room k X.A)(hgx:Gl X x)(hmx:X.mg x=some (.ref f))(hk:W.keepIn X.K (.ref f)=true)(hb:Binds X.K fd ps [])(ha:∀ W,PA (X.wish W) (e::es) t)
  (hst:X.stack=X.env::X.outer) (hfr:X.env.frame=some X.env.locals) (hg:Gl X B) (hmB:X.mg B=some (.ref Bc)) (hN:X.N.Nodup) (hj:X.N[j]? = some n) (hn:X.env.scope.names.lookup n=some .local) (hl:X.N[l]? = some y) (hy:X.env.scope.names.lookup y=some .local) (hjl:j≠l)
  (hdx:(x == ("__debug__":Str))=false) (hdb:(B == ("__debug__":Str))=false) (hnd:(n == ("__debug__":Str))=false) (hncd:(n == ("__classdict__":Str))=false) (hs:swapsWith (.Name n pn) (some (.Name y py)) ypos.line X.env=pure false)
  (hs1:swapsWith (.Call (.Name x p) (e::es) [] pos) none spos.line X.env=pure false) (hse:zsE e es X.env) (hpl:zbT pos es X.env) :
  PS X (.Try [.Expr (.Call (.Name x p) (e::es) [] pos) spos] [.ExceptHandler (some (.Name B np)) (some n) [.Assign [.Name y py] (.Name n pn) ypos] hpos] [] [] tpos) (tTryF X.K sp t Bc j l):=by
 rintro U s Z H D I ⟨Er,h1,h2⟩;refine wpAny_Try_except ?_;generalize hW:(fun (e:Value) (s₁:Shared)=>wpAny (model X.prog X.w) X.A (noteFrame e X.env) (fun _ s₂=>wpAny (model X.prog X.w) X.A (setFlight e none) (fun _ s₃=>wpAny (model X.prog X.w) X.A (handleBy e X.env [.ExceptHandler (some (.Name B np)) (some n) [.Assign [.Name y py] (.Name n pn) ypos] hpos]) (SP X U D) X.xe s₃) X.xe s₂) X.xe s₁)=W;have hxW:∀ H1 s1 e s',Inv (X.wish W) U Z H1 s1->CX1 X.prog X.w X.stack H1 s1 (EX Er) e s'->W e s':=fun H1 s1 e' s' I1 hc=>by
  obtain⟨a,C',od,Ha,H2,rfl,Jq,Fl,g7,a2,C2,g8,g9,g10⟩:=jqd (X:=X) I1.unwish hc;cases g8;rw[<- hW];have e1:H2 a=some (XO a C' od false):=by obtain⟨e1,_⟩:=Fl;exact e1
  obtain rfl:C'=C2:=jAv Jq e1 (g7 _ _ g9);obtain⟨⟨C3,od3,g11,q1⟩,q2⟩:=h2 a C' od Ha g9 g10;obtain rfl:C'=C3:=jAv Jq e1 (g7 _ _ g11);refine jFu Jq Fl hst hfr I.ok.frames fun T h' hT J2 F2=>?_
  refine jBw J2 F2 q1 hg hmB hdb hN hj hn hl hy hjl hnd hncd hs fun s5 J5=>?_
  refine⟨_,_,J5,q2 _ fun b ob q=>?_⟩;rw[jal (fun z=>by rw[z] at q;rw[g7 _ _ q] at hT;cases hT)];exact g7 b ob q
 have I1:Inv (X.wish W) U Z H s:=I.wish W;have body:wpAny (model X.prog X.w) X.A (exec (.Expr (.Call (.Name x p) (e::es) [] pos) spos) X.env) (SP (X.wish W) U D) W s :=
  wpAny_Expr_any (thn (jEt (X:=X.wish W) F hr hgx hmx hk hb hxW (ha W) hdx hse hpl I1 h1) fun v s1 ⟨z,H1,J1,rz,q⟩=>⟨Z,H1,J1,q⟩) I1.quiet hs1
 refine wpAny_execs_cons (thn body fun f s1 q=>?_)
 cases f with
 | next=>exact wpAny_execs_nil (wpAny_execs_nil (SP.unwish q))
 | ret v=>exact SP.unwish q
 | brk=>exact SP.unwish q
 | cont=>exact SP.unwish q
end
end L2
namespace DL
open L2
def juq(m:List D->MS D)(cs:List Str)(j l:Nat)(fl:DSt->MS (List D)):DSt->MS Out:=fun Y Ω=>match jds m fl Y Ω with
 | some (.ok _,Ω')=>some (.ok (.nx Y),Ω')
 | some (.error y,Ω')=>jo1 cs j l Y y Ω'
 | none=>none
section
variable {X:Cx}{O B:List Nat}{E:XK}{e:Expr}{es:List Expr}{fl:DSt->MS (List D)}{pos p:Pos}{x:Str}{k n:Nat}
variable {Jz J:Rho}{Sz S F:qd}{Hz H:Hp}{Z:St}{Y:DSt}{Ω Ω':Sto}
def jnh{m:List D->MS D}{r:Except XD D}{Q:VK}(ar:∀ ds Ω r,m ds Ω=some r->ds.length=n)(R:RM Jz Sz Hz F X.K X.mg O J S H Z Y Ω)(hf:jds m fl Y Ω=some (r,Ω'))
  (k:match (generalizing:=false) r with
   | .ok d=>∀ v J' S' H',RM Jz Sz Hz F X.K X.mg O J' S' H' Z Y Ω'->RLe J J'->Same (hid H (fob (un F S) Z O)) (hid H' (fob (un F S') Z O))->Rep J' X.K (hid H' (fob (un F S') Z O)) d v->Q v H'
   | .error y=>∀ i a C od J' S' H',errI y=some i->RM Jz Sz Hz F X.K X.mg O J' S' H' Z Y Ω'->RLe J J'->Same (hid H (fob (un F S) Z O)) (hid H' (fob (un F S') Z O))->J' i=some a->H' a=some (XO a C od false)->E (.ref a) od H'):jy8 (spR X.K X.mg n m) [] E (tEL X.K X.mg O fl) Z H Q:=by
 rcases MS.b_inv hf with ⟨ds,Ω2,e2,hf3⟩|⟨y,e2,rfl⟩
 ·refine⟨Jz,Sz,Hz,F,J,S,Y,Ω,R,.ok ds,Ω2,e2,fun vs ρ2 S2 H2 R2 l2 v2 r2=>?_⟩;show spR X.K X.mg n m (vs++[]) H2 Q E;rw[List.append_nil];refine jAo R2 (ar _ _ _ hf3) r2 hf3 ?_
  cases r with
  | error y=>exact fun i a C od J3 S3 H3 he R3 l3 v3 hρ hH=>k i a C od J3 S3 H3 he R3 (l2.trans l3) (v2.trans v3) hρ hH
  | ok d=>exact fun v' J3 S3 H3 R3 l3 v3 r3=>k v' J3 S3 H3 R3 (l2.trans l3) (v2.trans v3) r3
 ·exact⟨Jz,Sz,Hz,F,J,S,Y,Ω,R,.error y,_,e2,trivial⟩
def jCc{m:List D->MS D}{cs:List Str}{n' y bn:Str}{j l:Nat}{np hpos py pn ypos spos tpos:Pos}(C:CalR X.prog X.w X.K X.mg X.base k x n m)(Em:ErrM X.K X.mg cs bn)(hr:Room k X.A)(ha:∀ W,MA (X.wish W) O (e::es) fl)
  (hst:X.stack=X.env::X.outer) (hfr:X.env.frame=some X.env.locals) (hN:X.N.Nodup) (hjo:O.contains j=false) (hlo:O.contains l=false) (hjl:j≠l)
  (hj:X.N[j]? = some n':=by rfl) (hn:X.env.scope.names.lookup n'=some .local:=by rfl) (hl:X.N[l]? = some y:=by rfl) (hy:X.env.scope.names.lookup y=some .local:=by rfl) (hgx:Gl X x:=by rfl) (hg:Gl X bn:=by rfl)
  (hdx:(x == ("__debug__":Str))=false:=by decide) (hdb:(bn == ("__debug__":Str))=false:=by decide) (hnd:(n' == ("__debug__":Str))=false:=by decide) (hncd:(n' == ("__classdict__":Str))=false:=by decide) (hs:swapsWith (.Name n' pn) (some (.Name y py)) ypos.line X.env=pure false:=by rfl)
  (hs1:swapsWith (.Call (.Name x p) (e::es) [] pos) none spos.line X.env=pure false:=by rfl) (hse:zsE e es X.env:=by rfl) (hpl:zbT pos es X.env:=by rfl) :
  MSt X O O B (.Try [.Expr (.Call (.Name x p) (e::es) [] pos) spos] [.ExceptHandler (some (.Name bn np)) (some n') [.Assign [.Name y py] (.Name n' pn) ypos] hpos] [] [] tpos) (juq m cs j l fl):=by
 have no:∀ {q:Nat},O.contains q=false->q∉O:=fun h z=>by rw[zbc.mpr z] at h;cases h
 obtain⟨f,fd,ps,hln,hm,hk,hb,G⟩:=C.ex;obtain⟨Bc,hB⟩:=Em.atb;rintro U s Z H Dn I ⟨Jz,Sz,Hz,F,J,S,Y,Ω,R,r,Ω',hf,k⟩;refine jC0 (X:=X) (t:=tEL X.K X.mg O fl) G hr hgx hm hk hb (fun W=>ha W) hst hfr hg hB hN hj hn hl hy hjl hdx hdb hnd hncd hs hs1 hse hpl U s Z H Dn I ?_;unfold juq at hf
 cases e0:jds m fl Y Ω with
 | none=>rw[e0] at hf;cases hf
 | some pr =>
  obtain⟨r0,Ω0⟩:=pr;rw[e0] at hf
  cases r0 with
  | ok d =>
   cases hf;refine⟨fun _ _ _ _=>False,jnh C.ar R e0 fun v ρ1 S1 H1 R1 l1 v1 r1=>?_,fun _ _ _ _ _ z=>z.elim⟩;exact k ρ1 S1 Z H1 R1 l1 v1
  | error y0 =>
   obtain⟨q,c',jj,g1,g2,g3,rfl,rfl⟩:=js6 hf;refine⟨fun a C' od H1=>∃ ρ1 S1,RM Jz Sz Hz F X.K X.mg O ρ1 S1 H1 Z Y Ω'/\RLe J ρ1/\Same (hid H (fob (un F S) Z O)) (hid H1 (fob (un F S1) Z O))/\ρ1 q=some a,jnh C.ar R e0 fun i' a C' od ρ1 S1 H1 he R1 l1 v1 hρ hH=>?_,fun a C' od H1 hH ⟨ρ1,S1,R1,l1,v1,hρ⟩=>⟨?_,fun H2 sm=>?_⟩⟩
   ·rw[g1] at he;cases he;exact⟨a,C',rfl,hH,ρ1,S1,R1,l1,v1,hρ⟩
   ·obtain⟨a',p1,p2,p3⟩:=R1.sto.ats q _ g2;rw[hρ] at p1;cases p1
    cases p3 with
    | no f C2 w1 w2=>exact⟨C2,none,w2,Em.ex c' g3 C2 w1 Bc hB⟩
    | yes f j2 C2 dx w1 w2 w3=>exact⟨C2,some dx,w3,Em.ex c' g3 C2 w1 Bc hB⟩
   ·have R2:=R1.mono (H':=H2) sm;have hob:∀ {Hx:Hp},Rep ρ1 X.K Hx (.obj q) (.ref a):=rep_obj.mpr ⟨a,hρ,rfl⟩;have R3:=((R2.set (i:=j) (d:=.obj q) (v:=.ref a) (no hjo) hob).set (i:=l) (d:=.obj q) (v:=.ref a) (no hlo) hob).unset (no hjo);refine k ρ1 S1 _ H2 R3 l1 ?_;rw[jfh (no hjo),jbr (no hlo),jbr (no hjo)];exact v1.trans (jax sm)
def jx3(fa:DSt->MS D):DSt->MS D:=fun Y=>(fa Y).b fun x=>MS.o (gNot x)
def jFh{a:Expr}{fa:DSt->MS D}(ha:ME X O a fa):ME X O (.UnaryOp .Not a pos) (jx3 fa):=by
 rintro U s Z H Q I ⟨Jz,Sz,Hz,F,J,S,Y,Ω,R,r,Ω',hf,k⟩;refine jAa ha U s Z H Q I ?_;rcases MS.b_inv hf with ⟨x,Ω1,e1,hf⟩|⟨x,e1,rfl⟩
 ·refine⟨Jz,Sz,Hz,F,J,S,Y,Ω,R,.ok x,Ω1,e1,fun u ρ1 S1 H1 R1 l1 v1 r1=>?_⟩;obtain⟨z,hz,rfl,rfl⟩:=MS.o_inv hf
  cases x with
  | bl c=>cases hz;exact⟨c,rep_bl.mp r1,k _ ρ1 S1 H1 R1 l1 v1 (rep_bl.mpr rfl)⟩
  | _=>cases hz
 ·exact⟨Jz,Sz,Hz,F,J,S,Y,Ω,R,.error x,_,e1,trivial⟩
end
section
end
section
end
section
end
end DL
namespace L2
open PyProof.Rows PySem.W
section
variable {X:Cx}
def js5(hn:specialIn X.K (.builtin "object.__class__") "__get__"=some (some (.builtin "getset_descriptor.__get__")))(htk:takesIn X.K (.builtin "object.__class__")=some true) :
  CallR X (.builtin "isinstance") (fun xs H Q=>∃ a C od fr p,∃ as:List Addr,∃ b,xs=[.ref a,.ref p]/\H a=some (XO a C od fr)/\XCls X.K C/\(∀ dx,od=some dx->∃ fs,H dx=some (XDc dx fs))/\H p=some (.tup (as.map V.ref))/\W.kitAny X.K (.ref C) (as.map Value.ref)=some b/\Q (.bl b) H):=by
 intro U s Z H xs us Q I r h;obtain⟨a,C,od,fr,p,as,b,rfl,ea,cl,hd,hp,hk,q⟩:=h;obtain⟨u,c',rfl,ru,rc⟩:=r.two;cases ru;cases rc;obtain⟨hz,its,vi,o,ho,hc,n,hda⟩:=I.hok p _ hp;have ei:its=as.map Value.ref:=by
  have go:∀ {as:List Addr} {us:List Value},Vals (as.map V.ref) us->us=as.map Value.ref:=by
   intro as
   induction as with
   | nil=>intro us z;rw[List.map_nil] at z;cases z;rfl
   | cons x as ih =>
    intro us z;rw[List.map_cons] at z
    cases z with
    | cons z1 z2=>cases z1;rw[ih z2];rfl
  exact go vi
 subst ei;obtain⟨oc,odd,oda,osl⟩:=o;dsimp only at hc hda;subst hc;subst hda;obtain⟨vs,sl,h0,hf0⟩:=jqb I ea;have Jq:∃ ox od',InstAt s.heap a ox C od':=by
  cases od with
  | none=>exact⟨_,_,jrh h0⟩
  | some dx =>
   obtain⟨fs,ed⟩:=hd dx rfl;obtain⟨mA,⟨o,_,_,e,_⟩,_⟩:=jzf I ed;exact⟨_,_,jop h0 e⟩
 exact W.kia_tup (jzz cl.x cl.ga cl.gh cl.cl hn htk) I.kIn Jq ho hk (fun z=>nomatch z) fun tk=>⟨.bl b,H,I.tok _,rfl,q⟩
def jI7(as:List Addr):TA:=fun _ H Q=>Q (as.map V.ref) H
end
end L2
namespace DL
open L2
section
variable {X:Cx}{O:List Nat}{e:Expr}{es:List Expr}{fa:DSt->MS D}{cs fs:List Str}{bn d:Str}{ds:List Str}{p p2 p3 pos:Pos}
inductive ClL(X:Cx)(es:List Expr)(ds:List Str):Prop
 | mk (as:List Addr) (h1:PA X es (jI7 as)) (h2:Paired (fun (d:Str) (a:Addr)=>X.mg d=some (.ref a)) ds as)
def jzl:ClL X [] []:=⟨[],jlo,.nil⟩
def jeu(T:ErrT X.K X.mg cs fs bn)(h:ClL X es ds)(hd:cs.contains d=true:=by rfl)(hg:Gl X d:=by rfl)(hdb:(d == ("__debug__":Str))=false:=by decide)(hs:starEach (.Name d p::es) X.env=(false,eval (.Name d p) X.env)::starEach es X.env:=by rfl):ClL X (.Name d p::es) (d::ds):=by
 obtain⟨as,h1,h2⟩:=h;obtain⟨a,ha⟩:=T.ats d (zbc.mp hd);exact⟨a::as,je2 (joa (v:=.ref a) hg ha rfl hdb) h1 hs,.cons ha h2⟩
def jz2{x1}(T:ErrT X.K X.mg cs fs bn)(hL:ClL X es ds)(hds:ds.all (cs.contains ·)=true)(hm:X.mg "isinstance"=none)(ha:ME X O e fa)(hl:ds.length<=100)(hG:Gl X "isinstance":=by rfl)
  (he:starEach (e::[.Tuple es x1 p3]) X.env=(false,eval e X.env)::starEach [.Tuple es x1 p3] X.env:=by rfl) (he2:starEach [.Tuple es x1 p3] X.env=(false,eval (.Tuple es x1 p3) X.env)::starEach [] X.env:=by rfl) (hpl:(backTo pos (starEach [.Tuple es x1 p3] X.env)).any (·.1)=false:=by rfl) :
  ME X O (.Call (.Name "isinstance" p) [e,.Tuple es x1 p3] [] pos) (mIsX cs (fun c=>ds.contains c) fa):=by
 obtain⟨as,h1,h2⟩:=hL;rintro U s Z H Q I ⟨Jz,Sz,Hz,F,J,S,Y,Ω,R,r,Ω',hg,k⟩;have kA:∀ c∈cs,∀ C,X.mg c=some (.ref C)->W.kitAny X.K (.ref C) (as.map Value.ref)=some (ds.contains c):=by
  intro c hc C hC
  clear h1 hl he he2 hpl hg k
  induction h2 with
  | nil=>rfl
  | @cons d a ds as z zs ih =>
   rw[List.all_cons,Bool.and_eq_true] at hds;obtain⟨D1,g1,g2⟩:=T.pair c hc d (zbc.mp hds.1) C hC;rw[z] at g1;cases g1
   have ih:=ih hds.2
   show (match W.kitOne X.K (.ref C) (.ref a) with
    | some true=>some true
    | some false=>W.kitAny X.K (.ref C) (as.map Value.ref)
    | none=>none)=_
   rw[g2,List.contains_cons]
   cases hcd:(c == d) with
   | true=>rfl
   | false=>rw[Bool.false_or];exact ih
 have la:(as.map V.ref).length<=sizeLine:=by
  rw[zav,<- h2.length,sizeLine_eq];exact zdx hl (by decide)
 refine jkr (js5 T.sp T.tk) hG hm jdh (je2 ha (je2 (jAc h1) jlo he2) he) (by decide) (by decide) he hpl U s Z H Q I ?_;rcases MS.b_inv hg with ⟨x,Ω1,e1,hg⟩|⟨x,e1,rfl⟩
 ·refine⟨Jz,Sz,Hz,F,J,S,Y,Ω,R,.ok x,Ω1,e1,fun w ρ1 S1 H1 R1 l1 v1 r1=>?_⟩;obtain⟨i,c,oj,fr,rfl,hi,hj,hc,rfl,rfl⟩:=jqo hg;obtain⟨ad,q1,q2⟩:=rep_obj.mp r1;obtain⟨ad',p1,p2,p3⟩:=R1.sto.ats i _ hi;rw[q1] at p1;cases p1
  subst q2;refine⟨la,fun pt hpt=>?_⟩;have sm:Same H1 (upd H1 pt (.tup (as.map V.ref))):=jbs hpt;have R2:=R1.mono sm;have fin:Q (.bl (ds.contains c)) (upd H1 pt (.tup (as.map V.ref))):=k _ ρ1 S1 _ R2 l1 (v1.trans (jax sm)) (rep_bl.mpr rfl)
  cases p3 with
  | no fr C h1' h2'=>exact⟨ad,C,none,fr,pt,as,ds.contains c,rfl,sm _ _ h2',T.cls c hc C h1',(fun dx z=>nomatch z),jaq,kA c hc C h1',fin⟩
  | yes fr j C dx h1' h2' h3' =>
   obtain⟨fl,hj⟩:=hj j rfl;obtain⟨dx',s1,s2,vfs,s3,s4⟩:=R1.sto.ats j _ hj;rw[h2'] at s1;cases s1
   exact⟨ad,C,some dx,fr,pt,as,ds.contains c,rfl,sm _ _ h3',T.cls c hc C h1',(fun dx' z=>by cases z;exact⟨vfs,sm _ _ s3⟩),jaq,kA c hc C h1',fin⟩
 ·exact⟨Jz,Sz,Hz,F,J,S,Y,Ω,R,.error x,_,e1,trivial⟩
end
end DL
namespace DL
open PyProof.Rows L2
section
variable {X:Cx}
def gInS:D->D->Option D
 | .str i,.str j=>some (.bl (!(Builtin.Str.occurrences j i 0 j.length 1).isEmpty))
 | _,_=>none
def jln:OpD X.K gInS (fun x y H Q=>∃ i j,x=.str i/\y=.str j/\Q (.bl (!(Builtin.Str.occurrences j i 0 j.length 1).isEmpty)) H):=by
 intro x y d hd J H G u v Q hG ru rv k;unfold gInS at hd
 split at hd
 ·rename_i i j;cases hd;exact⟨i,j,rep_str.mp ru,rep_str.mp rv,k _ _ (Same.refl _) (rep_bl.mpr rfl)⟩
 ·cases hd
end
def jyf{s sub:Str}{lo hi limit:Nat}(h:∀ i,i+sub.length<=hi->Builtin.Str.subAt s sub i=false):Builtin.Str.occurrences s sub lo hi limit=[]:=by
 unfold Builtin.Str.occurrences;simp[Id.run];have go:∀ (l:List Nat),(forIn (m:=Id) l ((#[],lo):Array Nat×Nat) fun i r =>
    if ((r.fst.size<limit/\r.snd<=i)/\i+sub.length<=hi)/\Builtin.Str.subAt s sub i=true then
     pure (ForInStep.yield (r.fst.push i,i+sub.length))
    else pure (ForInStep.yield (r.fst,r.snd)))=(((#[],lo):Array Nat×Nat)):=by
  intro l
  induction l with
  | nil=>rfl
  | cons i l ih =>
   rw[List.forIn_cons,if_neg (fun z=>by rw[h i z.1.2] at z;exact absurd z.2 (by decide))];exact ih
 show ((fun a:Array Nat×Nat=>a.fst.toList) <$> (forIn (m:=Id) (List.range' lo (hi+1-lo)) ((#[],lo):Array Nat×Nat) _))=[];rw[go];rfl
end DL
namespace DL
open L2
section
end
end DL
namespace L2
open PyProof.Rows
open PySem.W (Frag InstAt Looks findIn mroIn clsIn)
section
end
end L2
namespace DL
open L2
section
end
inductive tER(K:W.Frag)(mg:qa)(O:List Nat)(f:DSt->MS D)(E:XK)(Z:St)(H:Hp)(Q:VK):Prop
 | mk (Jz:Rho) (Sz:qd) (Hz:Hp) (F:qd) (J:Rho) (S:qd) (Y:DSt) (Ω:Sto) (R:RM Jz Sz Hz F K mg O J S H Z Y Ω) (r:Except XD D) (Ω':Sto) (hf:f Y Ω=some (r,Ω'))
  (k:match (generalizing:=false) r with
   | .ok d=>∀ v J' S' H',RM Jz Sz Hz F K mg O J' S' H' Z Y Ω'->RLe J J'->Same (hid H (fob (un F S) Z O)) (hid H' (fob (un F S') Z O))->Rep J' K (hid H' (fob (un F S') Z O)) d v->Q v H'
   | .error x=>ErrK K mg Jz Sz Hz F Ω' x E)
def MEr(X:Cx)(O:List Nat)(E:XK)(e:Expr)(f:DSt->MS D):Prop:=PE X e (tER X.K X.mg O f E)
section
variable {X:Cx}{O O' O'' B:List Nat}{E:XK}{a o e:Expr}{es:List Expr}{fa fo fv:DSt->MS D}{fl:DSt->MS (List D)}{pos p apos:Pos}{x c f:Str}{k n:Nat}{cs:List Str}{g:DSt->MS Out}
def jn1{m:List D->MS D}(C:CalR X.prog X.w X.K X.mg X.base k x n m)(hr:Room k X.A)(hx:Wx X E)(ha:MA X O (e::es) fl)(hg:Gl X x:=by rfl)(hdb:(x == ("__debug__":Str))=false:=by decide)(he:zsE e es X.env:=by rfl)
  (hpl:zbT pos es X.env:=by rfl):MEr X O E (.Call (.Name x p) (e::es) [] pos) (jds m fl):=by
 obtain⟨f,fd,ps,hl,hm,hk,hb,G⟩:=C.ex;rintro U s Z H Q I ⟨Jz,Sz,Hz,F,J,S,Y,Ω,R,r,Ω',hf,k⟩;refine jn9 G hr hg hm hk hb .nil (fun U Z H s e s' I c=>hx U Z e s' (jqd I c)) ha hdb he hpl U s Z H Q I (jnh C.ar R hf ?_)
 cases r with
 | ok d=>exact k
 | error y=>exact fun i a C od J' S' H' he R' _ _ hρ hH=>k i a C od J' S' H' he R'.rt hρ hH
def jr6{pl:Sem Bool}{m:List D->MS D}(C:MetR X.prog X.w X.K X.mg X.base k c x n m)(hr:Room k X.A)(hx:Wx X E)(ho:ME X O o fo)(ha:MA X O (e::es) fl)(hst:zsE e es X.env:=by rfl)(hpl:zbT pos es X.env:=by rfl)
  (ht:eval (.Call (.Attribute o x apos) (e::es) [] pos) X.env=(do
   let ov <- eval o X.env
   standAt apos.atName
   let (f,first) <- holding [ov] (getMethod ov x pl)
   callWith pos f first (backTo pos (starEach (e::es) X.env)) (backToKw pos (keywordEach [] X.env))):=by rfl):MEr X O E (.Call (.Attribute o x apos) (e::es) [] pos) (jkd c x m fo fl):=by
 obtain⟨Ca,f,fd,ps,hl,hm,hc,hM,hb,G⟩:=C.ex;rintro U s Z H Q I ⟨Jz,Sz,Hz,F,J,S,Y,Ω,R,r,Ω',hf,k⟩;refine jv1 ho hc hM G hr hb .nil (fun U Z H s e s' I c=>hx U Z e s' (jqd I c)) ha hst hpl ht U s Z H Q I (jx8 hm C.ar R hf ?_)
 cases r with
 | ok d=>exact k
 | error y=>exact fun i a C od J' S' H' he R' _ _ hρ hH=>k i a C od J' S' H' he R'.rt hρ hH
def jCe(he:MEr X O E e fa):MSr X O O' B E (.Return (some e) pos) (eRet fa):=by
 rintro U s Z H Dn I ⟨Jz,Sz,Hz,F,J,S,Y,Ω,R,r,Ω',hg,k⟩;refine jv9 he U s Z H Dn I ?_;rcases MS.b_inv hg with ⟨d,Ω1,e1,hg⟩|⟨x,e1,rfl⟩
 ·cases hg;exact⟨Jz,Sz,Hz,F,J,S,Y,Ω,R,.ok d,_,e1,fun v ρ1 S1 H1 R1 l1 v1 r1=>k v ρ1 S1 H1 R1.rt (r1.mono (jfk jgw))⟩
 ·exact⟨Jz,Sz,Hz,F,J,S,Y,Ω,R,.error x,_,e1,k⟩
def jr8(he:MEr X O E e fa)(hs:swapsWith e none pos.line X.env=pure false:=by rfl):MSr X O O B E (.Expr e pos) (jqg fa):=by
 rintro U s Z H Dn I ⟨Jz,Sz,Hz,F,J,S,Y,Ω,R,r,Ω',hg,k⟩;refine joc he hs U s Z H Dn I ?_;rcases MS.b_inv hg with ⟨d,Ω1,e1,hg⟩|⟨x,e1,rfl⟩
 ·cases hg;exact⟨Jz,Sz,Hz,F,J,S,Y,Ω,R,.ok d,_,e1,fun v ρ1 S1 H1 R1 l1 v1 r1=>k ρ1 S1 Z H1 R1 l1 v1⟩
 ·exact⟨Jz,Sz,Hz,F,J,S,Y,Ω,R,.error x,_,e1,k⟩
def jCd{pos':Pos}(hc:jxc X cs f)(ho:ME X O o fo)(hv:MEr X O E e fv)(hs:swapsWith e (some (.Attribute o f pos')) pos.line X.env=pure false:=by rfl):MSr X O O B E (.Assign [.Attribute o f pos'] e pos) (ePut cs f fo fv):=by
 rintro U s Z H Dn I ⟨Jz,Sz,Hz,F,J,S,Y,Ω,R,r,Ω',hf,k⟩;refine jAe ho hv hs U s Z H Dn I ?_;rcases MS.b_inv hf with ⟨d,Ω1,e1,hf⟩|⟨x,e1,rfl⟩
 ·refine⟨Jz,Sz,Hz,F,J,S,Y,Ω,R,.ok d,Ω1,e1,fun v ρ1 S1 H1 R1 l1 v1 r1=>?_⟩;rcases MS.b_inv hf with ⟨x,Ω2,e2,hf⟩|⟨x,e2,rfl⟩
  ·refine⟨Jz,Sz,Hz,F,ρ1,S1,Y,Ω1,R1,.ok x,Ω2,e2,fun u ρ2 S2 H2 R2 l2 v2 r2=>?_⟩;obtain⟨i,cl,fs,rfl,hi,hcl,hlt,rfl,rfl⟩:=jrw hf;obtain⟨ad,q1,q2⟩:=rep_obj.mp r2;obtain⟨ad',p1,p2,C,dx,vfs,p3,p4,p5,p6,p7⟩:=R2.sto.ats i _ hi;rw[q1] at p1;cases p1
   obtain⟨g1,g2⟩:=hc cl (zbc.mp hcl) C p3;have r1':=(r1.rho l2).mono v2;obtain⟨t1,t2⟩:=R2.put (f:=f) hi q1 p2 p3 p4 p5 p6 p7 r1';exact⟨ad,C,dx,vfs,q2,p4,g1,g2,by rw[p7.length];exact hlt,k ρ2 S2 Z _ t1 (l1.trans l2) (by rw[t2];exact v1.trans v2)⟩
  ·exact⟨Jz,Sz,Hz,F,ρ1,S1,Y,Ω1,R1,.error x,_,e2,trivial⟩
 ·exact⟨Jz,Sz,Hz,F,J,S,Y,Ω,R,.error x,_,e1,k⟩
def jr9{sts:List Stmt}(hO:∀ i∈O',i∈O)(h:MSsr X O' O'' B E sts g):MSsr X O O'' B E sts g:=by
 rintro U s Z H Dn I ⟨Jz,Sz,Hz,F,J,S,Y,Ω,R,r,Ω',hf,k⟩;exact h U s Z H Dn I ⟨Jz,Sz,Hz,F,J,S,Y,Ω,R.thaw hO,r,Ω',hf,k.back (RLe.refl _) (jfk (ju6 hO))⟩
end
end DL
namespace L2
open PyProof.Rows
section
variable {X:Cx}
def jue:CallR X (.builtin "isinstance") (fun xs H Q=>∃ v c b,xs=[.non,v]/\(∀ u,RelV v u->u=c)/\W.kitOne X.K (.type "NoneType") c=some b/\Q (.bl b) H):=by
 intro U s Z H xs us Q I r h;obtain⟨v,c,b,rfl,hv,hk,q⟩:=h;obtain⟨u,c',rfl,ru,rc⟩:=r.two;cases ru;rw[hv c' rc];exact W.kia_one W.kitx_none I.kIn True.intro hk (fun z=>nomatch z) fun tk=>⟨.bl b,H,I.tok _,rfl,q⟩
end
end L2
namespace DL
open L2
structure ErrN(K:W.Frag)(mg:qa)(cs:List Str):Prop where
 ex:∀ c∈cs,∀ C,mg c=some (.ref C)->W.kitOne K (.type "NoneType") (.ref C)=some false
def jHd(K:W.Frag)(es:List (Str×Addr)):Bool:=es.all fun p=>W.kitOne K (.type "NoneType") (.ref p.2) == some false
def jBs{K:W.Frag}{mg:qa}{es:List (Str×Addr)}(hm:∀ p∈es,mg p.1=some (.ref p.2))(h:jHd K es=true):ErrN K mg (es.map (·.1)):=by
 refine⟨fun c hc C hC=>?_⟩;obtain⟨p,hp,rfl⟩:=List.mem_map.mp hc;rw[hm p hp] at hC;cases hC;exact beq_iff_eq.mp (List.all_eq_true.mp h p hp)
def isN(cs:List Str)(g:Str->Bool):D->MS D:=fun x Ω=>match x with
 | .non=>some (.ok (.bl false),Ω)
 | _=>isX cs g x Ω
def mIsN(cs:List Str)(g:Str->Bool)(fa:DSt->MS D):DSt->MS D:=fun Y=>(fa Y).b fun x=>isN cs g x
section
variable {X:Cx}{O B:List Nat}{E:XK}{c o e:Expr}{fa:DSt->MS D}{fl:DSt->MS (List D)}{pos p p2:Pos}{x bn d:Str}{k:Nat}{cs fs:List Str}{g:DSt->MS Out}{tc:DSt->MS Bool}
def jz1(T:ErrT X.K X.mg cs fs bn)(N:ErrN X.K X.mg cs)(hd:cs.contains d=true)(hm:X.mg "isinstance"=none)(ha:ME X O e fa)(hg:Gl X d:=by rfl)(hdb:(d == ("__debug__":Str))=false:=by decide)(hG:Gl X "isinstance":=by rfl)
  (he:starEach (e::[.Name d p2]) X.env=(false,eval e X.env)::starEach [.Name d p2] X.env:=by rfl) (he2:starEach [.Name d p2] X.env=(false,eval (.Name d p2) X.env)::starEach [] X.env:=by rfl) (hpl:(backTo pos (starEach [.Name d p2] X.env)).any (·.1)=false:=by rfl):ME X O (.Call (.Name "isinstance" p) [e,.Name d p2] [] pos) (mIsN cs (fun c=>c == d) fa):=by
 have hd':=zbc.mp hd;obtain⟨D0,h0⟩:=T.ats d hd';rintro U s Z H Q I ⟨Jz,Sz,Hz,F,J,S,Y,Ω,R,r,Ω',hf,k⟩;refine jkr ((joz T.sp T.tk).or jue) hG hm jdh (je2 ha (je2 (joa (v:=.ref D0) hg h0 rfl hdb) jlo he2) he) (by decide) (by decide) he hpl U s Z H Q I ?_;have hv:∀ w,RelV (.ref D0) w->w=.ref D0:=fun w r=>by cases r;rfl
 have hk:∀ c∈cs,∀ C,X.mg c=some (.ref C)->W.kitOne X.K (.ref C) (.ref D0)=some (c == d):=fun c hc C hC=>by
  obtain⟨D1,h1,h2⟩:=T.pair c hc d hd' C hC;rw[h0] at h1;cases h1
  exact h2
 rcases MS.b_inv hf with ⟨x,Ω1,e1,hf⟩|⟨x,e1,rfl⟩
 ·refine⟨Jz,Sz,Hz,F,J,S,Y,Ω,R,.ok x,Ω1,e1,fun w ρ1 S1 H1 R1 l1 v1 r1=>?_⟩;have hf2:(x=.non/\r=.ok (.bl false)/\Ω'=Ω1)\/isX cs (fun c=>c == d) x Ω1=some (r,Ω'):=by
   cases x with
   | non=>cases hf;exact .inl ⟨rfl,rfl,rfl⟩
   | _=>exact .inr hf
  rcases hf2 with ⟨rfl,rfl,rfl⟩|hg
  ·cases rep_non.mp r1;exact Or.inr ⟨.ref D0,.ref D0,false,rfl,hv,N.ex d hd' D0 h0,k _ ρ1 S1 H1 R1 l1 v1 (rep_bl.mpr rfl)⟩
  ·obtain⟨i,c,oj,fr,rfl,hi,hj,hc,rfl,rfl⟩:=jqo hg;obtain⟨ad,q1,q2⟩:=rep_obj.mp r1;obtain⟨ad',p1,p2,p3⟩:=R1.sto.ats i _ hi;rw[q1] at p1;cases p1
   subst q2;refine Or.inl ?_
   cases p3 with
   | no fr C h1 h2=>exact⟨ad,C,none,fr,.ref D0,.ref D0,c == d,rfl,h2,T.cls c hc C h1,(fun dx z=>nomatch z),hv,hk c hc C h1,k _ ρ1 S1 H1 R1 l1 v1 (rep_bl.mpr rfl)⟩
   | yes fr j C dx h1 h2 h3 =>
    obtain⟨fl,hj⟩:=hj j rfl;obtain⟨dx',s1,s2,vfs,s3,s4⟩:=R1.sto.ats j _ hj;rw[h2] at s1;cases s1
    exact⟨ad,C,some dx,fr,.ref D0,.ref D0,c == d,rfl,h3,T.cls c hc C h1,fun dx' z=>by cases z;exact⟨vfs,s3⟩,hv,hk c hc C h1,k _ ρ1 S1 H1 R1 l1 v1 (rep_bl.mpr rfl)⟩
 ·exact⟨Jz,Sz,Hz,F,J,S,Y,Ω,R,.error x,_,e1,trivial⟩
def jCf{i:Nat}{pos':Pos}(hN:X.N.Nodup)(he:MEr X O E e fa)(ho:O.contains i=false:=by rfl)(hi:X.N[i]? = some x:=by rfl)(hx:Loc X.env.scope x:=by first|exact Or.inl rfl|exact Or.inr rfl)(hs:swapsWith e (some (.Name x pos')) pos.line X.env=pure false:=by rfl)
  (hf:X.fn x=true\/X.env.scope.names.lookup x=some .local:=by first|exact .inl rfl|exact .inr rfl|assumption):MSr X O O B E (.Assign [.Name x pos'] e pos) (eSet i fa):=by
 rintro U s Z H Dn I ⟨Jz,Sz,Hz,F,J,S,Y,Ω,R,r,Ω',hg,k⟩;have ho':i∉O:=fun z=>by rw[zbc.mpr z] at ho;cases ho
 refine jlq hN hi hx he hs hf U s Z H Dn I ?_;rcases MS.b_inv hg with ⟨d,Ω1,e1,hg⟩|⟨x,e1,rfl⟩
 ·cases hg;exact⟨Jz,Sz,Hz,F,J,S,Y,Ω,R,.ok d,_,e1,fun v ρ1 S1 H1 R1 l1 v1 r1=>k ρ1 S1 _ H1 (R1.set ho' r1) l1 (by rw[jbr ho'];exact v1)⟩
 ·exact⟨Jz,Sz,Hz,F,J,S,Y,Ω,R,.error x,_,e1,k⟩
def jvl{body:List Stmt}{fuel:Nat}(hp:PassesOwn (model X.prog X.w) X.A X.env X.xe)(hc:MT X O c tc)(hb:MSsr X O O O E body g):MSr X O O B E (.While c body [] pos) (jej tc g fuel):=by
 rintro U s Z H Dn I ⟨Jz,Sz,Hz,F,J,S,Y,Ω,R,r,Ω',hg,k⟩;refine jsf hp hc hb U s Z H Dn I ?_;refine⟨fun m Z' H'=>∃ J' S' Y' Ω2,RM Jz Sz Hz F X.K X.mg O J' S' H' Z' Y' Ω2/\RLe J J'/\Same (hid H (fob (un F S) Z O)) (hid H' (fob (un F S') Z' O))/\jej tc g m Y' Ω2=some (r,Ω'),⟨fuel,J,S,Y,Ω,R,RLe.refl _,Same.refl _,hg⟩,?_⟩;rintro m Z' H' ⟨J',S',Y',Ω2,R',l',f',hr⟩
 cases m with
 | zero=>cases hr
 | succ m =>
  unfold jej at hr;rcases MS.b_inv hr with ⟨z,Ω3,e1,hr⟩|⟨y,e1,rfl⟩
  ·refine⟨Jz,Sz,Hz,F,J',S',Y',Ω2,R',.ok z,Ω3,e1,fun ρ1 S1 H1 R1 l1 v1=>?_⟩;have f1:=f'.trans v1;have l2:=l'.trans l1
   cases z with
   | true =>
    rw[if_pos rfl] at hr;refine iteT ⟨fun Z2 H2=>∃ J' S' Y' Ω2,RM Jz Sz Hz F X.K X.mg O J' S' H2 Z2 Y' Ω2/\RLe J J'/\Same (hid H (fob (un F S) Z O)) (hid H2 (fob (un F S') Z2 O))/\jej tc g m Y' Ω2=some (r,Ω'),fun Z2 H2 q=>⟨m,Nat.lt_succ_self _,q⟩,?_⟩;rcases MS.b_inv hr with ⟨o,Ω4,e3,hr⟩|⟨y,e3,rfl⟩
    ·refine⟨Jz,Sz,Hz,F,ρ1,S1,Y',Ω3,R1,.ok o,Ω4,e3,?_⟩
     cases o with
     | nx Y4=>exact fun J4 S4 Z4 H4 R4 l4 v4=>⟨J4,S4,Y4,Ω4,R4,l2.trans l4,f1.trans v4,hr⟩
     | ct Y4=>exact fun J4 S4 Z4 H4 R4 l4 v4=>⟨J4,S4,Y4,Ω4,R4,l2.trans l4,f1.trans v4,hr⟩
     | bk Y4=>cases hr;exact fun J4 S4 Z4 H4 R4 l4 v4=>k J4 S4 Z4 H4 R4 (l2.trans l4) (f1.trans v4)
     | rt v=>cases hr;exact k
    ·exact⟨Jz,Sz,Hz,F,ρ1,S1,Y',Ω3,R1,.error y,_,e3,k⟩
   | false =>
    rw[if_neg (by decide)] at hr;cases hr;exact iteF (k ρ1 S1 Z' H1 R1 l2 f1)
  ·exact⟨Jz,Sz,Hz,F,J',S',Y',Ω2,R',.error y,_,e1,trivial⟩
end
end DL
namespace MyLaw
open L2 DL
abbrev LL:=List (List Nat)
abbrev oK{α:Type}(a:α):M α:=some (.ok a)
abbrev oL(a:List D):Option D:=some (.lst a)
abbrev oI(i:Int):Option D:=some (.int i)
abbrev oS(i:Str):Option D:=some (.str i)
abbrev cI(i:Int):DSt->M D:=fC (.int i)
abbrev cS(i:Str):DSt->M D:=fC (.str i)
abbrev nX(d:DSt):M Out:=oK (.nx d)
def top(i:Nat):Stmt:=PySem.Challenge.pw_apartbook_k02_no_sums.main.body.getD i (.Pass ⟨0,0,0,0⟩)
abbrev jjk:Stmt:=top 41
abbrev jks:Stmt:=top 40
abbrev jh2:Stmt:=top 43
abbrev jgn:Stmt:=top 44
abbrev jeo:Stmt:=top 53
abbrev jgo:Stmt:=top 48
abbrev je4:Stmt:=top 49
abbrev jea:Stmt:=top 46
abbrev je3:Stmt:=top 47
abbrev jh5:Stmt:=top 50
abbrev jgm:Stmt:=top 51
abbrev jh6:Stmt:=top 52
abbrev jh3:Stmt:=top 54
abbrev jh4:Stmt:=top 55
abbrev jgl:Stmt:=top 18
abbrev jgk:Stmt:=top 19
abbrev jd5:Stmt:=top 28
abbrev jgr:Stmt:=top 29
abbrev jcg:Stmt:=jih (top 2) 0
abbrev jhz:Stmt:=top 30
abbrev jdq:Stmt:=top 31
abbrev jd0:Stmt:=top 27
abbrev jcf:Stmt:=jih (top 3) 0
abbrev jb2:Stmt:=jih (top 33) 0
abbrev jlt:Stmt:=top 36
abbrev jfu:Stmt:=top 38
abbrev jbt:Stmt:=jih (top 4) 0
abbrev jfv:Stmt:=top 37
abbrev jaz:Stmt:=jih (top 33) 1
abbrev jls:Stmt:=top 35
abbrev jch:Stmt:=jih (top 33) 3
abbrev jbf:Stmt:=jih (top 33) 2
abbrev jcp:Stmt:=top 21
abbrev jgs:Stmt:=top 20
abbrev jc7:Stmt:=top 34
abbrev jet:Stmt:=top 32
abbrev jes:Stmt:=top 26
abbrev jh1:Stmt:=top 57
abbrev jgq:Stmt:=top 42
abbrev jgp:Stmt:=top 58
abbrev jh0:Stmt:=top 56
abbrev jy0:Stmt:=top 59
abbrev xcs:List Str:=["Broken","Folded","NoBook","NoDeed","NoLine","NoName","NoPaper","NoRule","NoText","NotPlain","OutOfRange","ShortShare"]
abbrev xfs:List Str:=["place","name","line","lack"]
abbrev jdr(P:Program)(w:World)(K:W.Frag)(mg:qa)(base:Heap)(n:Nat)(x:Str)(t:Stmt)(N:List Str)(g:DSt->M Out):Prop:=∀ (f:Addr) (b7:Value) (A:Around) (outer:List Env) (s:Shared) (H:Hp) (E:XK),Room n (A.deeper (PyProof.Rows.envOfC x (jad t) s.heap.objs.size f b7))->DSs (cxOf CX0 P w K mg base N x (jad t) f b7 A outer s H E).nox [] [] [] E (jaw t) g
abbrev jm0(P:Program)(w:World)(K:W.Frag)(mg:qa)(base:Heap)(n:Nat)(x:Str)(t:Stmt)(N:List Str)(g:DSt->MS Out):Prop:=∀ (f:Addr) (b7:Value) (A:Around) (outer:List Env) (s:Shared) (H:Hp) (E:XK),Room n (A.deeper (PyProof.Rows.envOfC x (jad t) s.heap.objs.size f b7))->MSs (cxOf CX0 P w K mg base N x (jad t) f b7 A outer s H E).nox [] [] [] (jaw t) g
structure Txt(K:W.Frag)(mg:qa):Prop where
 c_OpenSum:ClsAt K mg "OpenSum" ["star","term","term_sign","total"]
 errs:ErrT K mg xcs xfs "BookError"
 errm:ErrM K mg xcs "BookError"
 errn:ErrN K mg xcs
 f_law_mix:jb3 K mg "_law_mix" jjk ["_law_number","_law_place"]
 f_law_at:jb3 K mg "_law_at" jks ["_law_script","_law_k"]
 f_law_name:jb3 K mg "_law_name" jh2 ["_law_number"]
 f_law_names:jb3 K mg "_law_names" jgn ["_law_number","_law_most"]
 f_law_written:jb3 K mg "_law_written" jeo ["_law_tokens","_law_number"]
 f_law_plain:jb3 K mg "_law_plain" jgo ["_law_names_here","_law_number","_law_cell"]
 f_law_named:jb3 K mg "_law_named" je4 ["_law_names_here","_law_number"]
 f_law_scaled:jb3 K mg "_law_scaled" jea ["_law_form","_law_many"]
 f_law_added:jb3 K mg "_law_added" je3 ["_law_one","_law_other"]
 f_law_term:jb3 K mg "_law_term" jh5 ["_law_names_here","_law_number","_law_cell"]
 f_law_grown:jb3 K mg "_law_grown" jgm ["_law_tree_here","_law_names_here","_law_number","_law_cell"]
 f_law_tree:jb3 K mg "_law_tree" jh6 ["_law_script","_law_names_here","_law_first","_law_last"]
 f_law_step:jb3 K mg "_law_step" jh3 ["_law_state","_law_sign"]
 f_law_stop:jb3 K mg "_law_stop" jh4 ["_law_written_here"]
 f_is_letter:jb3 K mg "is_letter" jgl ["sign"]
 f_is_figure:jb3 K mg "is_figure" jgk ["sign"]
 f_end_of_piece:jb3 K mg "end_of_piece" jd5 ["text","place"]
 f_may_stand:jb3 K mg "may_stand" jgr ["sign","wanted","depth"]
 f_NoText_init__:IniXAt K mg "NoText" "NoText.__init__" jcg ["self","place"]
 f_depth_by:jb3 K mg "depth_by" jhz ["word"]
 f_wanted_behind:jb3 K mg "wanted_behind" jdq ["word"]
 f_pieces_of:jb3 K mg "pieces_of" jd0 ["text"]
 f_NoName_init__:IniXAt K mg "NoName" "NoName.__init__" jcf ["self","name","place"]
 f_OpenSum_init__:IniAt K mg "OpenSum" "OpenSum.__init__" jb2 ["self","width"]
 f_times:jb3 K mg "times" jlt ["form","number"]
 f_is_plain:jb3 K mg "is_plain" jfu ["form"]
 f_NotPlain_init__:IniXAt K mg "NotPlain" "NotPlain.__init__" jbt ["self","place"]
 f_product:jb3 K mg "product" jfv ["left","right","place"]
 f_OpenSum_take_factor:MetAt K mg "OpenSum" "take_factor" "OpenSum.take_factor" jaz ["self","form"]
 f_added:jb3 K mg "added" jls ["left","right"]
 f_OpenSum_whole:MetAt K mg "OpenSum" "whole" "OpenSum.whole" jch ["self"]
 f_OpenSum_take_sign:MetAt K mg "OpenSum" "take_sign" "OpenSum.take_sign" jbf ["self","sign","place"]
 f_number_of_figures:jb3 K mg "number_of_figures" jcp ["word"]
 f_number_of:jb3 K mg "number_of" jgs ["word"]
 f_form_of_word:jb3 K mg "form_of_word" jc7 ["names","word"]
 f_reckoned:jb3 K mg "reckoned" jet ["names","pieces"]
 f_read_sum:jb3 K mg "read_sum" jes ["names","text"]
 f_law_kept:jb3 K mg "_law_kept" jh1 ["_law_names_here","_law_written_here"]
 f_law_whole:jb3 K mg "_law_whole" jgq ["_law_found"]
 f_law_right:jb3 K mg "_law_right" jgp ["_law_names_here","_law_written_here"]
 f_law_bent:jb3 K mg "_law_bent" jh0 ["_law_written_here","_law_number","_law_cell"]
 f_law:jb3 K mg "law" jy0 ["_law_script"]
 g_BEGINNING:∃ t,mg "BEGINNING"=some (.str "beginning" t)
 g_BEHIND:∃ t,mg "BEHIND"=some (.str "behind" t)
 g_FACTOR:∃ t,mg "FACTOR"=some (.str "factor" t)
 g_NAME_LENGTH:∃ t,mg "NAME_LENGTH"=some (.int 10 t)
 g_PART_FIGURES:∃ t,mg "PART_FIGURES"=some (.int 18 t)
 g_PART_SIZE:∃ t,mg "PART_SIZE"=some (.int 1000000000000000000 t)
 b_ValueError:mg "ValueError"=none
 b_all:mg "all"=none
 b_bool:mg "bool"=none
 b_int:mg "int"=none
 b_isinstance:mg "isinstance"=none
 b_len:mg "len"=none
 b_range:mg "range"=none
 b_str:mg "str"=none
 b_tuple:mg "tuple"=none
 b_zip:mg "zip"=none
section
variable {P:Program}{w:World}{K:W.Frag}{mg:qa}{base:Heap}
def sc_law_mix:FnScope ["_law_number","_law_place","_law_part"] ["_law_number","_law_place"] (jad jjk):=.m rfl rfl rfl rfl (by decide +kernel)
def jk4:DSt->M Out:=(gSeq (gSet 2 (f2 gMod (f2 jci (f2 gCat (f2 gCat (f2 gMod (vR 0) (cI 2147483629)) (vR 1)) (cI 1)) (f2 gCat (f2 jci (f2 jci (cI 8) (vR 1)) (vR 1)) (cI 48271))) (cI 2147483647)))
  (gRet (f2 gMod (f2 jci (vR 2) (vR 2)) (cI 2147483587))))
def jb6:List D->M D:=mir 2 3 jk4
def jow(T:Txt K mg):jdr P w K mg base 1 "_law_mix" jjk ["_law_number","_law_place","_law_part"] jk4:=fun _ _ _ _ _ _ _ hr=>
 (jag (ja0 (i:=2) sc_law_mix.nd (jam jc3 jbz (jam jc5 jcc (jam jaj jak (jam jaj jak (jam jc3 jbz (jab 0) jaf) (jab 1)) jaf) (jam jaj jak (jam jc5 jcc (jam jc5 jcc jaf (jab 1)) (jab 1)) jaf)) jaf))
  (jah (jao (jam jc3 jbz (jam jc5 jcc (jab 2) (jab 2)) jaf))))
def jdy(T:Txt K mg):Cal P w K mg base 2 "_law_mix" 2 jb6:=jca T.f_law_mix sc_law_mix (jow T)
def jws:FnScope ["_law_script","_law_k"] ["_law_script","_law_k"] (jad jks):=.m rfl rfl rfl rfl (by decide +kernel)
def jnq:DSt->M Out:=(gSeq (gIf (t2 gLt (vR 1) (fL kLen (jac (vR 0) fNil))) (gRet (f2 gIx (vR 0) (vR 1))) gNx)
  (gRet (f2 gCat (f2 jci (cI 19) (vR 1)) (cI 8))))
def jda:List D->M D:=mir 2 2 jnq
def jqe(T:Txt K mg):jdr P w K mg base 1 "_law_at" jks ["_law_script","_law_k"] jnq:=fun _ _ _ _ _ _ _ hr=>
 (jag (jcl (jas jji jcw (jab 1) (jbk jbh jcz rfl T.b_len jd7 (jaa (jab 0) jae)) (jap _)) (jah (jao (jbc jat jav (jab 0) (jab 1)))) ja1)
  (jah (jao (jam jaj jak (jam jc5 jcc jaf (jab 1)) jaf))))
def jhg(T:Txt K mg):Cal P w K mg base 2 "_law_at" 2 jda:=jca T.f_law_at jws (jqe T)
def sc_law_name:FnScope ["_law_number","_law_name_here","_law_k"] ["_law_number"] (jad jh2):=.m rfl rfl rfl rfl (by decide +kernel)
def jfy:DSt->M Out:=(gSet 1 (f2 gCat (vR 1) (f2 gIx (cS "abcdefghijklmnopqrstuvwxyz") (f2 gMod (jau jb6 (jac (vR 0) (jac (vR 2) fNil))) (f2 gIx (fL ja2 (jac (cI 26) (jac (cI 2) fNil))) (f2 gMod (f2 jev (vR 0) (cI 10)) (cI 2)))))))
def jhp:DSt->M Out:=(gSeq (gSet 1 (cS ""))
  (gSeq (gFor (jha jce (jac (f2 gCat (cI 1) (f2 gMod (vR 0) (cI 10))) fNil)) (DL.gName 2) jfy)
  (gRet (vR 1))))
def jfn:List D->M D:=mir 1 3 jhp
def jm6(T:Txt K mg):jdr P w K mg base 2 "_law_name" jh2 ["_law_number","_law_name_here","_law_k"] jhp:=fun _ _ _ _ _ _ _ hr=>
 (jag (ja0 (i:=1) sc_law_name.nd jai)
  (jag (jml PassesOwn.never rfl (jhm rfl T.b_range (jaa (jam jaj jak jaf (jam jc3 jbz (jab 0) jaf)) jae)) (jee (i:=2) sc_law_name.nd) (jah (ja0 (i:=1) sc_law_name.nd (jam jaj jak (jab 1) (jbc jat jav jai (jam jc3 jbz (jan (jdy T) (hr.m rfl) (jaa (jab 0) (jaa (jab 2) jae))) (jbc jat jav (jbu (jaa jaf (jaa jaf jae))) (jam jc3 jbz (jam jdb jdc (jab 0) jaf) jaf))))))))
  (jah (jao (jab 1)))))
def jq0(T:Txt K mg):Cal P w K mg base 3 "_law_name" 1 jfn:=jca T.f_law_name sc_law_name (jm6 T)
def sc_law_names:FnScope ["_law_number","_law_most","_law_names_here","_law_k","_law_name_here"] ["_law_number","_law_most"] (jad jgn):=.m rfl rfl rfl rfl (by decide +kernel)
def jd6:DSt->M Out:=(gSeq (gSet 4 (jau jfn (jac (jau jb6 (jac (vR 0) (jac (f2 gCat (cI 20) (vR 3)) fNil))) fNil)))
  (gIf (t2 ji6 (vR 4) (vR 2)) (gApp 2 (vR 4)) gNx))
def jf7:DSt->M Out:=(gSeq (gSet 2 (fL ja2 fNil))
  (gSeq (gFor (jha jce (jac (f2 gCat (cI 1) (f2 gMod (vR 0) (vR 1))) fNil)) (DL.gName 3) jd6)
  (gRet (vR 2))))
def jgf:List D->M D:=mir 2 5 jf7
def jl8(T:Txt K mg):jdr P w K mg base 3 "_law_names" jgn ["_law_number","_law_most","_law_names_here","_law_k","_law_name_here"] jf7:=fun _ _ _ _ _ _ _ hr=>
 (jag (jzp (i:=2) sc_law_names.nd jae)
  (jag (jml PassesOwn.never rfl (jhm rfl T.b_range (jaa (jam jaj jak jaf (jam jc3 jbz (jab 0) (jab 1))) jae)) (jee (i:=3) sc_law_names.nd) (jag (ja0 (i:=4) sc_law_names.nd (jan (jq0 T) (hr.m rfl) (jaa (jan (jdy T) (hr.m rfl) (jaa (jab 0) (jaa (jam jaj jak jaf (jab 3)) jae))) jae)))
  (jah (jcl (jBi (O':=[]) (by decide) (jas jj9 jpr (jab 4) (jab 2) rfl)) (jah (jzo (i:=2) rfl (jab 4))) ja1))))
  (jBh (O':=[]) (by decide) (jah (jao (jab 2))))))
def jpk(T:Txt K mg):Cal P w K mg base 4 "_law_names" 2 jgf:=jca T.f_law_names sc_law_names (jl8 T)
def sc_law_written:FnScope ["_law_tokens","_law_number","_law_written_here","_law_k"] ["_law_tokens","_law_number"] (jad jeo):=.m rfl rfl rfl rfl (by decide +kernel)
def jd1:DSt->M Out:=(gSet 2 (f2 gCat (f2 gCat (vR 2) (f2 jci (fC (.str " ")) (f2 gIx (fL ja2 (jac (cI 0) (jac (cI 0) (jac (cI 1) (jac (cI 1) (jac (cI 0) (jac (cI 2) fNil))))))) (f2 gMod (jau jb6 (jac (vR 1) (jac (vR 3) fNil))) (cI 6))))) (f2 gIx (vR 0) (vR 3))))
def jek:DSt->M Out:=(gSeq (gSet 2 (cS ""))
  (gSeq (gFor (jha jce (jac (fL kLen (jac (vR 0) fNil)) fNil)) (DL.gName 3) jd1)
  (gRet (f2 gCat (vR 2) (f2 jci (fC (.str " ")) (f2 jev (f2 gMod (vR 1) (cI 7)) (cI 5)))))))
def jem:List D->M D:=mir 2 4 jek
def jkb(T:Txt K mg):jdr P w K mg base 2 "_law_written" jeo ["_law_tokens","_law_number","_law_written_here","_law_k"] jek:=fun _ _ _ _ _ _ _ hr=>
 (jag (ja0 (i:=2) sc_law_written.nd jai)
  (jag (jml PassesOwn.never rfl (jhm rfl T.b_range (jaa (jbk jbh jcz rfl T.b_len jd7 (jaa (jab 0) jae)) jae)) (jee (i:=3) sc_law_written.nd) (jah (ja0 (i:=2) sc_law_written.nd (jam jaj jak (jam jaj jak (jab 2) (jam jc5 jcc jai (jbc jat jav (jbu (jaa jaf (jaa jaf (jaa jaf (jaa jaf (jaa jaf (jaa jaf jae))))))) (jam jc3 jbz (jan (jdy T) (hr.m rfl) (jaa (jab 1) (jaa (jab 3) jae))) jaf)))) (jbc jat jav (jab 0) (jab 3))))))
  (jah (jao (jam jaj jak (jab 2) (jam jc5 jcc jai (jam jdb jdc (jam jc3 jbz (jab 1) jaf) jaf)))))))
def jmi(T:Txt K mg):Cal P w K mg base 3 "_law_written" 2 jem:=jca T.f_law_written sc_law_written (jkb T)
def sc_law_plain:FnScope ["_law_names_here","_law_number","_law_cell","_law_value"] ["_law_names_here","_law_number","_law_cell"] (jad jgo):=.m rfl rfl rfl rfl (by decide +kernel)
def jf8:DSt->M Out:=(gSeq (gSet 3 (f2 gMod (f2 jev (vR 1) (cI 8)) (cI 4)))
  (gSeq (gIf (t2 gEq (f2 gMod (vR 1) (cI 4)) (cI 0)) (gSet 3 (f2 gMod (vR 2) (f2 gIx (fL ja2 (jac (cI 100) (jac (f2 gPow (cI 10) (cI 14)) fNil))) (f2 jev (f2 gMod (f2 jev (vR 1) (cI 32)) (cI 4)) (cI 3))))) gNx)
  (gRet (fL jbq (jac (fL ja2 (jac (fL kStr (jac (vR 3) fNil)) fNil)) (jac (fL jbq (jac (f2 jci (fL jbq (jac (cI 0) fNil)) (fL kLen (jac (vR 0) fNil))) (jac (vR 3) fNil))) fNil))))))
def je0:List D->M D:=mir 3 4 jf8
def jl9(T:Txt K mg):jdr P w K mg base 1 "_law_plain" jgo ["_law_names_here","_law_number","_law_cell","_law_value"] jf8:=fun _ _ _ _ _ _ _ hr=>
 (jag (ja0 (i:=3) sc_law_plain.nd (jam jc3 jbz (jam jdb jdc (jab 1) jaf) jaf))
  (jag (jcl (jas (ja6 (hu30 hr)) ja7 (jam jc3 jbz (jab 1) jaf) jaf (jap _)) (jah (ja0 (i:=3) sc_law_plain.nd (jam jc3 jbz (jab 2) (jbc jat jav (jbu (jaa jaf (jaa (jam jFv jCp jaf jaf) jae))) (jam jdb jdc (jam jc3 jbz (jam jdb jdc (jab 1) jaf) jaf) jaf))))) ja1)
  (jah (jao (jbi (jaa (jbu (jaa (ja3 jg3 jqf rfl T.b_str jua (jaa (jab 3) jae)) jae)) (jaa (jbi (jaa (jam jc5 jcc (jbi (jaa jaf jae)) (jbk jbh jcz rfl T.b_len jd7 (jaa (jab 0) jae))) (jaa (jab 3) jae))) jae)))))))
def jpl(T:Txt K mg):Cal P w K mg base 2 "_law_plain" 3 je0:=jca T.f_law_plain sc_law_plain (jl9 T)
def sc_law_named:FnScope ["_law_names_here","_law_number","_law_at_here"] ["_law_names_here","_law_number"] (jad je4):=.m rfl rfl rfl rfl (by decide +kernel)
def jg2:DSt->M D:=(fL kIntT (jac (f2 gEq (vR 0) (vR 1)) fNil))
def jf6:DSt->M Out:=(gSeq (gSet 2 (f2 gMod (vR 1) (fL kLen (jac (vR 0) fNil))))
  (gRet (fL jbq (jac (fL ja2 (jac (f2 gIx (vR 0) (vR 2)) fNil)) (jac (fL jbq (jac (fL kTuple (jac (jnk 1 [("_law_at_here",2)] (jha jce (jac (fL kLen (jac (vR 0) fNil)) fNil)) (DL.gName 0) tYes jg2) fNil)) (jac (cI 0) fNil))) fNil)))))
def jez:List D->M D:=mir 2 3 jf6
def jl7(T:Txt K mg):jdr P w K mg base 1 "_law_named" je4 ["_law_names_here","_law_number","_law_at_here"] jf6:=fun _ _ _ _ _ _ _ hr=>
 (jag (ja0 (i:=2) sc_law_named.nd (jam jc3 jbz (jab 1) (jbk jbh jcz rfl T.b_len jd7 (jaa (jab 0) jae))))
  (jah (jao (jbi (jaa (jbu (jaa (jbc jat jav (jab 0) (jab 2)) jae)) (jaa (jbi (jaa (ja3 jb5 jd8 rfl T.b_tuple je8 (jaa (jij (own:=["_law_k"]) (caps:=[("_law_at_here",2)]) rfl (jig (N:=["_law_names_here","_law_number","_law_at_here"]) (osc:=jad je4) rfl rfl rfl (by decide +kernel)) (jhm rfl T.b_range (jaa (jbk jbh jcz rfl T.b_len jd7 (jaa (jab 0) jae)) jae)) (fun _ _ _ _=>(jee (i:=0) (show (["_law_k","_law_at_here"]:List Str).Nodup from by decide +kernel))) (fun _ _ _ _=>jii) (fun _ _ _ _=>(ja3 jcq jc8 rfl T.b_int jfg (jaa (jeh (ja6 (hu30 hr)) ja7 (jab 0) (jab 1) (jap _)) jae)))) jae)) (jaa jaf jae))) jae))))))
def jpj(T:Txt K mg):Cal P w K mg base 2 "_law_named" 2 jez:=jca T.f_law_named sc_law_named (jl7 T)
def joh:FnScope ["_law_form","_law_many"] ["_law_form","_law_many"] (jad jea):=.m rfl rfl rfl rfl (by decide +kernel)
def jf1:DSt->M D:=(f2 jci (vR 1) (vR 0))
def jg8:DSt->M Out:=(gRet (fL jbq (jac (fL kTuple (jac (jnk 1 [("_law_many",1)] (ji8 (f2 gIx (vR 0) (cI 0))) (DL.gName 0) tYes jf1) fNil)) (jac (f2 jci (vR 1) (f2 gIx (vR 0) (cI 1))) fNil))))
def jbe:List D->M D:=mir 2 2 jg8
def jkw(T:Txt K mg):jdr P w K mg base 1 "_law_scaled" jea ["_law_form","_law_many"] jg8:=fun _ _ _ _ _ _ _ hr=>
 (jah (jao (jbi (jaa (ja3 jb5 jd8 rfl T.b_tuple je8 (jaa (jij (own:=["_law_number"]) (caps:=[("_law_many",1)]) rfl (jig (N:=["_law_form","_law_many"]) (osc:=jad jea) rfl rfl rfl (by decide +kernel)) (jkz (jbc jat jav (jab 0) jaf)) (fun _ _ _ _=>(jee (i:=0) (show (["_law_number","_law_many"]:List Str).Nodup from by decide +kernel))) (fun _ _ _ _=>jii) (fun _ _ _ _=>(jam jc5 jcc (jab 1) (jab 0)))) jae)) (jaa (jam jc5 jcc (jab 1) (jbc jat jav (jab 0) jaf)) jae)))))
def jb7(T:Txt K mg):Cal P w K mg base 2 "_law_scaled" 2 jbe:=jca T.f_law_scaled joh (jkw T)
def jp2:FnScope ["_law_one","_law_other"] ["_law_one","_law_other"] (jad je3):=.m rfl rfl rfl rfl (by decide +kernel)
def jg1:DSt->M D:=(f2 gCat (vR 0) (vR 1))
def jin:DSt->M Out:=(gRet (fL jbq (jac (fL kTuple (jac (jnk 2 [] (jha jgt (jac (f2 gIx (vR 0) (cI 0)) (jac (f2 gIx (vR 1) (cI 0)) fNil))) (je7 0 1) tYes jg1) fNil)) (jac (f2 gCat (f2 gIx (vR 0) (cI 1)) (f2 gIx (vR 1) (cI 1))) fNil))))
def jb8:List D->M D:=mir 2 2 jin
def jl5(T:Txt K mg):jdr P w K mg base 1 "_law_added" je3 ["_law_one","_law_other"] jin:=fun _ _ _ _ _ _ _ hr=>
 (jah (jao (jbi (jaa (ja3 jb5 jd8 rfl T.b_tuple je8 (jaa (jij (own:=["_law_x","_law_y"]) (caps:=[]) rfl (jig (N:=["_law_one","_law_other"]) (osc:=jad je3) rfl rfl rfl (by decide +kernel)) (jzn rfl T.b_zip (jaa (jbc jat jav (jab 0) jaf) (jaa (jbc jat jav (jab 1) jaf) jae))) (fun _ _ _ _=>(jik (i:=0) (j:=1) rfl (show (["_law_x","_law_y"]:List Str).Nodup from by decide +kernel))) (fun _ _ _ _=>jii) (fun _ _ _ _=>(jam jaj jak (jab 0) (jab 1)))) jae)) (jaa (jam jaj jak (jbc jat jav (jab 0) jaf) (jbc jat jav (jab 1) jaf)) jae)))))
def jdf(T:Txt K mg):Cal P w K mg base 2 "_law_added" 2 jb8:=jca T.f_law_added jp2 (jl5 T)
def sc_law_term:FnScope ["_law_names_here","_law_number","_law_cell","_law_one","_law_other","_law_value","_law_form","_law_way","_law_both"] ["_law_names_here","_law_number","_law_cell"] (jad jh5):=.m rfl rfl rfl rfl (by decide +kernel)
def jfj:DSt->M Out:=(gSeq (gSet 3 (jau je0 (jac (vR 0) (jac (f2 jev (vR 1) (cI 8)) (jac (vR 2) fNil)))))
  (gSeq (gSet 4 (jau jez (jac (vR 0) (jac (f2 jev (vR 1) (cI 64)) fNil))))
  (gSeq (gSet 5 (f2 gIx (f2 gIx (vR 3) (cI 1)) (cI 1)))
  (gSeq (gSet 6 (jau jbe (jac (f2 gIx (vR 4) (cI 1)) (jac (vR 5) fNil))))
  (gSeq (gSet 7 (f2 gMod (vR 1) (cI 8)))
  (gSeq (gIf (t2 gEq (vR 7) (cI 0)) (gRet (vR 3)) gNx)
  (gSeq (gIf (t2 gLt (vR 7) (cI 3)) (gRet (vR 4)) gNx)
  (gSeq (gIf (t2 gEq (vR 7) (cI 3)) (gRet (fL jbq (jac (f2 gCat (f2 gCat (f2 gIx (vR 3) (cI 0)) (fL ja2 (jac (cS "*") fNil))) (f2 gIx (vR 4) (cI 0))) (jac (vR 6) fNil)))) gNx)
  (gSeq (gIf (t2 gEq (vR 7) (cI 4)) (gRet (fL jbq (jac (f2 gCat (f2 gCat (f2 gIx (vR 4) (cI 0)) (fL ja2 (jac (cS "*") fNil))) (f2 gIx (vR 3) (cI 0))) (jac (vR 6) fNil)))) gNx)
  (gSeq (gIf (t2 gEq (vR 7) (cI 5)) (gRet (fL jbq (jac (f2 gCat (f2 gCat (f2 gCat (f2 gCat (f2 gCat (f2 gCat (f2 gCat (fL ja2 (jac (fC (.str "(")) fNil)) (f2 gIx (vR 4) (cI 0))) (fL ja2 (jac (cS "-") fNil))) (f2 gIx (vR 4) (cI 0))) (fL ja2 (jac (cS "+") fNil))) (f2 gIx (vR 3) (cI 0))) (fL ja2 (jac (fC (.str ")")) (jac (cS "*") fNil)))) (f2 gIx (vR 4) (cI 0))) (jac (vR 6) fNil)))) gNx)
  (gSeq (gSet 8 (f2 gCat (f2 gCat (f2 gCat (f2 gCat (fL ja2 (jac (fC (.str "(")) fNil)) (f2 gIx (vR 4) (cI 0))) (fL ja2 (jac (cS "+") fNil))) (f2 gIx (vR 3) (cI 0))) (fL ja2 (jac (fC (.str ")")) fNil))))
  (gSeq (gSet 6 (jau jb8 (jac (f2 gIx (vR 4) (cI 1)) (jac (f2 gIx (vR 3) (cI 1)) fNil))))
  (gSeq (gIf (t2 gEq (vR 7) (cI 6)) (gRet (fL jbq (jac (vR 8) (jac (vR 6) fNil)))) gNx)
  (gRet (fL jbq (jac (f2 gCat (f2 gCat (vR 8) (fL ja2 (jac (cS "*") (jac (cS "2") (jac (cS "*") fNil))))) (f2 gIx (vR 3) (cI 0))) (jac (jau jbe (jac (vR 6) (jac (f2 jci (cI 2) (vR 5)) fNil))) fNil)))))))))))))))))
def jdw:List D->M D:=mir 3 9 jfj
def jm9(T:Txt K mg):jdr P w K mg base 2 "_law_term" jh5 ["_law_names_here","_law_number","_law_cell","_law_one","_law_other","_law_value","_law_form","_law_way","_law_both"] jfj:=fun _ _ _ _ _ _ _ hr=>
 (jag (ja0 (i:=3) sc_law_term.nd (jan (jpl T) (hr.m rfl) (jaa (jab 0) (jaa (jam jdb jdc (jab 1) jaf) (jaa (jab 2) jae)))))
  (jag (ja0 (i:=4) sc_law_term.nd (jan (jpj T) (hr.m rfl) (jaa (jab 0) (jaa (jam jdb jdc (jab 1) jaf) jae))))
  (jag (ja0 (i:=5) sc_law_term.nd (jbc jat jav (jbc jat jav (jab 3) jaf) jaf))
  (jag (ja0 (i:=6) sc_law_term.nd (jan (jb7 T) (hr.m rfl) (jaa (jbc jat jav (jab 4) jaf) (jaa (jab 5) jae))))
  (jag (ja0 (i:=7) sc_law_term.nd (jam jc3 jbz (jab 1) jaf))
  (jag (jcl (jas (ja6 (hu30 hr)) ja7 (jab 7) jaf (jap _)) (jah (jao (jab 3))) ja1)
  (jag (jcl (jas jji jcw (jab 7) jaf (jap _)) (jah (jao (jab 4))) ja1)
  (jag (jcl (jas (ja6 (hu30 hr)) ja7 (jab 7) jaf (jap _)) (jah (jao (jbi (jaa (jam jaj jak (jam jaj jak (jbc jat jav (jab 3) jaf) (jbu (jaa jai jae))) (jbc jat jav (jab 4) jaf)) (jaa (jab 6) jae))))) ja1)
  (jag (jcl (jas (ja6 (hu30 hr)) ja7 (jab 7) jaf (jap _)) (jah (jao (jbi (jaa (jam jaj jak (jam jaj jak (jbc jat jav (jab 4) jaf) (jbu (jaa jai jae))) (jbc jat jav (jab 3) jaf)) (jaa (jab 6) jae))))) ja1)
  (jag (jcl (jas (ja6 (hu30 hr)) ja7 (jab 7) jaf (jap _)) (jah (jao (jbi (jaa (jam jaj jak (jam jaj jak (jam jaj jak (jam jaj jak (jam jaj jak (jam jaj jak (jam jaj jak (jbu (jaa jai jae)) (jbc jat jav (jab 4) jaf)) (jbu (jaa jai jae))) (jbc jat jav (jab 4) jaf)) (jbu (jaa jai jae))) (jbc jat jav (jab 3) jaf)) (jbu (jaa jai (jaa jai jae)))) (jbc jat jav (jab 4) jaf)) (jaa (jab 6) jae))))) ja1)
  (jag (ja0 (i:=8) sc_law_term.nd (jam jaj jak (jam jaj jak (jam jaj jak (jam jaj jak (jbu (jaa jai jae)) (jbc jat jav (jab 4) jaf)) (jbu (jaa jai jae))) (jbc jat jav (jab 3) jaf)) (jbu (jaa jai jae))))
  (jag (ja0 (i:=6) sc_law_term.nd (jan (jdf T) (hr.m rfl) (jaa (jbc jat jav (jab 4) jaf) (jaa (jbc jat jav (jab 3) jaf) jae))))
  (jag (jcl (jas (ja6 (hu30 hr)) ja7 (jab 7) jaf (jap _)) (jah (jao (jbi (jaa (jab 8) (jaa (jab 6) jae))))) ja1)
  (jah (jao (jbi (jaa (jam jaj jak (jam jaj jak (jab 8) (jbu (jaa jai (jaa jai (jaa jai jae))))) (jbc jat jav (jab 3) jaf)) (jaa (jan (jb7 T) (hr.m rfl) (jaa (jab 6) (jaa (jam jc5 jcc jaf (jab 5)) jae))) jae))))))))))))))))))
def jlm(T:Txt K mg):Cal P w K mg base 3 "_law_term" 3 jdw:=jca T.f_law_term sc_law_term (jm9 T)
def sc_law_grown:FnScope ["_law_tree_here","_law_names_here","_law_number","_law_cell","_law_tokens","_law_form","_law_depth","_law_more","_law_extra","_law_way","_law_many","_law_inner"] ["_law_tree_here","_law_names_here","_law_number","_law_cell"] (jad jgm):=.m rfl rfl rfl rfl (by decide +kernel)
def jex:DSt->M Out:=(gSeq (gAsg (juv 4 5 6) (vR 0))
  (gSeq (gAsg (je7 7 8) (jau jdw (jac (vR 1) (jac (f2 jev (vR 2) (cI 16)) (jac (vR 3) fNil)))))
  (gSeq (gSet 9 (f2 gMod (vR 2) (cI 16)))
  (gSeq (gSet 10 (f2 gMod (f2 jev (vR 2) (cI 16)) (cI 4)))
  (gSeq (gIf (DL.tOr (t2 gLt (vR 9) (cI 6)) (t2 gGt (vR 6) (cI 8))) (gRet (fL jbq (jac (f2 gCat (f2 gCat (vR 4) (fL ja2 (jac (cS "+") fNil))) (vR 7)) (jac (jau jb8 (jac (vR 5) (jac (vR 8) fNil))) (jac (vR 6) fNil))))) gNx)
  (gSeq (gIf (t2 gLt (vR 9) (cI 9)) (gRet (fL jbq (jac (f2 gCat (f2 gCat (vR 4) (fL ja2 (jac (cS "-") fNil))) (vR 7)) (jac (jau jb8 (jac (vR 5) (jac (jau jbe (jac (vR 8) (jac (f2 gSub (cI 0) (cI 1)) fNil))) fNil))) (jac (vR 6) fNil))))) gNx)
  (gSeq (gSet 11 (f2 gCat (f2 gCat (fL ja2 (jac (fC (.str "(")) fNil)) (vR 4)) (fL ja2 (jac (fC (.str ")")) fNil))))
  (gSeq (gIf (t2 gEq (vR 9) (cI 9)) (gRet (fL jbq (jac (f2 gCat (vR 11) (fL ja2 (jac (cS "*") (jac (fL kStr (jac (vR 10) fNil)) fNil)))) (jac (jau jbe (jac (vR 5) (jac (vR 10) fNil))) (jac (f2 gCat (vR 6) (cI 1)) fNil))))) gNx)
  (gSeq (gIf (t2 gEq (vR 9) (cI 10)) (gRet (fL jbq (jac (f2 gCat (fL ja2 (jac (fL kStr (jac (vR 10) fNil)) (jac (cS "*") fNil))) (vR 11)) (jac (jau jbe (jac (vR 5) (jac (vR 10) fNil))) (jac (f2 gCat (vR 6) (cI 1)) fNil))))) gNx)
  (gSeq (gIf (t2 gEq (vR 9) (cI 11)) (gRet (fL jbq (jac (f2 gCat (fL ja2 (jac (cS "-") fNil)) (vR 11)) (jac (jau jbe (jac (vR 5) (jac (f2 gSub (cI 0) (cI 1)) fNil))) (jac (f2 gCat (vR 6) (cI 1)) fNil))))) gNx)
  (gSeq (gIf (t2 gEq (vR 9) (cI 12)) (gRet (fL jbq (jac (f2 gCat (f2 gCat (f2 gCat (fL ja2 (jac (cS "-") fNil)) (vR 7)) (fL ja2 (jac (cS "+") fNil))) (vR 11)) (jac (jau jb8 (jac (vR 5) (jac (jau jbe (jac (vR 8) (jac (f2 gSub (cI 0) (cI 1)) fNil))) fNil))) (jac (f2 gCat (vR 6) (cI 1)) fNil))))) gNx)
  (gSeq (gIf (t2 gEq (vR 9) (cI 13)) (gRet (fL jbq (jac (f2 gCat (f2 gCat (vR 7) (fL ja2 (jac (cS "-") fNil))) (vR 11)) (jac (jau jb8 (jac (vR 8) (jac (jau jbe (jac (vR 5) (jac (f2 gSub (cI 0) (cI 1)) fNil))) fNil))) (jac (f2 gCat (vR 6) (cI 1)) fNil))))) gNx)
  (gSeq (gIf (t2 gEq (vR 9) (cI 14)) (gRet (fL jbq (jac (vR 11) (jac (vR 5) (jac (f2 gCat (vR 6) (cI 1)) fNil))))) gNx)
  (gRet (fL jbq (jac (f2 gCat (f2 gCat (vR 7) (fL ja2 (jac (cS "+") fNil))) (vR 11)) (jac (jau jb8 (jac (vR 5) (jac (vR 8) fNil))) (jac (f2 gCat (vR 6) (cI 1)) fNil))))))))))))))))))
def jge:List D->M D:=mir 4 12 jex
def jl6(T:Txt K mg):jdr P w K mg base 3 "_law_grown" jgm ["_law_tree_here","_law_names_here","_law_number","_law_cell","_law_tokens","_law_form","_law_depth","_law_more","_law_extra","_law_way","_law_many","_law_inner"] jex:=fun _ _ _ _ _ _ _ hr=>
 (jag (jru (jab 0) (jBf (i:=4) (j:=5) (l:=6) rfl sc_law_grown.nd))
  (jag (jru (jan (jlm T) (hr.m rfl) (jaa (jab 1) (jaa (jam jdb jdc (jab 2) jaf) (jaa (jab 3) jae)))) (jik (i:=7) (j:=8) rfl sc_law_grown.nd))
  (jag (ja0 (i:=9) sc_law_grown.nd (jam jc3 jbz (jab 2) jaf))
  (jag (ja0 (i:=10) sc_law_grown.nd (jam jc3 jbz (jam jdb jdc (jab 2) jaf) jaf))
  (jag (jcl (DW.dt (jup (jas jji jcw (jab 9) jaf (jap _)) (jo6 (jas jpq jcw (jab 6) jaf (jap _))))) (jah (jao (jbi (jaa (jam jaj jak (jam jaj jak (jab 4) (jbu (jaa jai jae))) (jab 7)) (jaa (jan (jdf T) (hr.m rfl) (jaa (jab 5) (jaa (jab 8) jae))) (jaa (jab 6) jae)))))) ja1)
  (jag (jcl (jas jji jcw (jab 9) jaf (jap _)) (jah (jao (jbi (jaa (jam jaj jak (jam jaj jak (jab 4) (jbu (jaa jai jae))) (jab 7)) (jaa (jan (jdf T) (hr.m rfl) (jaa (jab 5) (jaa (jan (jb7 T) (hr.m rfl) (jaa (jab 8) (jaa (jam jms jjx jaf jaf) jae))) jae))) (jaa (jab 6) jae)))))) ja1)
  (jag (ja0 (i:=11) sc_law_grown.nd (jam jaj jak (jam jaj jak (jbu (jaa jai jae)) (jab 4)) (jbu (jaa jai jae))))
  (jag (jcl (jas (ja6 (hu30 hr)) ja7 (jab 9) jaf (jap _)) (jah (jao (jbi (jaa (jam jaj jak (jab 11) (jbu (jaa jai (jaa (ja3 jg3 jqf rfl T.b_str jua (jaa (jab 10) jae)) jae)))) (jaa (jan (jb7 T) (hr.m rfl) (jaa (jab 5) (jaa (jab 10) jae))) (jaa (jam jaj jak (jab 6) jaf) jae)))))) ja1)
  (jag (jcl (jas (ja6 (hu30 hr)) ja7 (jab 9) jaf (jap _)) (jah (jao (jbi (jaa (jam jaj jak (jbu (jaa (ja3 jg3 jqf rfl T.b_str jua (jaa (jab 10) jae)) (jaa jai jae))) (jab 11)) (jaa (jan (jb7 T) (hr.m rfl) (jaa (jab 5) (jaa (jab 10) jae))) (jaa (jam jaj jak (jab 6) jaf) jae)))))) ja1)
  (jag (jcl (jas (ja6 (hu30 hr)) ja7 (jab 9) jaf (jap _)) (jah (jao (jbi (jaa (jam jaj jak (jbu (jaa jai jae)) (jab 11)) (jaa (jan (jb7 T) (hr.m rfl) (jaa (jab 5) (jaa (jam jms jjx jaf jaf) jae))) (jaa (jam jaj jak (jab 6) jaf) jae)))))) ja1)
  (jag (jcl (jas (ja6 (hu30 hr)) ja7 (jab 9) jaf (jap _)) (jah (jao (jbi (jaa (jam jaj jak (jam jaj jak (jam jaj jak (jbu (jaa jai jae)) (jab 7)) (jbu (jaa jai jae))) (jab 11)) (jaa (jan (jdf T) (hr.m rfl) (jaa (jab 5) (jaa (jan (jb7 T) (hr.m rfl) (jaa (jab 8) (jaa (jam jms jjx jaf jaf) jae))) jae))) (jaa (jam jaj jak (jab 6) jaf) jae)))))) ja1)
  (jag (jcl (jas (ja6 (hu30 hr)) ja7 (jab 9) jaf (jap _)) (jah (jao (jbi (jaa (jam jaj jak (jam jaj jak (jab 7) (jbu (jaa jai jae))) (jab 11)) (jaa (jan (jdf T) (hr.m rfl) (jaa (jab 8) (jaa (jan (jb7 T) (hr.m rfl) (jaa (jab 5) (jaa (jam jms jjx jaf jaf) jae))) jae))) (jaa (jam jaj jak (jab 6) jaf) jae)))))) ja1)
  (jag (jcl (jas (ja6 (hu30 hr)) ja7 (jab 9) jaf (jap _)) (jah (jao (jbi (jaa (jab 11) (jaa (jab 5) (jaa (jam jaj jak (jab 6) jaf) jae)))))) ja1)
  (jah (jao (jbi (jaa (jam jaj jak (jam jaj jak (jab 7) (jbu (jaa jai jae))) (jab 11)) (jaa (jan (jdf T) (hr.m rfl) (jaa (jab 5) (jaa (jab 8) jae))) (jaa (jam jaj jak (jab 6) jaf) jae)))))))))))))))))))
def jpi(T:Txt K mg):Cal P w K mg base 4 "_law_grown" 4 jge:=jca T.f_law_grown sc_law_grown (jl6 T)
def sc_law_tree:FnScope ["_law_script","_law_names_here","_law_first","_law_last","_law_tokens","_law_form","_law_tree_here","_law_cell"] ["_law_script","_law_names_here","_law_first","_law_last"] (jad jh6):=.m rfl rfl rfl rfl (by decide +kernel)
def jf0:DSt->M Out:=(gSet 6 (jau jge (jac (vR 6) (jac (vR 1) (jac (jau jb6 (jac (vR 7) (jac (cI 4) fNil))) (jac (vR 7) fNil))))))
def jhr:DSt->M Out:=(gSeq (gAsg (je7 4 5) (jau jdw (jac (vR 1) (jac (jau jb6 (jac (jau jda (jac (vR 0) (jac (cI 1) fNil))) (jac (cI 3) fNil))) (jac (jau jda (jac (vR 0) (jac (cI 1) fNil))) fNil)))))
  (gSeq (gSet 6 (fL jbq (jac (vR 4) (jac (vR 5) (jac (cI 1) fNil)))))
  (gSeq (gFor (ji8 (fSl (vR 0) (jcj (vR 2)) (jcj (vR 3)))) (DL.gName 7) jf0)
  (gRet (vR 6)))))
def jhw:List D->M D:=mir 4 8 jhr
def jna(T:Txt K mg):jdr P w K mg base 4 "_law_tree" jh6 ["_law_script","_law_names_here","_law_first","_law_last","_law_tokens","_law_form","_law_tree_here","_law_cell"] jhr:=fun _ _ _ _ _ _ _ hr=>
 (jag (jru (jan (jlm T) (hr.m rfl) (jaa (jab 1) (jaa (jan (jdy T) (hr.m rfl) (jaa (jan (jhg T) (hr.m rfl) (jaa (jab 0) (jaa jaf jae))) (jaa jaf jae))) (jaa (jan (jhg T) (hr.m rfl) (jaa (jab 0) (jaa jaf jae))) jae)))) (jik (i:=4) (j:=5) rfl sc_law_tree.nd))
  (jag (ja0 (i:=6) sc_law_tree.nd (jbi (jaa (jab 4) (jaa (jab 5) (jaa jaf jae)))))
  (jag (jml PassesOwn.never rfl (jkz (jc9 (jab 0) (jdd (jab 2)) (jdd (jab 3)))) (jee (i:=7) sc_law_tree.nd) (jah (ja0 (i:=6) sc_law_tree.nd (jan (jpi T) (hr.m rfl) (jaa (jab 6) (jaa (jab 1) (jaa (jan (jdy T) (hr.m rfl) (jaa (jab 7) (jaa jaf jae))) (jaa (jab 7) jae))))))))
  (jah (jao (jab 6))))))
def jq3(T:Txt K mg):Cal P w K mg base 5 "_law_tree" 4 jhw:=jca T.f_law_tree sc_law_tree (jna T)
def sc_law_step:FnScope ["_law_state","_law_sign","_law_kind","_law_many"] ["_law_state","_law_sign"] (jad jh3):=.m rfl rfl rfl rfl (by decide +kernel)
def jeq:DSt->M Out:=(gSeq (gAsg (je7 2 3) (vR 0))
  (gSeq (gIf (t2 gEq (vR 1) (fC (.str " "))) (gRet (f2 gIx (fL ja2 (jac (vR 2) (jac (cS "operand") fNil))) (fL kIntT (jac (f2 gIn (vR 2) (fL jbq (jac (cS "name") (jac (cS "figures") (jac (cS "nought") fNil))))) fNil)))) gNx)
  (gSeq (gIf (t2 gIn (vR 2) (fL jbq (jac (cS "begin") (jac (cS "want") fNil)))) (gSeq (gIf (DL.tOr (DL.tAnd (t2 gEq (vR 1) (cS "-")) (t2 gEq (vR 2) (cS "begin"))) (t2 gEq (vR 1) (fC (.str "(")))) (gRet (f2 gIx (fL ja2 (jac (cS "want") (jac (cS "begin") fNil))) (fL kIntT (jac (f2 gEq (vR 1) (fC (.str "("))) fNil)))) gNx)
  (gSeq (gIf (t2 gEq (vR 1) (cS "0")) (gRet (cS "nought")) gNx)
  (gRet (f2 gIx (fL ja2 (jac (cS "") (jac (cS "figures") (jac (cS "name") fNil)))) (f2 gCat (fL kIntT (jac (f2 gInS (vR 1) (cS "123456789")) fNil)) (f2 jci (cI 2) (fL kIntT (jac (f2 gInS (vR 1) (cS "abcdefghijklmnopqrstuvwxyz")) fNil)))))))) gNx)
  (gSeq (gIf (DL.tAnd (t2 gEq (vR 2) (cS "figures")) (t2 gInS (vR 1) (cS "0123456789"))) (gRet (cS "figures")) gNx)
  (gSeq (gIf (DL.tAnd (t2 gEq (vR 2) (cS "name")) (DL.tAnd (t2 gInS (vR 1) (cS "abcdefghijklmnopqrstuvwxyz")) (t2 gLt (vR 3) (cI 10)))) (gRet (cS "name")) gNx)
  (gRet (f2 gIx (fL ja2 (jac (cS "") (jac (cS "want") (jac (cS "operand") fNil)))) (f2 gCat (fL kIntT (jac (f2 gInS (vR 1) (cS "+-*")) fNil)) (f2 jci (cI 2) (fL kIntT (jac (f2 gEq (vR 1) (fC (.str ")"))) fNil)))))))))))
def jfo:List D->M D:=mir 2 4 jeq
def jm7(T:Txt K mg):jdr P w K mg base 1 "_law_step" jh3 ["_law_state","_law_sign","_law_kind","_law_many"] jeq:=fun _ _ _ _ _ _ _ hr=>
 (jag (jru (jab 0) (jik (i:=2) (j:=3) rfl sc_law_step.nd))
  (jag (jcl (jas (ja6 (hu30 hr)) ja7 (jab 1) jai (jap _)) (jah (jao (jbc jat jav (jbu (jaa (jab 2) (jaa jai jae))) (ja3 jcq jc8 rfl T.b_int jfg (jaa (jeh jfr jmt (jab 2) (jbi (jaa jai (jaa jai (jaa jai jae)))) rfl) jae))))) ja1)
  (jag (jcl (jas jfr jmt (jab 2) (jbi (jaa jai (jaa jai jae))) rfl) (jag (jcl (DW.dt (jup (DW.dt (jic (jas (ja6 (hu30 hr)) ja7 (jab 1) jai (jap _)) (jg6 (jas (ja6 (hu30 hr)) ja7 (jab 2) jai (jap _))))) (jo6 (jas (ja6 (hu30 hr)) ja7 (jab 1) jai (jap _))))) (jah (jao (jbc jat jav (jbu (jaa jai (jaa jai jae))) (ja3 jcq jc8 rfl T.b_int jfg (jaa (jeh (ja6 (hu30 hr)) ja7 (jab 1) jai (jap _)) jae))))) ja1)
  (jag (jcl (jas (ja6 (hu30 hr)) ja7 (jab 1) jai (jap _)) (jah (jao jai)) ja1)
  (jah (jao (jbc jat jav (jbu (jaa jai (jaa jai (jaa jai jae)))) (jam jaj jak (ja3 jcq jc8 rfl T.b_int jfg (jaa (jeh jhi jln (jab 1) jai rfl) jae)) (jam jc5 jcc jaf (ja3 jcq jc8 rfl T.b_int jfg (jaa (jeh jhi jln (jab 1) jai rfl) jae))))))))) ja1)
  (jag (jcl (DW.dt (jic (jas (ja6 (hu30 hr)) ja7 (jab 2) jai (jap _)) (jg6 (jas jhi jln (jab 1) jai rfl)))) (jah (jao jai)) ja1)
  (jag (jcl (DW.dt (jic (jas (ja6 (hu30 hr)) ja7 (jab 2) jai (jap _)) (jic (jas jhi jln (jab 1) jai rfl) (jg6 (jas jji jcw (jab 3) jaf (jap _)))))) (jah (jao jai)) ja1)
  (jah (jao (jbc jat jav (jbu (jaa jai (jaa jai (jaa jai jae)))) (jam jaj jak (ja3 jcq jc8 rfl T.b_int jfg (jaa (jeh jhi jln (jab 1) jai rfl) jae)) (jam jc5 jcc jaf (ja3 jcq jc8 rfl T.b_int jfg (jaa (jeh (ja6 (hu30 hr)) ja7 (jab 1) jai (jap _)) jae))))))))))))
def jq1(T:Txt K mg):Cal P w K mg base 2 "_law_step" 2 jfo:=jca T.f_law_step sc_law_step (jm7 T)
def sc_law_stop:FnScope ["_law_written_here","_law_kind","_law_many","_law_depth","_law_k","_law_found"] ["_law_written_here"] (jad jh4):=.m rfl rfl rfl rfl (by decide +kernel)
def jfz:DSt->M Out:=(gSeq (gSet 5 (jau jfo (jac (fL jbq (jac (vR 1) (jac (vR 2) fNil))) (jac (f2 gIx (vR 0) (vR 4)) fNil))))
  (gSeq (gIf (DL.tOr (t2 gEq (vR 5) (cS "")) (DL.tAnd (t2 gEq (f2 gIx (vR 0) (vR 4)) (fC (.str ")"))) (t2 gEq (vR 3) (cI 0)))) (gRet (vR 4)) gNx)
  (gSeq (gSet 3 (f2 gSub (f2 gCat (vR 3) (fL kIntT (jac (f2 gEq (f2 gIx (vR 0) (vR 4)) (fC (.str "("))) fNil))) (fL kIntT (jac (f2 gEq (f2 gIx (vR 0) (vR 4)) (fC (.str ")"))) fNil))))
  (gSeq (gSet 2 (f2 gIx (fL ja2 (jac (cI 1) (jac (f2 gCat (vR 2) (cI 1)) fNil))) (fL kIntT (jac (f2 gEq (vR 5) (vR 1)) fNil))))
  (gSet 1 (vR 5))))))
def jhq:DSt->M Out:=(gSeq (gSet 1 (cS "begin"))
  (gSeq (gSet 2 (cI 0))
  (gSeq (gSet 3 (cI 0))
  (gSeq (gFor (jha jce (jac (fL kLen (jac (vR 0) fNil)) fNil)) (DL.gName 4) jfz)
  (gSeq (gIf (DL.tOr (t2 gGt (vR 3) (cI 0)) (t2 gIn (vR 1) (fL jbq (jac (cS "begin") (jac (cS "want") fNil))))) (gRet (fL kLen (jac (vR 0) fNil))) gNx)
  (gRet (fC .non)))))))
def jfp:List D->M D:=mir 1 6 jhq
def jm8(T:Txt K mg):jdr P w K mg base 2 "_law_stop" jh4 ["_law_written_here","_law_kind","_law_many","_law_depth","_law_k","_law_found"] jhq:=fun _ _ _ _ _ _ _ hr=>
 (jag (ja0 (i:=1) sc_law_stop.nd jai)
  (jag (ja0 (i:=2) sc_law_stop.nd jaf)
  (jag (ja0 (i:=3) sc_law_stop.nd jaf)
  (jag (jml PassesOwn.never rfl (jhm rfl T.b_range (jaa (jbk jbh jcz rfl T.b_len jd7 (jaa (jab 0) jae)) jae)) (jee (i:=4) sc_law_stop.nd) (jag (ja0 (i:=5) sc_law_stop.nd (jan (jq1 T) (hr.m rfl) (jaa (jbi (jaa (jab 1) (jaa (jab 2) jae))) (jaa (jbc jat jav (jab 0) (jab 4)) jae))))
  (jag (jcl (DW.dt (jup (jas (ja6 (hu30 hr)) ja7 (jab 5) jai (jap _)) (jo6 (DW.dt (jic (jas (ja6 (hu30 hr)) ja7 (jbc jat jav (jab 0) (jab 4)) jai (jap _)) (jg6 (jas (ja6 (hu30 hr)) ja7 (jab 3) jaf (jap _)))))))) (jah (jao (jab 4))) ja1)
  (jag (ja0 (i:=3) sc_law_stop.nd (jam jms jjx (jam jaj jak (jab 3) (ja3 jcq jc8 rfl T.b_int jfg (jaa (jeh (ja6 (hu30 hr)) ja7 (jbc jat jav (jab 0) (jab 4)) jai (jap _)) jae))) (ja3 jcq jc8 rfl T.b_int jfg (jaa (jeh (ja6 (hu30 hr)) ja7 (jbc jat jav (jab 0) (jab 4)) jai (jap _)) jae))))
  (jag (ja0 (i:=2) sc_law_stop.nd (jbc jat jav (jbu (jaa jaf (jaa (jam jaj jak (jab 2) jaf) jae))) (ja3 jcq jc8 rfl T.b_int jfg (jaa (jeh (ja6 (hu30 hr)) ja7 (jab 5) (jab 1) (jap _)) jae))))
  (jah (ja0 (i:=1) sc_law_stop.nd (jab 5))))))))
  (jag (jcl (DW.dt (jup (jas jpq jcw (jab 3) jaf (jap _)) (jo6 (jas jfr jmt (jab 1) (jbi (jaa jai (jaa jai jae))) rfl)))) (jah (jao (jbk jbh jcz rfl T.b_len jd7 (jaa (jab 0) jae)))) ja1)
  (jah (jao jmk)))))))
def jq2(T:Txt K mg):Cal P w K mg base 3 "_law_stop" 1 jfp:=jca T.f_law_stop sc_law_stop (jm8 T)
def jp1:FnScope ["sign"] ["sign"] (jad jgl):=.m rfl rfl rfl rfl (by decide +kernel)
def jim:DSt->M Out:=(gRet (jo8 gLe gLe (cS "a") (vR 0) (cS "z")))
def ja5:List D->M D:=mir 1 1 jim
def jl4(T:Txt K mg):jdr P w K mg base 1 "is_letter" jgl ["sign"] jim:=fun _ _ _ _ _ _ _ hr=>
 (jah (jao (jrs jsb jcw jsb jcw jai (jab 0) jai)))
def jd9(T:Txt K mg):Cal P w K mg base 2 "is_letter" 1 ja5:=jca T.f_is_letter jp1 (jl4 T)
def jp0:FnScope ["sign"] ["sign"] (jad jgk):=.m rfl rfl rfl rfl (by decide +kernel)
def jil:DSt->M Out:=(gRet (jo8 gLe gLe (cS "0") (vR 0) (cS "9")))
def jbw:List D->M D:=mir 1 1 jil
def jl3(T:Txt K mg):jdr P w K mg base 1 "is_figure" jgk ["sign"] jil:=fun _ _ _ _ _ _ _ hr=>
 (jah (jao (jrs jsb jcw jsb jcw jai (jab 0) jai)))
def jhf(T:Txt K mg):Cal P w K mg base 2 "is_figure" 1 jbw:=jca T.f_is_figure jp0 (jl3 T)
def sc_end_of_piece:FnScope ["text","place","end"] ["text","place"] (jad jd5):=.m rfl rfl rfl rfl (by decide +kernel)
def jb0:DSt->M Bool:=(DL.tAnd (t2 gLt (vR 2) (fL kLen (jac (vR 0) fNil))) (DL.tAnd (tTru (jau ja5 (jac (f2 gIx (vR 0) (vR 2)) fNil))) (t2 gLt (f2 gSub (vR 2) (vR 1)) (cI 10))))
def jcx:DSt->M Out:=(gAug 2 gAdd (cI 1))
def jb1:DSt->M Bool:=(DL.tAnd (t2 gLt (vR 2) (fL kLen (jac (vR 0) fNil))) (tTru (jau jbw (jac (f2 gIx (vR 0) (vR 2)) fNil))))
def jcy:DSt->M Out:=(gAug 2 gAdd (cI 1))
def jd3:DSt->M Out:=(gSeq (gSet 2 (f2 gCat (vR 1) (cI 1)))
  (gSeq (gIf (tTru (jau ja5 (jac (f2 gIx (vR 0) (vR 1)) fNil))) (jed jb0 jcx FUEL) (gIf (DL.tAnd (tTru (jau jbw (jac (f2 gIx (vR 0) (vR 1)) fNil))) (t2 gNe (f2 gIx (vR 0) (vR 1)) (cS "0"))) (jed jb1 jcy FUEL) gNx))
  (gRet (vR 2))))
def jc6:List D->M D:=mir 2 3 jd3
def jjp(T:Txt K mg):jdr P w K mg base 2 "end_of_piece" jd5 ["text","place","end"] jd3:=fun _ _ _ _ _ _ _ hr=>
 (jag (ja0 (i:=2) sc_end_of_piece.nd (jam jaj jak (jab 1) jaf))
  (jag (jcl (jib (jan (jd9 T) (hr.m rfl) (jaa (jbc jat jav (jab 0) (jab 1)) jae))) (jah (jrv (fuel:=FUEL) PassesOwn.never (DW.dt (jic (jas jji jcw (jab 2) (jbk jbh jcz rfl T.b_len jd7 (jaa (jab 0) jae)) (jap _)) (jic (jib (jan (jd9 T) (hr.m rfl) (jaa (jbc jat jav (jab 0) (jab 2)) jae))) (jg6 (jas jji jcw (jam jms jjx (jab 2) (jab 1)) (ji2 rfl T.g_NAME_LENGTH.choose_spec) (jap _)))))) (jah (jun (i:=2) sc_end_of_piece.nd (iop_add.or jio) jq6 jaf)))) (jah (jcl (DW.dt (jic (jib (jan (jhf T) (hr.m rfl) (jaa (jbc jat jav (jab 0) (jab 1)) jae))) (jg6 (jas (jvt (hu30 hr)) jvw (jbc jat jav (jab 0) (jab 1)) jai (jap _))))) (jah (jrv (fuel:=FUEL) PassesOwn.never (DW.dt (jic (jas jji jcw (jab 2) (jbk jbh jcz rfl T.b_len jd7 (jaa (jab 0) jae)) (jap _)) (jg6 (jib (jan (jhf T) (hr.m rfl) (jaa (jbc jat jav (jab 0) (jab 2)) jae)))))) (jah (jun (i:=2) sc_end_of_piece.nd (iop_add.or jio) jq6 jaf)))) ja1)))
  (jah (jao (jab 2)))))
def jlj(T:Txt K mg):Cal P w K mg base 3 "end_of_piece" 2 jc6:=jca T.f_end_of_piece sc_end_of_piece (jjp T)
def jp4:FnScope ["sign","wanted","depth"] ["sign","wanted","depth"] (jad jgr):=.m rfl rfl rfl rfl (by decide +kernel)
def jga:DSt->M Out:=(gSeq (gIf (t2 gEq (vR 1) (cS "behind")) (gRet (fOr (f2 gIn (vR 0) (fL jbq (jac (cS "+") (jac (cS "-") (jac (cS "*") fNil))))) (fAnd (f2 gEq (vR 0) (fC (.str ")"))) (f2 gGt (vR 2) (cI 0))))) gNx)
  (gSeq (gIf (t2 gEq (vR 0) (cS "-")) (gRet (f2 gEq (vR 1) (cS "beginning"))) gNx)
  (gRet (fOr (f2 gEq (vR 0) (fC (.str "("))) (fOr (jau ja5 (jac (vR 0) fNil)) (jau jbw (jac (vR 0) fNil)))))))
def jgg:List D->M D:=mir 3 3 jga
def jmc(T:Txt K mg):jdr P w K mg base 2 "may_stand" jgr ["sign","wanted","depth"] jga:=fun _ _ _ _ _ _ _ hr=>
 (jag (jcl (jas (ja6 (hu30 hr)) ja7 (jab 1) (jf2 rfl T.g_BEHIND.choose_spec) (jap _)) (jah (jao (jBe (jeh jfr jmt (jab 0) (jbi (jaa jai (jaa jai (jaa jai jae)))) rfl) (jrt (jzm (jeh (ja6 (hu30 hr)) ja7 (jab 0) jai (jap _)) (jrt (jeh jpq jcw (jab 2) jaf (jap _)))))))) ja1)
  (jag (jcl (jas (ja6 (hu30 hr)) ja7 (jab 0) jai (jap _)) (jah (jao (jeh (ja6 (hu30 hr)) ja7 (jab 1) (jf2 rfl T.g_BEGINNING.choose_spec) (jap _)))) ja1)
  (jah (jao (jBe (jeh (ja6 (hu30 hr)) ja7 (jab 0) jai (jap _)) (jBe (jan (jd9 T) (hr.m rfl) (jaa (jab 0) jae)) (jrt (jan (jhf T) (hr.m rfl) (jaa (jab 0) jae)))))))))
def jpn(T:Txt K mg):Cal P w K mg base 3 "may_stand" 3 jgg:=jca T.f_may_stand jp4 (jmc T)
def jki:FnScope ["self","place"] ["self","place"] (jad jcg):=.m rfl rfl rfl rfl (by decide +kernel)
def jg7:DSt->MS Out:=(jjr xcs "place" (lF (vR 0)) (lF (vR 1)))
def jc1:List D->MS D:=mirE 2 2 jg7
def jix(T:Txt K mg):jm0 P w K mg base 1 "NoText.__init__" jcg ["self","place"] jg7:=fun _ _ _ _ _ _ _ hr=>
 (jcv (jn5 T.errs rfl (jar (jab 0)) (jar (jab 1))))
def jgx(T:Txt K mg):IniXE P w K mg base 2 "NoText" 2 jc1:=jnt T.f_NoText_init__ jki (jix T) (by decide)
def jrb:FnScope ["word"] ["word"] (jad jhz):=.m rfl rfl rfl rfl (by decide +kernel)
def jjs:DSt->M Out:=(gSeq (gIf (t2 gEq (vR 0) (fC (.str "("))) (gRet (cI 1)) gNx)
  (gRet (fIf (t2 gEq (vR 0) (fC (.str ")"))) (f1 gNeg (cI 1)) (cI 0))))
def jfl:List D->M D:=mir 1 1 jjs
def jm2(T:Txt K mg):jdr P w K mg base 1 "depth_by" jhz ["word"] jjs:=fun _ _ _ _ _ _ _ hr=>
 (jag (jcl (jas (ja6 (hu30 hr)) ja7 (jab 0) jai (jap _)) (jah (jao jaf)) ja1)
  (jah (jao (jo5 (jas (ja6 (hu30 hr)) ja7 (jab 0) jai (jap _)) (js9 jmz jj4 jaf) jaf))))
def jqx(T:Txt K mg):Cal P w K mg base 2 "depth_by" 1 jfl:=jca T.f_depth_by jrb (jm2 T)
def jkk:FnScope ["word"] ["word"] (jad jdq):=.m rfl rfl rfl rfl (by decide +kernel)
def jey:DSt->M Out:=(gSeq (gIf (t2 gEq (vR 0) (fC (.str "("))) (gRet (cS "beginning")) gNx)
  (gRet (fIf (t2 gIn (vR 0) (fL jbq (jac (cS "+") (jac (cS "-") (jac (cS "*") fNil))))) (cS "factor") (cS "behind"))))
def jdo:List D->M D:=mir 1 1 jey
def jiz(T:Txt K mg):jdr P w K mg base 1 "wanted_behind" jdq ["word"] jey:=fun _ _ _ _ _ _ _ hr=>
 (jag (jcl (jas (ja6 (hu30 hr)) ja7 (jab 0) jai (jap _)) (jah (jao (jf2 rfl T.g_BEGINNING.choose_spec))) ja1)
  (jah (jao (jo5 (jas jfr jmt (jab 0) (jbi (jaa jai (jaa jai (jaa jai jae)))) rfl) (jf2 rfl T.g_FACTOR.choose_spec) (jf2 rfl T.g_BEHIND.choose_spec)))))
def jkg(T:Txt K mg):Cal P w K mg base 2 "wanted_behind" 1 jdo:=jca T.f_wanted_behind jkk (jiz T)
def sc_pieces_of:FnScope ["text","pieces","depth","wanted","place","end","word"] ["text"] (jad jd0):=.m rfl rfl rfl rfl (by decide +kernel)
def jec:DSt->MS Bool:=(lF (t2 gLt (vR 4) (fL kLen (jac (vR 0) fNil))))
def jb4:DSt->MS Out:=(eSeq (lF (gSet 5 (jau jc6 (jac (vR 0) (jac (vR 4) fNil)))))
  (eSeq (lF (gSet 6 (fSl (vR 0) (jcj (vR 4)) (jcj (vR 5)))))
  (eSeq (eIf (lF (t2 gNe (vR 6) (fC (.str " ")))) (eSeq (eIf (lF (DL.tNot (tTru (jau jgg (jac (f2 gIx (vR 6) (cI 0)) (jac (vR 3) (jac (vR 2) fNil))))))) (jgu xcs (jfa "NoText" jc1 (lF (jac (vR 4) fNil)))) eNx)
  (eSeq (lF (gApp 1 (fL jbq (jac (vR 6) (jac (vR 4) fNil)))))
  (eSeq (lF (gAug 2 gAdd (jau jfl (jac (vR 6) fNil))))
  (lF (gSet 3 (jau jdo (jac (vR 6) fNil))))))) eNx)
  (lF (gSet 4 (vR 5))))))
def jgc:DSt->MS Out:=(eSeq (lF (gSet 1 (fL ja2 fNil)))
  (eSeq (lF (gSet 2 (cI 0)))
  (eSeq (lF (gSet 3 (cS "beginning")))
  (eSeq (lF (gSet 4 (cI 0)))
  (eSeq (jej jec jb4 FUEL)
  (eSeq (eIf (lF (DL.tOr (t2 gNe (vR 3) (cS "behind")) (t2 gGt (vR 2) (cI 0)))) (jgu xcs (jfa "NoText" jc1 (lF (jac (fL kLen (jac (vR 0) fNil)) fNil)))) eNx)
  (lF (gRet (vR 1)))))))))
def jc2:List D->MS D:=mirE 1 7 jgc
def jme(T:Txt K mg)(f:Addr)(b7:Value)(A:Around)(outer:List Env)(s:Shared)(H:Hp)(E:XK)(hr:Room 3 (A.deeper (PyProof.Rows.envOfC "pieces_of" (jad jd0) s.heap.objs.size f b7))) :
  MSsr (cxOf (CX1 P w) P w K mg base ["text","pieces","depth","wanted","place","end","word"] "pieces_of" (jad jd0) f b7 A outer s H E) [] [] [] E (jaw jd0) jgc :=
 (jbd (jdp (jbj (jzp (i:=1) sc_pieces_of.nd jae)))
  (jbd (jdp (jbj (ja0 (i:=2) sc_pieces_of.nd jaf)))
  (jbd (jdp (jbj (ja0 (i:=3) sc_pieces_of.nd (jf2 rfl T.g_BEGINNING.choose_spec))))
  (jbd (jdp (jbj (ja0 (i:=4) sc_pieces_of.nd jaf)))
  (jbd (jvl (fuel:=FUEL) PassesOwn.leaving (jfe (jas jji jcw (jab 4) (jbk jbh jcz rfl T.b_len jd7 (jaa (jab 0) jae)) (jap _))) (jbd (jdp (jbj (ja0 (i:=5) sc_pieces_of.nd (jan (jlj T) (hr.m rfl) (jaa (jab 0) (jaa (jab 4) jae))))))
  (jbd (jdp (jbj (ja0 (i:=6) sc_pieces_of.nd (jc9 (jab 0) (jdd (jab 4)) (jdd (jab 5))))))
  (jbd (jj8 (jfe (jas (jvt (hu30 hr)) jvw (jab 6) jai (jap _))) (jbd (jj8 (jfe (jEf (jib (jan (jpn T) (hr.m rfl) (jaa (jbc jat jav (jab 6) jaf) (jaa (jab 3) (jaa (jab 2) jae))))))) (jbn (jjf T.errs rfl joo (jkp (jgx T) (hr.m rfl) (jb9 (jaa (jab 4) jae))))) (jn6 jfd))
  (jbd (jdp (jbj (jzo (i:=1) rfl (jbi (jaa (jab 6) (jaa (jab 4) jae))))))
  (jbd (jdp (jbj (jun (i:=2) sc_pieces_of.nd (iop_add.or jio) jq6 (jan (jqx T) (hr.m rfl) (jaa (jab 6) jae)))))
  (jbn (jdp (jbj (ja0 (i:=3) sc_pieces_of.nd (jan (jkg T) (hr.m rfl) (jaa (jab 6) jae))))))))) (jn6 jfd))
  (jbn (jdp (jbj (ja0 (i:=4) sc_pieces_of.nd (jab 5)))))))))
  (jbd (jj8 (jfe (DW.dt (jup (jas (jvt (hu30 hr)) jvw (jab 3) (jf2 rfl T.g_BEHIND.choose_spec) (jap _)) (jo6 (jas jpq jcw (jab 2) jaf (jap _)))))) (jbn (jjf T.errs rfl joo (jkp (jgx T) (hr.m rfl) (jb9 (jaa (jbk jbh jcz rfl T.b_len jd7 (jaa (jab 0) jae)) jae))))) (jn6 jfd))
  (jr9 (O':=[]) (by decide) (jbn (jdp (jbj (jao (jab 1))))))))))))
def jpp(T:Txt K mg):CalR P w K mg base 4 "pieces_of" 1 jc2:=jng T.f_pieces_of sc_pieces_of (jme T)
def jkh:FnScope ["self","name","place"] ["self","name","place"] (jad jcf):=.m rfl rfl rfl rfl (by decide +kernel)
def jdl:DSt->MS Out:=(eSeq (jjr xcs "name" (lF (vR 0)) (lF (vR 1)))
  (jjr xcs "place" (lF (vR 0)) (lF (vR 2))))
def jcd:List D->MS D:=mirE 3 3 jdl
def jiw(T:Txt K mg):jm0 P w K mg base 1 "NoName.__init__" jcf ["self","name","place"] jdl:=fun _ _ _ _ _ _ _ hr=>
 (jbm (jn5 T.errs rfl (jar (jab 0)) (jar (jab 1)))
  (jcv (jn5 T.errs rfl (jar (jab 0)) (jar (jab 2)))))
def jkf(T:Txt K mg):IniXE P w K mg base 2 "NoName" 3 jcd:=jnt T.f_NoName_init__ jkh (jiw T) (by decide)
def jj2:FnScope ["self","width"] ["self","width"] (jad jb2):=.m rfl rfl rfl rfl (by decide +kernel)
def jef:DSt->MS Out:=(eSeq (ePut ["OpenSum"] "total" (lF (vR 0)) (lF (fL jbq (jac (fL kTuple (jac (fRep (jac (cI 0) fNil) (vR 1)) fNil)) (jac (cI 0) fNil)))))
  (eSeq (ePut ["OpenSum"] "term" (lF (vR 0)) (mGet ["OpenSum"] "total" (lF (vR 0))))
  (eSeq (ePut ["OpenSum"] "term_sign" (lF (vR 0)) (lF (cI 1)))
  (ePut ["OpenSum"] "star" (lF (vR 0)) (lF (fC .non))))))
def ja9:List D->MS D:=mirE 2 2 jef
def jie(T:Txt K mg):jm0 P w K mg base 1 "OpenSum.__init__" jb2 ["self","width"] jef:=fun _ _ _ _ _ _ _ hr=>
 (jbm (jje (T.c_OpenSum.is (by decide +kernel)) (jar (jab 0)) (jar (jbi (jaa (ja3 jb5 jd8 rfl T.b_tuple je8 (jaa (jul (jaa jaf jae) (jab 1)) jae)) (jaa jaf jae)))))
  (jbm (jje (T.c_OpenSum.is (by decide +kernel)) (jar (jab 0)) (jld (T.c_OpenSum.is (by decide +kernel)) (jar (jab 0))))
  (jbm (jje (T.c_OpenSum.is (by decide +kernel)) (jar (jab 0)) (jar jaf))
  (jcv (jje (T.c_OpenSum.is (by decide +kernel)) (jar (jab 0)) (jar jmk))))))
def jfq(T:Txt K mg):IniE P w K mg base 2 "OpenSum" 2 ja9:=jB0 T.f_OpenSum_init__ jj2 (jie T)
def jy4:FnScope ["form","number"] ["form","number"] (jad jlt):=.m rfl rfl rfl rfl (by decide +kernel)
def jnf:DSt->M D:=(f2 jci (vR 0) (vR 1))
def jql:DSt->M Out:=(gRet (fL jbq (jac (fL kTuple (jac (jnk 1 [("number",1)] (ji8 (f2 gIx (vR 0) (cI 0))) (DL.gName 0) tYes jnf) fNil)) (jac (f2 jci (f2 gIx (vR 0) (cI 1)) (vR 1)) fNil))))
def jjv:List D->M D:=mir 2 2 jql
def js4(T:Txt K mg):jdr P w K mg base 1 "times" jlt ["form","number"] jql:=fun _ _ _ _ _ _ _ hr=>
 (jah (jao (jbi (jaa (ja3 jb5 jd8 rfl T.b_tuple je8 (jaa (jij (own:=["coefficient"]) (caps:=[("number",1)]) rfl (jig (N:=["form","number"]) (osc:=jad jlt) rfl rfl rfl (by decide +kernel)) (jkz (jbc jat jav (jab 0) jaf)) (fun _ _ _ _=>(jee (i:=0) (show (["coefficient","number"]:List Str).Nodup from by decide +kernel))) (fun _ _ _ _=>jii) (fun _ _ _ _=>(jam jc5 jcc (jab 0) (jab 1)))) jae)) (jaa (jam jc5 jcc (jbc jat jav (jab 0) jaf) (jab 1)) jae)))))
def jn8(T:Txt K mg):Cal P w K mg base 2 "times" 2 jjv:=jca T.f_times jy4 (js4 T)
def jrc:FnScope ["form"] ["form"] (jad jfu):=.m rfl rfl rfl rfl (by decide +kernel)
def jif:DSt->M D:=(f2 gEq (vR 0) (cI 0))
def jjt:DSt->M Out:=(gRet (fL kAll (jac (jnk 1 [] (ji8 (f2 gIx (vR 0) (cI 0))) (DL.gName 0) tYes jif) fNil)))
def jfm:List D->M D:=mir 1 1 jjt
def jm3(T:Txt K mg):jdr P w K mg base 1 "is_plain" jfu ["form"] jjt:=fun _ _ _ _ _ _ _ hr=>
 (jah (jao (jbk (jud rfl) jBa rfl T.b_all jD6 (jaa (jij (own:=["coefficient"]) (caps:=[]) rfl (jig (N:=["form"]) (osc:=jad jfu) rfl rfl rfl (by decide +kernel)) (jkz (jbc jat jav (jab 0) jaf)) (fun _ _ _ _=>(jee (i:=0) (show (["coefficient"]:List Str).Nodup from by decide +kernel))) (fun _ _ _ _=>jii) (fun _ _ _ _=>(jeh (ja6 (hu30 hr)) ja7 (jab 0) jaf (jap _)))) jae))))
def jll(T:Txt K mg):Cal P w K mg base 2 "is_plain" 1 jfm:=jca T.f_is_plain jrc (jm3 T)
def jjl:FnScope ["self","place"] ["self","place"] (jad jbt):=.m rfl rfl rfl rfl (by decide +kernel)
def jfi:DSt->MS Out:=(jjr xcs "place" (lF (vR 0)) (lF (vR 1)))
def jdv:List D->MS D:=mirE 2 2 jfi
def jh7(T:Txt K mg):jm0 P w K mg base 1 "NotPlain.__init__" jbt ["self","place"] jfi:=fun _ _ _ _ _ _ _ hr=>
 (jcv (jn5 T.errs rfl (jar (jab 0)) (jar (jab 1))))
def jjh(T:Txt K mg):IniXE P w K mg base 2 "NotPlain" 2 jdv:=jnt T.f_NotPlain_init__ jjl (jh7 T) (by decide)
def jtr:FnScope ["left","right","place"] ["left","right","place"] (jad jfv):=.m rfl rfl rfl rfl (by decide +kernel)
def ji7:DSt->MS Out:=(eSeq (lF (gIf (tTru (jau jfm (jac (vR 1) fNil))) (gRet (jau jjv (jac (vR 0) (jac (f2 gIx (vR 1) (cI 1)) fNil)))) gNx))
  (eSeq (lF (gIf (tTru (jau jfm (jac (vR 0) fNil))) (gRet (jau jjv (jac (vR 1) (jac (f2 gIx (vR 0) (cI 1)) fNil)))) gNx))
  (jgu xcs (jfa "NotPlain" jdv (lF (jac (vR 2) fNil))))))
def jhe:List D->MS D:=mirE 3 3 ji7
def jox(T:Txt K mg)(f:Addr)(b7:Value)(A:Around)(outer:List Env)(s:Shared)(H:Hp)(E:XK)(hr:Room 3 (A.deeper (PyProof.Rows.envOfC "product" (jad jfv) s.heap.objs.size f b7))) :
  MSsr (cxOf (CX1 P w) P w K mg base ["left","right","place"] "product" (jad jfv) f b7 A outer s H E) [] [] [] E (jaw jfv) ji7 :=
 (jbd (jdp (jbj (jcl (jib (jan (jll T) (hr.m rfl) (jaa (jab 1) jae))) (jah (jao (jan (jn8 T) (hr.m rfl) (jaa (jab 0) (jaa (jbc jat jav (jab 1) jaf) jae))))) ja1)))
  (jbd (jdp (jbj (jcl (jib (jan (jll T) (hr.m rfl) (jaa (jab 0) jae))) (jah (jao (jan (jn8 T) (hr.m rfl) (jaa (jab 1) (jaa (jbc jat jav (jab 0) jaf) jae))))) ja1)))
  (jbn (jjf T.errs rfl joo (jkp (jjh T) (hr.m rfl) (jb9 (jaa (jab 2) jae)))))))
def jtl(T:Txt K mg):CalR P w K mg base 4 "product" 3 jhe:=jng T.f_product jtr (jox T)
def jg0:FnScope ["self","form"] ["self","form"] (jad jaz):=.m rfl rfl rfl rfl (by decide +kernel)
def jc0:DSt->MS Out:=(eIf (mB (m2 gIs (mGet ["OpenSum"] "star" (lF (vR 0))) (lF (fC .non)))) (ePut ["OpenSum"] "term" (lF (vR 0)) (jlc jjv (jhd (lF (vR 1)) (jhd (mGet ["OpenSum"] "term_sign" (lF (vR 0))) (lF fNil))))) (ePut ["OpenSum"] "term" (lF (vR 0)) (jds jhe (jhd (mGet ["OpenSum"] "term" (lF (vR 0))) (jhd (lF (vR 1)) (jhd (mGet ["OpenSum"] "star" (lF (vR 0))) (lF fNil)))))))
def ja4:List D->MS D:=mirE 2 2 jc0
def jff(T:Txt K mg)(f:Addr)(b7:Value)(A:Around)(outer:List Env)(s:Shared)(H:Hp)(E:XK)(hr:Room 4 (A.deeper (PyProof.Rows.envOfC "OpenSum.take_factor" (jad jaz) s.heap.objs.size f b7))) :
  MSsr (cxOf (CX1 P w) P w K mg base ["self","form"] "OpenSum.take_factor" (jad jaz) f b7 A outer s H E) [] [] [] E (jaw jaz) jc0 :=
 (jbn (jj8 (jFo jz7 jz8 (jld (T.c_OpenSum.is (by decide +kernel)) (jar (jab 0))) (jar jmk) (jap _)) (jbn (jdp (jje (T.c_OpenSum.is (by decide +kernel)) (jar (jab 0)) (jnz (jn8 T) (hr.m rfl) (jfc (jar (jab 1)) (jfc (jld (T.c_OpenSum.is (by decide +kernel)) (jar (jab 0))) (jb9 jae))))))) (jbn (jCd (T.c_OpenSum.is (by decide +kernel)) (jar (jab 0)) (jn1 (jtl T) (hr.m rfl) joo (jfc (jld (T.c_OpenSum.is (by decide +kernel)) (jar (jab 0))) (jfc (jar (jab 1)) (jfc (jld (T.c_OpenSum.is (by decide +kernel)) (jar (jab 0))) (jb9 jae)))))))))
def jdt(T:Txt K mg):MetR P w K mg base 5 "OpenSum" "take_factor" 2 ja4:=jCa T.f_OpenSum_take_factor jg0 (jff T)
def jy3:FnScope ["left","right"] ["left","right"] (jad jls):=.m rfl rfl rfl rfl (by decide +kernel)
def jne:DSt->M D:=(f2 gCat (vR 0) (vR 1))
def jqk:DSt->M Out:=(gRet (fL jbq (jac (fL kTuple (jac (jnk 2 [] (jha jgt (jac (f2 gIx (vR 0) (cI 0)) (jac (f2 gIx (vR 1) (cI 0)) fNil))) (je7 0 1) tYes jne) fNil)) (jac (f2 gCat (f2 gIx (vR 0) (cI 1)) (f2 gIx (vR 1) (cI 1))) fNil))))
def jnx:List D->M D:=mir 2 2 jqk
def js3(T:Txt K mg):jdr P w K mg base 1 "added" jls ["left","right"] jqk:=fun _ _ _ _ _ _ _ hr=>
 (jah (jao (jbi (jaa (ja3 jb5 jd8 rfl T.b_tuple je8 (jaa (jij (own:=["a","b"]) (caps:=[]) rfl (jig (N:=["left","right"]) (osc:=jad jls) rfl rfl rfl (by decide +kernel)) (jzn rfl T.b_zip (jaa (jbc jat jav (jab 0) jaf) (jaa (jbc jat jav (jab 1) jaf) jae))) (fun _ _ _ _=>(jik (i:=0) (j:=1) rfl (show (["a","b"]:List Str).Nodup from by decide +kernel))) (fun _ _ _ _=>jii) (fun _ _ _ _=>(jam jaj jak (jab 0) (jab 1)))) jae)) (jaa (jam jaj jak (jbc jat jav (jab 0) jaf) (jbc jat jav (jab 1) jaf)) jae)))))
def jyg(T:Txt K mg):Cal P w K mg base 2 "added" 2 jnx:=jca T.f_added jy3 (js3 T)
def jkj:FnScope ["self"] ["self"] (jad jch):=.m rfl rfl rfl rfl (by decide +kernel)
def jew:DSt->MS Out:=(eRet (jlc jnx (jhd (mGet ["OpenSum"] "total" (lF (vR 0))) (jhd (mGet ["OpenSum"] "term" (lF (vR 0))) (lF fNil)))))
def jba:List D->MS D:=mirE 1 1 jew
def jiy(T:Txt K mg):jm0 P w K mg base 2 "OpenSum.whole" jch ["self"] jew:=fun _ _ _ _ _ _ _ hr=>
 (jcv (jr7 (jnz (jyg T) (hr.m rfl) (jfc (jld (T.c_OpenSum.is (by decide +kernel)) (jar (jab 0))) (jfc (jld (T.c_OpenSum.is (by decide +kernel)) (jar (jab 0))) (jb9 jae))))))
def jeg(T:Txt K mg):MetE P w K mg base 3 "OpenSum" "whole" 1 jba:=jvj T.f_OpenSum_whole jkj (jiy T)
def jia:FnScope ["self","sign","place"] ["self","sign","place"] (jad jbf):=.m rfl rfl rfl rfl (by decide +kernel)
def jde:DSt->MS Out:=(eIf (lF (t2 gEq (vR 1) (cS "*"))) (ePut ["OpenSum"] "star" (lF (vR 0)) (lF (vR 2))) (eSeq (ePut ["OpenSum"] "total" (lF (vR 0)) (jkd "OpenSum" "whole" jba (lF (vR 0)) (lF fNil)))
  (eSeq (ePut ["OpenSum"] "term_sign" (lF (vR 0)) (lF (fIf (t2 gEq (vR 1) (cS "-")) (f1 gNeg (cI 1)) (cI 1))))
  (ePut ["OpenSum"] "star" (lF (vR 0)) (lF (fC .non))))))
def jbv:List D->MS D:=mirE 3 3 jde
def jgy(T:Txt K mg):jm0 P w K mg base 3 "OpenSum.take_sign" jbf ["self","sign","place"] jde:=fun _ _ _ _ _ _ _ hr=>
 (jcv (jqw (jfe (jas (ja6 (hu30 hr)) ja7 (jab 1) jai (jap _))) (jcv (jje (T.c_OpenSum.is (by decide +kernel)) (jar (jab 0)) (jar (jab 2)))) (jbm (jje (T.c_OpenSum.is (by decide +kernel)) (jar (jab 0)) (jn0 (jeg T) (hr.m rfl) (jar (jab 0))))
  (jbm (jje (T.c_OpenSum.is (by decide +kernel)) (jar (jab 0)) (jar (jo5 (jas (ja6 (hu30 hr)) ja7 (jab 1) jai (jap _)) (js9 jmz jj4 jaf) jaf)))
  (jcv (jje (T.c_OpenSum.is (by decide +kernel)) (jar (jab 0)) (jar jmk)))))))
def jh9(T:Txt K mg):MetE P w K mg base 4 "OpenSum" "take_sign" 3 jbv:=jvj T.f_OpenSum_take_sign jia (jgy T)
def sc_number_of_figures:FnScope ["word","first","number","place"] ["word"] (jad jcp):=.m rfl rfl rfl rfl (by decide +kernel)
def jc4:DSt->M Out:=(gSet 2 (f2 gCat (f2 jci (vR 2) (cI 1000000000000000000)) (fL kIntT (jac (fSl (vR 0) (jcj (vR 3)) (jcj (f2 gCat (vR 3) (cI 18)))) fNil))))
def jcm:DSt->M Out:=(gSeq (gSet 1 (f2 gMod (fL kLen (jac (vR 0) fNil)) (cI 18)))
  (gSeq (gSet 2 (fIf (t2 gEq (vR 1) (cI 0)) (cI 0) (fL kIntT (jac (fSl (vR 0) jir (jcj (vR 1))) fNil))))
  (gSeq (gFor (jha jft (jac (vR 1) (jac (fL kLen (jac (vR 0) fNil)) (jac (cI 18) fNil)))) (DL.gName 3) jc4)
  (gRet (vR 2)))))
def jbx:List D->M D:=mir 1 4 jcm
def jgz(T:Txt K mg):jdr P w K mg base 1 "number_of_figures" jcp ["word","first","number","place"] jcm:=fun _ _ _ _ _ _ _ hr=>
 (jag (ja0 (i:=1) sc_number_of_figures.nd (jam jc3 jbz (jbk jbh jcz rfl T.b_len jd7 (jaa (jab 0) jae)) (ji2 rfl T.g_PART_FIGURES.choose_spec)))
  (jag (ja0 (i:=2) sc_number_of_figures.nd (jo5 (jas (ja6 (hu30 hr)) ja7 (jab 1) jaf (jap _)) jaf (ja3 jcq jc8 rfl T.b_int jfg (jaa (jc9 (jab 0) jf3 (jdd (jab 1))) jae))))
  (jag (jml PassesOwn.never rfl (jum rfl T.b_range (jaa (jab 1) (jaa (jbk jbh jcz rfl T.b_len jd7 (jaa (jab 0) jae)) (jaa (ji2 rfl T.g_PART_FIGURES.choose_spec) jae)))) (jee (i:=3) sc_number_of_figures.nd) (jah (ja0 (i:=2) sc_number_of_figures.nd (jam jaj jak (jam jc5 jcc (jab 2) (ji2 rfl T.g_PART_SIZE.choose_spec)) (ja3 jcq jc8 rfl T.b_int jfg (jaa (jc9 (jab 0) (jdd (jab 3)) (jdd (jam jaj jak (jab 3) (ji2 rfl T.g_PART_FIGURES.choose_spec)))) jae))))))
  (jah (jao (jab 2))))))
def jei(T:Txt K mg):Cal P w K mg base 2 "number_of_figures" 1 jbx:=jca T.f_number_of_figures sc_number_of_figures (jgz T)
def jp5:FnScope ["word"] ["word"] (jad jgs):=.m rfl rfl rfl rfl (by decide +kernel)
def jgb:DSt->M Out:=(gSeq (gIf (tTru (fSm jnp (vR 0) (cS "-"))) (gRet (f1 gNeg (jau jbx (jac (fSl (vR 0) (jcj (cI 1)) jir) fNil)))) gNx)
  (gRet (jau jbx (jac (vR 0) fNil))))
def jgh:List D->M D:=mir 1 1 jgb
def jmd(T:Txt K mg):jdr P w K mg base 2 "number_of" jgs ["word"] jgb:=fun _ _ _ _ _ _ _ hr=>
 (jag (jcl (jib (jHw jwv jtv (jab 0) jai)) (jah (jao (js9 jmz jj4 (jan (jei T) (hr.m rfl) (jaa (jc9 (jab 0) (jdd jaf) jf3) jae))))) ja1)
  (jah (jao (jan (jei T) (hr.m rfl) (jaa (jab 0) jae)))))
def jpo(T:Txt K mg):Cal P w K mg base 3 "number_of" 1 jgh:=jca T.f_number_of jp5 (jmd T)
def jlv:FnScope ["names","word"] ["names","word"] (jad jc7):=.m rfl rfl rfl rfl (by decide +kernel)
def jdi:DSt->M D:=(fIf (t2 gEq (vR 0) (vR 1)) (cI 1) (cI 0))
def jd4:DSt->M Out:=(gSeq (gIf (tTru (jau ja5 (jac (f2 gIx (vR 1) (cI 0)) fNil))) (gRet (fL jbq (jac (fL kTuple (jac (jnk 1 [("word",1)] (ji8 (vR 0)) (DL.gName 0) tYes jdi) fNil)) (jac (cI 0) fNil)))) gNx)
  (gRet (fL jbq (jac (fL kTuple (jac (fRep (jac (cI 0) fNil) (fL kLen (jac (vR 0) fNil))) fNil)) (jac (jau jgh (jac (vR 1) fNil)) fNil)))))
def jct:List D->M D:=mir 2 2 jd4
def jjq(T:Txt K mg):jdr P w K mg base 3 "form_of_word" jc7 ["names","word"] jd4:=fun _ _ _ _ _ _ _ hr=>
 (jag (jcl (jib (jan (jd9 T) (hr.m rfl) (jaa (jbc jat jav (jab 1) jaf) jae))) (jah (jao (jbi (jaa (ja3 jb5 jd8 rfl T.b_tuple je8 (jaa (jij (own:=["name"]) (caps:=[("word",1)]) rfl (jig (N:=["names","word"]) (osc:=jad jc7) rfl rfl rfl (by decide +kernel)) (jkz (jab 0)) (fun _ _ _ _=>(jee (i:=0) (show (["name","word"]:List Str).Nodup from by decide +kernel))) (fun _ _ _ _=>jii) (fun _ _ _ _=>(jo5 (jas (ja6 (hu30 hr)) ja7 (jab 0) (jab 1) (jap _)) jaf jaf))) jae)) (jaa jaf jae))))) ja1)
  (jah (jao (jbi (jaa (ja3 jb5 jd8 rfl T.b_tuple je8 (jaa (jul (jaa jaf jae) (jbk jbh jcz rfl T.b_len jd7 (jaa (jab 0) jae))) jae)) (jaa (jan (jpo T) (hr.m rfl) (jaa (jab 1) jae)) jae))))))
def jlk(T:Txt K mg):Cal P w K mg base 4 "form_of_word" 2 jct:=jca T.f_form_of_word jlv (jjq T)
def sc_reckoned:FnScope ["names","pieces","sums","word","place","inner"] ["names","pieces"] (jad jet):=.m rfl rfl rfl rfl (by decide +kernel)
def jbo:DSt->MS Out:=(eIf (lF (t2 gEq (vR 3) (fC (.str "(")))) (eApp 2 (jpf "OpenSum" ja9 (lF (jac (fL kLen (jac (vR 0) fNil)) fNil)))) (eIf (lF (t2 gEq (vR 3) (fC (.str ")")))) (eSeq (ePop 5 2)
  (jqg (jkd "OpenSum" "take_factor" ja4 (lF (f2 gIx (vR 2) (f1 gNeg (cI 1)))) (jhd (jkd "OpenSum" "whole" jba (lF (vR 5)) (lF fNil)) (lF fNil))))) (eIf (lF (t2 gIn (vR 3) (fL jbq (jac (cS "+") (jac (cS "-") (jac (cS "*") fNil)))))) (jqg (jkd "OpenSum" "take_sign" jbv (lF (f2 gIx (vR 2) (f1 gNeg (cI 1)))) (lF (jac (vR 3) (jac (vR 4) fNil))))) (jqg (jkd "OpenSum" "take_factor" ja4 (lF (f2 gIx (vR 2) (f1 gNeg (cI 1)))) (lF (jac (jau jct (jac (vR 0) (jac (vR 3) fNil))) fNil)))))))
def jht:DSt->MS Out:=(eSeq (eSet 2 (mL ja2 (jhd (jpf "OpenSum" ja9 (lF (jac (fL kLen (jac (vR 0) fNil)) fNil))) (lF fNil))))
  (eSeq (eFor (lF (ji8 (vR 1))) (je7 3 4) jbo)
  (eRet (jkd "OpenSum" "whole" jba (lF (f2 gIx (vR 2) (cI 0))) (lF fNil)))))
def jcu:List D->MS D:=mirE 2 6 jht
def jnc(T:Txt K mg)(f:Addr)(b7:Value)(A:Around)(outer:List Env)(s:Shared)(H:Hp)(E:XK)(hr:Room 5 (A.deeper (PyProof.Rows.envOfC "reckoned" (jad jet) s.heap.objs.size f b7))) :
  MSsr (cxOf (CX1 P w) P w K mg base ["names","pieces","sums","word","place","inner"] "reckoned" (jad jet) f b7 A outer s H E) [] [] [] E (jaw jet) jht :=
 (jbd (jdp (jFl (i:=2) sc_reckoned.nd (jfc (jvh (jfq T) (hr.m rfl) (jb9 (jaa (jbk jbh jcz rfl T.b_len jd7 (jaa (jab 0) jae)) jae))) (jb9 jae))))
  (jbd (jvk PassesOwn.leaving rfl (jqu (jkz (jab 1))) (jik (i:=3) (j:=4) rfl sc_reckoned.nd) (jbn (jj8 (jfe (jas (ja6 (hu30 hr)) ja7 (jab 3) jai (jap _))) (jbn (jdp (jFj (i:=2) rfl (jvh (jfq T) (hr.m rfl) (jb9 (jaa (jbk jbh jcz rfl T.b_len jd7 (jaa (jab 0) jae)) jae)))))) (jbn (jj8 (jfe (jas (ja6 (hu30 hr)) ja7 (jab 3) jai (jap _))) (jbd (jdp (jFm (i:=5) (j:=2) sc_reckoned.nd rfl))
  (jbn (jr8 (jr6 (jdt T) (hr.m rfl) joo (jar (juk 2 rfl (js9 jmz jj4 jaf))) (jfc (jn0 (jeg T) (hr.m rfl) (jar (jab 5))) (jb9 jae)))))) (jbn (jj8 (jfe (jas jfr jmt (jab 3) (jbi (jaa jai (jaa jai (jaa jai jae)))) rfl)) (jbn (jdp (jCb (jB9 (jh9 T) (hr.m rfl) (jar (juk 2 rfl (js9 jmz jj4 jaf))) (jb9 (jaa (jab 3) (jaa (jab 4) jae))))))) (jbn (jr8 (jr6 (jdt T) (hr.m rfl) joo (jar (juk 2 rfl (js9 jmz jj4 jaf))) (jb9 (jaa (jan (jlk T) (hr.m rfl) (jaa (jab 0) (jaa (jab 3) jae))) jae))))))))))))
  (jr9 (O':=[]) (by decide) (jbn (jdp (jr7 (jn0 (jeg T) (hr.m rfl) (jar (jbc jat jav (jab 2) jaf)))))))))
def jq5(T:Txt K mg):CalR P w K mg base 6 "reckoned" 2 jcu:=jng T.f_reckoned sc_reckoned (jnc T)
def sc_read_sum:FnScope ["names","text","pieces","word","place"] ["names","text"] (jad jes):=.m rfl rfl rfl rfl (by decide +kernel)
def jck:DSt->MS Out:=(eIf (lF (DL.tAnd (tTru (jau ja5 (jac (f2 gIx (vR 3) (cI 0)) fNil))) (t2 ji6 (vR 3) (vR 0)))) (jgu xcs (jfa "NoName" jcd (lF (jac (vR 3) (jac (vR 4) fNil))))) eNx)
def jhs:DSt->MS Out:=(eSeq (eSet 2 (jds jc2 (lF (jac (vR 1) fNil))))
  (eSeq (eFor (lF (ji8 (vR 2))) (je7 3 4) jck)
  (eRet (jds jcu (lF (jac (vR 0) (jac (vR 2) fNil)))))))
def jer:List D->MS D:=mirE 2 5 jhs
def jnb(T:Txt K mg)(f:Addr)(b7:Value)(A:Around)(outer:List Env)(s:Shared)(H:Hp)(E:XK)(hr:Room 6 (A.deeper (PyProof.Rows.envOfC "read_sum" (jad jes) s.heap.objs.size f b7))) :
  MSsr (cxOf (CX1 P w) P w K mg base ["names","text","pieces","word","place"] "read_sum" (jad jes) f b7 A outer s H E) [] [] [] E (jaw jes) jhs :=
 (jbd (jCf (i:=2) sc_read_sum.nd (jn1 (jpp T) (hr.m rfl) joo (jb9 (jaa (jab 1) jae))))
  (jbd (jvk PassesOwn.leaving rfl (jqu (jkz (jab 2))) (jik (i:=3) (j:=4) rfl sc_read_sum.nd) (jbn (jj8 (jfe (DW.dt (jic (jib (jan (jd9 T) (hr.m rfl) (jaa (jbc jat jav (jab 3) jaf) jae))) (jg6 (jas jj9 jpr (jab 3) (jab 0) rfl))))) (jbn (jjf T.errs rfl joo (jkp (jkf T) (hr.m rfl) (jb9 (jaa (jab 3) (jaa (jab 4) jae)))))) (jn6 jfd))))
  (jbn (jCe (jn1 (jq5 T) (hr.m rfl) joo (jb9 (jaa (jab 0) (jaa (jab 2) jae))))))))
def jq4(T:Txt K mg):CalR P w K mg base 7 "read_sum" 2 jer:=jng T.f_read_sum sc_read_sum (jnb T)
def sc_law_kept:FnScope ["_law_names_here","_law_written_here","_law_kept_here","e"] ["_law_names_here","_law_written_here"] (jad jh1):=.m rfl rfl rfl rfl (by decide +kernel)
def jho:DSt->MS Out:=(eSeq (lF (gSet 2 (fC .non)))
  (eSeq (juq jer xcs 3 2 (lF (jac (vR 0) (jac (vR 1) fNil))))
  (lF (gRet (vR 2)))))
def jhv:List D->MS D:=mirE 2 4 jho
def jm5(T:Txt K mg):jm0 P w K mg base 7 "_law_kept" jh1 ["_law_names_here","_law_written_here","_law_kept_here","e"] jho:=fun _ _ _ _ _ _ _ hr=>
 (jbm (jbj (ja0 (i:=2) sc_law_kept.nd jmk))
  (jbm (jCc (j:=3) (l:=2) (jq4 T) T.errm (hr.m rfl) (fun _=>(jb9 (jaa (jab 0) (jaa (jab 1) jae)))) rfl rfl sc_law_kept.nd rfl rfl (by decide))
  (jcv (jbj (jao (jab 2))))))
def jqz(T:Txt K mg):CalE P w K mg base 8 "_law_kept" 2 jhv:=juc T.f_law_kept sc_law_kept (jm5 T)
def jp3:FnScope ["_law_found"] ["_law_found"] (jad jgq):=.m rfl rfl rfl rfl (by decide +kernel)
def jk5:DSt->M Out:=(gRet (fAnd (fL kIsi (jac (vR 0) (jac (fC (.ty "int")) fNil))) (f1 gNot (fL kIsi (jac (vR 0) (jac (fC (.ty "bool")) fNil))))))
def je1:List D->M D:=mir 1 1 jk5
def jmb(T:Txt K mg):jdr P w K mg base 1 "_law_whole" jgq ["_law_found"] jk5:=fun _ _ _ _ _ _ _ hr=>
 (jah (jao (jzm (jbk joy jub rfl T.b_isinstance jdh (jaa (jab 0) (jaa (juj rfl T.b_int jfg) jae))) (jrt (jEc (jbk joy jub rfl T.b_isinstance jdh (jaa (jab 0) (jaa (juj rfl T.b_bool jA8) jae))))))))
def jpm(T:Txt K mg):Cal P w K mg base 2 "_law_whole" 1 je1:=jca T.f_law_whole jp3 (jmb T)
def sc_law_right:FnScope ["_law_names_here","_law_written_here","_law_place","_law_kept_here"] ["_law_names_here","_law_written_here"] (jad jgp):=.m rfl rfl rfl rfl (by decide +kernel)
def jf9:DSt->MS Out:=(eSeq (lF (gSet 2 (jau jfp (jac (vR 1) fNil))))
  (eSeq (eSet 3 (jds jhv (lF (jac (vR 0) (jac (vR 1) fNil)))))
  (eSeq (eIf (lF (t2 gIs (vR 2) (fC .non))) (eRet (jx3 (mIsN xcs (fun c=>c == "NoText") (lF (vR 3))))) eNx)
  (eSeq (eIf (mOr (mNot (mTru (mIsN xcs (fun c=>c == "NoText") (lF (vR 3))))) (mNot (mTru (mIsX xcs (fun _=>true) (lF (vR 3)))))) (lF (gRet (fC (.bl false)))) eNx)
  (eSeq (eIf (mTru (mIsX xcs (fun c=>(["Broken","Folded","NoBook","NoDeed","NoLine","NoName","NoPaper","NoRule"]:List Str).contains c) (lF (vR 3)))) (lF (gRet (fC (.bl false)))) eNx)
  (eSeq (eIf (mTru (mIsX xcs (fun c=>(["NotPlain","OutOfRange","ShortShare"]:List Str).contains c) (lF (vR 3)))) (lF (gRet (fC (.bl false)))) eNx)
  (eRet (jx2 (jlc je1 (jhd (jnw xcs "place" (lF (vR 3))) (lF fNil))) (m2 gEq (jnw xcs "place" (lF (vR 3))) (lF (vR 2)))))))))))
def jco:List D->MS D:=mirE 2 4 jf9
def jma(T:Txt K mg):jm0 P w K mg base 8 "_law_right" jgp ["_law_names_here","_law_written_here","_law_place","_law_kept_here"] jf9:=fun _ _ _ _ _ _ _ hr=>
 (jbm (jbj (ja0 (i:=2) sc_law_right.nd (jan (jq2 T) (hr.m rfl) (jaa (jab 1) jae))))
  (jbm (jFn (i:=3) sc_law_right.nd (jny (jqz T) (hr.m rfl) (jb9 (jaa (jab 0) (jaa (jab 1) jae)))))
  (jbm (jqw (jfe (jas jz7 jz8 (jab 2) jmk (jap _))) (jcv (jr7 (jFh (jz1 (d:="NoText") T.errs T.errn rfl T.b_isinstance (jar (jab 3)))))) jfd)
  (jbm (jqw (MW.mt (jFr (jpg (jlg (jz1 (d:="NoText") T.errs T.errn rfl T.b_isinstance (jar (jab 3))))) (jz3 (jpg (jlg (jFg T.errs T.b_isinstance T.b_ValueError (jar (jab 3)))))))) (jcv (jbj (jao js8))) jfd)
  (jbm (jqw (jlg (jz2 (ds:=["Broken","Folded","NoBook","NoDeed","NoLine","NoName","NoPaper","NoRule"]) T.errs (jeu (d:="Broken") T.errs (jeu (d:="Folded") T.errs (jeu (d:="NoBook") T.errs (jeu (d:="NoDeed") T.errs (jeu (d:="NoLine") T.errs (jeu (d:="NoName") T.errs (jeu (d:="NoPaper") T.errs (jeu (d:="NoRule") T.errs jzl)))))))) rfl T.b_isinstance (jar (jab 3)) (by decide))) (jcv (jbj (jao js8))) jfd)
  (jbm (jqw (jlg (jz2 (ds:=["NotPlain","OutOfRange","ShortShare"]) T.errs (jeu (d:="NotPlain") T.errs (jeu (d:="OutOfRange") T.errs (jeu (d:="ShortShare") T.errs jzl))) rfl T.b_isinstance (jar (jab 3)) (by decide))) (jcv (jbj (jao js8))) jfd)
  (jcv (jr7 (jFd (jnz (jpm T) (hr.m rfl) (jfc (jvg T.errs rfl (jar (jab 3))) (jb9 jae))) (jFi (jFe (ja6 (hu30 hr)) ja7 (jvg T.errs rfl (jar (jab 3))) (jar (jab 2)) (jap _))))))))))))
def jhh(T:Txt K mg):CalE P w K mg base 9 "_law_right" 2 jco:=juc T.f_law_right sc_law_right (jma T)
def sc_law_bent:FnScope ["_law_written_here","_law_number","_law_cell","_law_some","_law_mark","_law_at_here","_law_way"] ["_law_written_here","_law_number","_law_cell"] (jad jh0):=.m rfl rfl rfl rfl (by decide +kernel)
def jhn:DSt->M Out:=(gSeq (gSet 3 (fC (.str " !\"#$&'()*+,-./0123456789:;<=>?@ABCDEFGHIJKLMNOPQRSTUVWXYZ[\\]^_`")))
  (gSeq (gSet 3 (f2 gCat (vR 3) (cS "abcdefghijklmnopqrstuvwxyz{|}~")))
  (gSeq (gSet 4 (f2 gIx (vR 3) (f2 gMod (vR 2) (cI 94))))
  (gSeq (gIf (t2 gGt (f2 gMod (vR 1) (cI 4)) (cI 0)) (gSet 4 (f2 gIx (fC (.str "ab019+-*() ")) (f2 gMod (f2 jev (vR 1) (cI 4)) (cI 11)))) gNx)
  (gSeq (gSet 5 (f2 gMod (f2 jev (vR 1) (cI 64)) (f2 gCat (fL kLen (jac (vR 0) fNil)) (cI 1))))
  (gSeq (gSet 6 (f2 gMod (f2 jev (vR 1) (cI 131072)) (cI 4)))
  (gSeq (gIf (t2 gEq (vR 6) (cI 0)) (gRet (fSl (vR 0) jir (jcj (vR 5)))) gNx)
  (gSeq (gIf (t2 gEq (vR 6) (cI 1)) (gRet (f2 gCat (f2 gCat (fSl (vR 0) jir (jcj (vR 5))) (vR 4)) (fSl (vR 0) (jcj (vR 5)) jir))) gNx)
  (gSeq (gIf (t2 gEq (vR 6) (cI 2)) (gRet (f2 gCat (f2 gCat (fSl (vR 0) jir (jcj (vR 5))) (vR 4)) (fSl (vR 0) (jcj (f2 gCat (vR 5) (cI 1))) jir))) gNx)
  (gRet (f2 gCat (fSl (vR 0) jir (jcj (vR 5))) (fSl (vR 0) (jcj (f2 gCat (vR 5) (cI 1))) jir))))))))))))
def jhu:List D->M D:=mir 3 7 jhn
def jm4(T:Txt K mg):jdr P w K mg base 1 "_law_bent" jh0 ["_law_written_here","_law_number","_law_cell","_law_some","_law_mark","_law_at_here","_law_way"] jhn:=fun _ _ _ _ _ _ _ hr=>
 (jag (ja0 (i:=3) sc_law_bent.nd jai)
  (jag (ja0 (i:=3) sc_law_bent.nd (jam jaj jak (jab 3) jai))
  (jag (ja0 (i:=4) sc_law_bent.nd (jbc jat jav (jab 3) (jam jc3 jbz (jab 2) jaf)))
  (jag (jcl (jas jpq jcw (jam jc3 jbz (jab 1) jaf) jaf (jap _)) (jah (ja0 (i:=4) sc_law_bent.nd (jbc jat jav jai (jam jc3 jbz (jam jdb jdc (jab 1) jaf) jaf)))) ja1)
  (jag (ja0 (i:=5) sc_law_bent.nd (jam jc3 jbz (jam jdb jdc (jab 1) jaf) (jam jaj jak (jbk jbh jcz rfl T.b_len jd7 (jaa (jab 0) jae)) jaf)))
  (jag (ja0 (i:=6) sc_law_bent.nd (jam jc3 jbz (jam jdb jdc (jab 1) jaf) jaf))
  (jag (jcl (jas (ja6 (hu30 hr)) ja7 (jab 6) jaf (jap _)) (jah (jao (jc9 (jab 0) jf3 (jdd (jab 5))))) ja1)
  (jag (jcl (jas (ja6 (hu30 hr)) ja7 (jab 6) jaf (jap _)) (jah (jao (jam jaj jak (jam jaj jak (jc9 (jab 0) jf3 (jdd (jab 5))) (jab 4)) (jc9 (jab 0) (jdd (jab 5)) jf3)))) ja1)
  (jag (jcl (jas (ja6 (hu30 hr)) ja7 (jab 6) jaf (jap _)) (jah (jao (jam jaj jak (jam jaj jak (jc9 (jab 0) jf3 (jdd (jab 5))) (jab 4)) (jc9 (jab 0) (jdd (jam jaj jak (jab 5) jaf)) jf3)))) ja1)
  (jah (jao (jam jaj jak (jc9 (jab 0) jf3 (jdd (jab 5))) (jc9 (jab 0) (jdd (jam jaj jak (jab 5) jaf)) jf3)))))))))))))
def jqy(T:Txt K mg):Cal P w K mg base 2 "_law_bent" 3 jhu:=jca T.f_law_bent sc_law_bent (jm4 T)
def sc_law:FnScope ["_law_script","_law_number","_law_names_here","_law_written_here","_law_k","_law_bent_here"] ["_law_script"] (jad jy0):=.m rfl rfl rfl rfl (by decide +kernel)
def jAh:DSt->MS Out:=(lF (gSet 1 (jau jb6 (jac (jau jda (jac (vR 0) (jac (cI 0) fNil))) (jac (cI 1) fNil)))))
def jAi:DSt->MS Out:=(lF (gSet 2 (jau jgf (jac (vR 1) (jac (cI 4) fNil)))))
def jAj:DSt->MS Out:=(lF (gSet 3 (jau jem (jac (f2 gIx (jau jhw (jac (vR 0) (jac (vR 2) (jac (cI 2) (jac (cI 32) fNil))))) (cI 0)) (jac (vR 1) fNil)))))
def jwm:DSt->MS Out:=(eIf (mNot (mTru (jds jco (lF (jac (vR 2) (jac (vR 3) fNil)))))) (lF (gRet (fC (.bl false)))) eNx)
def jt7:DSt->MS Out:=(eSeq (lF (gSet 5 (jau jhu (jac (vR 3) (jac (jau jb6 (jac (jau jda (jac (vR 0) (jac (vR 4) fNil))) (jac (cI 5) fNil))) (jac (jau jda (jac (vR 0) (jac (vR 4) fNil))) fNil))))))
  (eIf (mOr (mNot (mTru (jds jco (lF (jac (vR 2) (jac (vR 5) fNil)))))) (mNot (mTru (jds jco (lF (jac (vR 2) (jac (vR 5) fNil))))))) (lF (gRet (fC (.bl false)))) eNx))
def jwn:DSt->MS Out:=(eFor (lF (jha jce (jac (cI 3) fNil))) (DL.gName 4) jt7)
def jGi:DSt->MS Out:=(lF (gRet (fC (.bl true))))
def jxn:DSt->MS Out:=(eSeq jAh
  (eSeq jAi
  (eSeq jAj
  (eSeq jwm
  (eSeq jwn
  jGi)))))
def jx4:List D->MS D:=mirE 1 6 jxn
def jxe(T:Txt K mg):jm0 P w K mg base 9 "law" jy0 ["_law_script","_law_number","_law_names_here","_law_written_here","_law_k","_law_bent_here"] jxn:=fun _ _ _ _ _ _ _ hr=>
 (jbm (jbj (ja0 (i:=1) sc_law.nd (jan (jdy T) (hr.m rfl) (jaa (jan (jhg T) (hr.m rfl) (jaa (jab 0) (jaa jaf jae))) (jaa jaf jae)))))
  (jbm (jbj (ja0 (i:=2) sc_law.nd (jan (jpk T) (hr.m rfl) (jaa (jab 1) (jaa jaf jae)))))
  (jbm (jbj (ja0 (i:=3) sc_law.nd (jan (jmi T) (hr.m rfl) (jaa (jbc jat jav (jan (jq3 T) (hr.m rfl) (jaa (jab 0) (jaa (jab 2) (jaa jaf (jaa jaf jae))))) jaf) (jaa (jab 1) jae)))))
  (jbm (jqw (jpg (jlg (jny (jhh T) (hr.m rfl) (jb9 (jaa (jab 2) (jaa (jab 3) jae)))))) (jcv (jbj (jao js8))) jfd)
  (jbm (jFk PassesOwn.never rfl (jqu (jhm rfl T.b_range (jaa jaf jae))) (jee (i:=4) sc_law.nd) (jbm (jbj (ja0 (i:=5) sc_law.nd (jan (jqy T) (hr.m rfl) (jaa (jab 3) (jaa (jan (jdy T) (hr.m rfl) (jaa (jan (jhg T) (hr.m rfl) (jaa (jab 0) (jaa (jab 4) jae))) (jaa jaf jae))) (jaa (jan (jhg T) (hr.m rfl) (jaa (jab 0) (jaa (jab 4) jae))) jae))))))
  (jcv (jqw (MW.mt (jFr (jpg (jlg (jny (jhh T) (hr.m rfl) (jb9 (jaa (jab 2) (jaa (jab 5) jae)))))) (jz3 (jpg (jlg (jny (jhh T) (hr.m rfl) (jb9 (jaa (jab 2) (jaa (jab 5) jae))))))))) (jcv (jbj (jao js8))) jfd))))
  (jcv (jbj (jao js8))))))))
end
def jmg{us:List Value}{n:Nat}(h:us.length=n+1):∃ a r,us=a::r/\r.length=n:=by
 cases us with
 | nil=>cases h
 | cons a r=>exact⟨a,r,rfl,Nat.succ.inj h⟩
def jD2{fd:FuncData}{p0:Str}(h:∀ a0:Value,bindArgs fd ⟨[a0],[]⟩=pure ([p0].zip [a0]))(us:List Value)(hl:us.length=([p0]:List Str).length):bindArgs fd ⟨us,[]⟩=pure ([p0].zip us):=by
 obtain⟨a0,r0,rfl,q0⟩:=jmg hl;cases List.eq_nil_of_length_eq_zero q0;exact h a0
def jt5{fd:FuncData}{p0 p1:Str}(h:∀ a0 a1:Value,bindArgs fd ⟨[a0,a1],[]⟩=pure ([p0,p1].zip [a0,a1]))(us:List Value)(hl:us.length=([p0,p1]:List Str).length):bindArgs fd ⟨us,[]⟩=pure ([p0,p1].zip us):=by
 obtain⟨a0,r0,rfl,q0⟩:=jmg hl;obtain⟨a1,r1,rfl,q1⟩:=jmg q0;cases List.eq_nil_of_length_eq_zero q1;exact h a0 a1
def jAz{fd:FuncData}{p0 p1 p2:Str}(h:∀ a0 a1 a2:Value,bindArgs fd ⟨[a0,a1,a2],[]⟩=pure ([p0,p1,p2].zip [a0,a1,a2]))(us:List Value)(hl:us.length=([p0,p1,p2]:List Str).length):bindArgs fd ⟨us,[]⟩=pure ([p0,p1,p2].zip us):=by
 obtain⟨a0,r0,rfl,q0⟩:=jmg hl;obtain⟨a1,r1,rfl,q1⟩:=jmg q0;obtain⟨a2,r2,rfl,q2⟩:=jmg q1;cases List.eq_nil_of_length_eq_zero q2;exact h a0 a1 a2
def jHs{fd:FuncData}{p0 p1 p2 p3:Str}(h:∀ a0 a1 a2 a3:Value,bindArgs fd ⟨[a0,a1,a2,a3],[]⟩=pure ([p0,p1,p2,p3].zip [a0,a1,a2,a3]))(us:List Value)(hl:us.length=([p0,p1,p2,p3]:List Str).length):bindArgs fd ⟨us,[]⟩=pure ([p0,p1,p2,p3].zip us):=by
 obtain⟨a0,r0,rfl,q0⟩:=jmg hl;obtain⟨a1,r1,rfl,q1⟩:=jmg q0;obtain⟨a2,r2,rfl,q2⟩:=jmg q1;obtain⟨a3,r3,rfl,q3⟩:=jmg q2;cases List.eq_nil_of_length_eq_zero q3;exact h a0 a1 a2 a3
inductive Fct(K:W.Frag)(x:Str)(s:Stmt):Prop
 | mk {f:Addr} {oc kV dc pm cd ct:Value} {od an:Option Addr} {sl:qe} (a:W.nsIn K mainGlobals x=some (some (.ref f))) (l:K.lookup f=some ⟨oc,od,.func (W.fnOf x x (jbp s) (jaw s) (jad s) .none kV dc pm an cd ct),sl⟩) (c:W.codeIn K cd x=true) (k:W.keepIn K (.ref f)=true):Fct K x s
def fct1{K:W.Frag}{h:Heap}{mg:qa}{x:Str}{s:Stmt}{p0:Str}(X:K.In h)(G:h.Ns mainGlobals mg)(q:∀ (kV dc pm:Value) (an:Option Addr) (cd ct a0:Value),bindArgs (W.fnOf x x (jbp s) (jaw s) (jad s) .none kV dc pm an cd ct) ⟨[a0],[]⟩=pure ([p0].zip [a0]))(F:Fct K x s):jb3 K mg x s [p0]:=by
 obtain⟨a,l,c,k⟩:=F;exact jkn X G (fun kV dc pm an cd ct=>jD2 (q kV dc pm an cd ct)) a l c k
def fct2{K:W.Frag}{h:Heap}{mg:qa}{x:Str}{s:Stmt}{p0 p1:Str}(X:K.In h)(G:h.Ns mainGlobals mg)(q:∀ (kV dc pm:Value) (an:Option Addr) (cd ct a0 a1:Value),bindArgs (W.fnOf x x (jbp s) (jaw s) (jad s) .none kV dc pm an cd ct) ⟨[a0,a1],[]⟩=pure ([p0,p1].zip [a0,a1]))(F:Fct K x s):jb3 K mg x s [p0,p1]:=by
 obtain⟨a,l,c,k⟩:=F;exact jkn X G (fun kV dc pm an cd ct=>jt5 (q kV dc pm an cd ct)) a l c k
def fct3{K:W.Frag}{h:Heap}{mg:qa}{x:Str}{s:Stmt}{p0 p1 p2:Str}(X:K.In h)(G:h.Ns mainGlobals mg)(q:∀ (kV dc pm:Value) (an:Option Addr) (cd ct a0 a1 a2:Value),bindArgs (W.fnOf x x (jbp s) (jaw s) (jad s) .none kV dc pm an cd ct) ⟨[a0,a1,a2],[]⟩=pure ([p0,p1,p2].zip [a0,a1,a2]))(F:Fct K x s):jb3 K mg x s [p0,p1,p2]:=by
 obtain⟨a,l,c,k⟩:=F;exact jkn X G (fun kV dc pm an cd ct=>jAz (q kV dc pm an cd ct)) a l c k
def fct4{K:W.Frag}{h:Heap}{mg:qa}{x:Str}{s:Stmt}{p0 p1 p2 p3:Str}(X:K.In h)(G:h.Ns mainGlobals mg)(q:∀ (kV dc pm:Value) (an:Option Addr) (cd ct a0 a1 a2 a3:Value),bindArgs (W.fnOf x x (jbp s) (jaw s) (jad s) .none kV dc pm an cd ct) ⟨[a0,a1,a2,a3],[]⟩=pure ([p0,p1,p2,p3].zip [a0,a1,a2,a3]))(F:Fct K x s):jb3 K mg x s [p0,p1,p2,p3]:=by
 obtain⟨a,l,c,k⟩:=F;exact jkn X G (fun kV dc pm an cd ct=>jHs (q kV dc pm an cd ct)) a l c k
def txt_mk{K:W.Frag}{h:Heap}{mg:qa}(X:K.In h)(G:h.Ns mainGlobals mg)
    {ae:Addr}
    {bq:Addr}
    {ax:Addr}
    {aw:Addr}
    {av:Addr}
    {au:Addr}
    {aq:Addr}
    {am:Addr}
    {aj:Addr}
    {ap:Addr}
    {ak:Addr}
    {ah:Addr}
    {ag:Addr}
    {af:Addr}
    {fu:Addr} {ij iv jm gt d7 jt:Value} {g0 j0:Option Addr} {gj:qe}
    {fq:Addr} {ii iu jk gs d6 js:Value} {gz jz:Option Addr} {gi:qe}
    {fk:Addr} {ig ir ji gr d4 jr:Value} {gy jy:Option Addr} {gg:qe}
    {fj:Addr} {ie iq jh gq dz jq:Value} {gx jx:Option Addr} {gf:qe}
    {fg:Addr} {ib ip jg gn dy jp:Value} {gw jw:Option Addr} {ge:qe}
    {e9:Addr} {ia io jf gm dw jo:Value} {gv jv:Option Addr} {gd:qe}
    {ez:Addr} {g6 im je gl dv jn:Value} {gu ju:Option Addr} {gc:qe}
    {t0:Tok}
    {t1:Tok}
    {t2:Tok}
    {t3:Tok}
    {t4:Tok}
    {t5:Tok}
    (ai:W.nsIn K mainGlobals "OpenSum"=some (some (.ref ae)))
    (bi:W.plainGet K ae Str.empty=true)
    (bh:W.hasDictIn K ae=true)
    (be:W.plainOver K ae=true)
    (bd:W.findIn K (.ref ae) "__setattr__"=some (some (.builtin "object.__setattr__")))
    (bc:W.findIn K (.ref ae) "star"=some none)
    (ba:W.findIn K (.ref ae) "term"=some none)
    (az:W.findIn K (.ref ae) "term_sign"=some none)
    (ay:W.findIn K (.ref ae) "total"=some none)
    (br:W.nsIn K mainGlobals "BookError"=some (some (.ref bq)))
    (cr:W.nsIn K mainGlobals "Broken"=some (some (.ref ax)))
    (cq:W.nsIn K mainGlobals "Folded"=some (some (.ref aw)))
    (cp:W.nsIn K mainGlobals "NoBook"=some (some (.ref av)))
    (cn:W.nsIn K mainGlobals "NoDeed"=some (some (.ref au)))
    (cm:W.nsIn K mainGlobals "NoLine"=some (some (.ref aq)))
    (bu:W.nsIn K mainGlobals "NoName"=some (some (.ref am)))
    (cg:W.nsIn K mainGlobals "NoPaper"=some (some (.ref aj)))
    (cj:W.nsIn K mainGlobals "NoRule"=some (some (.ref ap)))
    (bt:W.nsIn K mainGlobals "NoText"=some (some (.ref ak)))
    (bo:W.nsIn K mainGlobals "NotPlain"=some (some (.ref ah)))
    (bz:W.nsIn K mainGlobals "OutOfRange"=some (some (.ref ag)))
    (bw:W.nsIn K mainGlobals "ShortShare"=some (some (.ref af)))
    (tab:xTab K [("Broken",ax),("Folded",aw),("NoBook",av),("NoDeed",au),("NoLine",aq),("NoName",am),("NoPaper",aj),("NoRule",ap),("NoText",ak),("NotPlain",ah),("OutOfRange",ag),("ShortShare",af)] bq xfs=true)
    (gb:jHc K [("Broken",ax),("Folded",aw),("NoBook",av),("NoDeed",au),("NoLine",aq),("NoName",am),("NoPaper",aj),("NoRule",ap),("NoText",ak),("NotPlain",ah),("OutOfRange",ag),("ShortShare",af)] bq=true)
    (f9:jHd K [("Broken",ax),("Folded",aw),("NoBook",av),("NoDeed",au),("NoLine",aq),("NoName",am),("NoPaper",aj),("NoRule",ap),("NoText",ak),("NotPlain",ah),("OutOfRange",ag),("ShortShare",af)]=true)
    (h0:Fct K "_law_mix" jjk)
    (h1:Fct K "_law_at" jks)
    (h2:Fct K "_law_name" jh2)
    (h3:Fct K "_law_names" jgn)
    (h4:Fct K "_law_written" jeo)
    (h5:Fct K "_law_plain" jgo)
    (h6:Fct K "_law_named" je4)
    (h7:Fct K "_law_scaled" jea)
    (h8:Fct K "_law_added" je3)
    (h9:Fct K "_law_term" jh5)
    (kl:Fct K "_law_grown" jgm)
    (cv:Fct K "_law_tree" jh6)
    (h12:Fct K "_law_step" jh3)
    (h13:Fct K "_law_stop" jh4)
    (en:Fct K "is_letter" jgl)
    (h15:Fct K "is_figure" jgk)
    (h16:Fct K "end_of_piece" jd5)
    (h17:Fct K "may_stand" jgr)
    (a18:W.findIn K (.ref ak) "__init__"=some (some (.ref fu)))
    (b18:W.isFn K (.ref fu)=true)
    (l18:K.lookup fu=some ⟨ij,g0,.func (W.fnOf "__init__" "NoText.__init__" (jbp jcg) (jaw jcg) (jad jcg) .none iv jm gt j0 d7 jt),gj⟩)
    (c18:W.codeIn K d7 "NoText.__init__"=true)
    (k18:W.keepIn K (.ref fu)=true)
    (h19:Fct K "depth_by" jhz)
    (h20:Fct K "wanted_behind" jdq)
    (h21:Fct K "pieces_of" jd0)
    (a22:W.findIn K (.ref am) "__init__"=some (some (.ref fq)))
    (b22:W.isFn K (.ref fq)=true)
    (l22:K.lookup fq=some ⟨ii,gz,.func (W.fnOf "__init__" "NoName.__init__" (jbp jcf) (jaw jcf) (jad jcf) .none iu jk gs jz d6 js),gi⟩)
    (c22:W.codeIn K d6 "NoName.__init__"=true)
    (k22:W.keepIn K (.ref fq)=true)
    (a23:W.findIn K (.ref ae) "__init__"=some (some (.ref fk)))
    (b23:W.isFn K (.ref fk)=true)
    (i23:W.makesIn K ae=true)
    (j23:W.keepIn K (.ref ae)=true)
    (l23:K.lookup fk=some ⟨ig,gy,.func (W.fnOf "__init__" "OpenSum.__init__" (jbp jb2) (jaw jb2) (jad jb2) .none ir ji gr jy d4 jr),gg⟩)
    (c23:W.codeIn K d4 "OpenSum.__init__"=true)
    (k23:W.keepIn K (.ref fk)=true)
    (h24:Fct K "times" jlt)
    (h25:Fct K "is_plain" jfu)
    (a26:W.findIn K (.ref ah) "__init__"=some (some (.ref fj)))
    (b26:W.isFn K (.ref fj)=true)
    (l26:K.lookup fj=some ⟨ie,gx,.func (W.fnOf "__init__" "NotPlain.__init__" (jbp jbt) (jaw jbt) (jad jbt) .none iq jh gq jx dz jq),gf⟩)
    (c26:W.codeIn K dz "NotPlain.__init__"=true)
    (k26:W.keepIn K (.ref fj)=true)
    (h27:Fct K "product" jfv)
    (a28:W.findIn K (.ref ae) "take_factor"=some (some (.ref fg)))
    (b28:W.isFn K (.ref fg)=true)
    (l28:K.lookup fg=some ⟨ib,gw,.func (W.fnOf "take_factor" "OpenSum.take_factor" (jbp jaz) (jaw jaz) (jad jaz) .none ip jg gn jw dy jp),ge⟩)
    (c28:W.codeIn K dy "OpenSum.take_factor"=true)
    (k28:W.keepIn K (.ref fg)=true)
    (h29:Fct K "added" jls)
    (a30:W.findIn K (.ref ae) "whole"=some (some (.ref e9)))
    (b30:W.isFn K (.ref e9)=true)
    (l30:K.lookup e9=some ⟨ia,gv,.func (W.fnOf "whole" "OpenSum.whole" (jbp jch) (jaw jch) (jad jch) .none io jf gm jv dw jo),gd⟩)
    (c30:W.codeIn K dw "OpenSum.whole"=true)
    (k30:W.keepIn K (.ref e9)=true)
    (a31:W.findIn K (.ref ae) "take_sign"=some (some (.ref ez)))
    (b31:W.isFn K (.ref ez)=true)
    (l31:K.lookup ez=some ⟨g6,gu,.func (W.fnOf "take_sign" "OpenSum.take_sign" (jbp jbf) (jaw jbf) (jad jbf) .none im je gl ju dv jn),gc⟩)
    (c31:W.codeIn K dv "OpenSum.take_sign"=true)
    (k31:W.keepIn K (.ref ez)=true)
    (h32:Fct K "number_of_figures" jcp)
    (h33:Fct K "number_of" jgs)
    (h34:Fct K "form_of_word" jc7)
    (h35:Fct K "reckoned" jet)
    (h36:Fct K "read_sum" jes)
    (h37:Fct K "_law_kept" jh1)
    (h38:Fct K "_law_whole" jgq)
    (h39:Fct K "_law_right" jgp)
    (b8:Fct K "_law_bent" jh0)
    (ci:Fct K "law" jy0)
    (y0:W.nsIn K mainGlobals "BEGINNING"=some (some (.str "beginning" t0)))
    (y1:W.nsIn K mainGlobals "BEHIND"=some (some (.str "behind" t1)))
    (y2:W.nsIn K mainGlobals "FACTOR"=some (some (.str "factor" t2)))
    (y3:W.nsIn K mainGlobals "NAME_LENGTH"=some (some (.int 10 t3)))
    (y4:W.nsIn K mainGlobals "PART_FIGURES"=some (some (.int 18 t4)))
    (y5:W.nsIn K mainGlobals "PART_SIZE"=some (some (.int 1000000000000000000 t5)))
    (z0:W.nsIn K mainGlobals "ValueError"=some none)
    (z1:W.nsIn K mainGlobals "all"=some none)
    (z2:W.nsIn K mainGlobals "bool"=some none)
    (z3:W.nsIn K mainGlobals "int"=some none)
    (z4:W.nsIn K mainGlobals "isinstance"=some none)
    (z5:W.nsIn K mainGlobals "len"=some none)
    (z6:W.nsIn K mainGlobals "range"=some none)
    (z7:W.nsIn K mainGlobals "str"=some none)
    (z8:W.nsIn K mainGlobals "tuple"=some none)
    (z9:W.nsIn K mainGlobals "zip"=some none):Txt K mg:=by
  have di:∀ p∈([("Broken",ax),("Folded",aw),("NoBook",av),("NoDeed",au),("NoLine",aq),("NoName",am),("NoPaper",aj),("NoRule",ap),("NoText",ak),("NotPlain",ah),("OutOfRange",ag),("ShortShare",af)]:List (Str×Addr)),mg p.1=some (.ref p.2):=(List.forall_mem_cons.mpr ⟨W.mg_of X G cr,(List.forall_mem_cons.mpr ⟨W.mg_of X G cq,(List.forall_mem_cons.mpr ⟨W.mg_of X G cp,(List.forall_mem_cons.mpr ⟨W.mg_of X G cn,(List.forall_mem_cons.mpr ⟨W.mg_of X G cm,(List.forall_mem_cons.mpr ⟨W.mg_of X G bu,(List.forall_mem_cons.mpr ⟨W.mg_of X G cg,(List.forall_mem_cons.mpr ⟨W.mg_of X G cj,(List.forall_mem_cons.mpr ⟨W.mg_of X G bt,(List.forall_mem_cons.mpr ⟨W.mg_of X G bo,(List.forall_mem_cons.mpr ⟨W.mg_of X G bz,(List.forall_mem_cons.mpr ⟨W.mg_of X G bw,(List.forall_mem_nil _)⟩)⟩)⟩)⟩)⟩)⟩)⟩)⟩)⟩)⟩)⟩)⟩)
  have errs:ErrT K mg xcs xfs "BookError":=jBt (es:=[("Broken",ax),("Folded",aw),("NoBook",av),("NoDeed",au),("NoLine",aq),("NoName",am),("NoPaper",aj),("NoRule",ap),("NoText",ak),("NotPlain",ah),("OutOfRange",ag),("ShortShare",af)]) di (W.mg_of X G br) tab;exact⟨jkm X G ai bi bh be bd (List.forall_mem_cons.mpr ⟨bc,(List.forall_mem_cons.mpr ⟨ba,(List.forall_mem_cons.mpr ⟨az,(List.forall_mem_cons.mpr ⟨ay,(List.forall_mem_nil _)⟩)⟩)⟩)⟩),
   errs,
   jBr (es:=[("Broken",ax),("Folded",aw),("NoBook",av),("NoDeed",au),("NoLine",aq),("NoName",am),("NoPaper",aj),("NoRule",ap),("NoText",ak),("NotPlain",ah),("OutOfRange",ag),("ShortShare",af)]) di (W.mg_of X G br) gb,
   jBs (es:=[("Broken",ax),("Folded",aw),("NoBook",av),("NoDeed",au),("NoLine",aq),("NoName",am),("NoPaper",aj),("NoRule",ap),("NoText",ak),("NotPlain",ah),("OutOfRange",ag),("ShortShare",af)]) di f9,
   fct2 X G (fun _ _ _ _ _ _ _ _=>rfl) h0,
   fct2 X G (fun _ _ _ _ _ _ _ _=>rfl) h1,
   fct1 X G (fun _ _ _ _ _ _ _=>rfl) h2,
   fct2 X G (fun _ _ _ _ _ _ _ _=>rfl) h3,
   fct2 X G (fun _ _ _ _ _ _ _ _=>rfl) h4,
   fct3 X G (fun _ _ _ _ _ _ _ _ _=>rfl) h5,
   fct2 X G (fun _ _ _ _ _ _ _ _=>rfl) h6,
   fct2 X G (fun _ _ _ _ _ _ _ _=>rfl) h7,
   fct2 X G (fun _ _ _ _ _ _ _ _=>rfl) h8,
   fct3 X G (fun _ _ _ _ _ _ _ _ _=>rfl) h9,
   fct4 X G (fun _ _ _ _ _ _ _ _ _ _=>rfl) kl,
   fct4 X G (fun _ _ _ _ _ _ _ _ _ _=>rfl) cv,
   fct2 X G (fun _ _ _ _ _ _ _ _=>rfl) h12,
   fct1 X G (fun _ _ _ _ _ _ _=>rfl) h13,
   fct1 X G (fun _ _ _ _ _ _ _=>rfl) en,
   fct1 X G (fun _ _ _ _ _ _ _=>rfl) h15,
   fct2 X G (fun _ _ _ _ _ _ _ _=>rfl) h16,
   fct3 X G (fun _ _ _ _ _ _ _ _ _=>rfl) h17,
   jk6 X G (fun _ _ _ _ _ _=>jt5 (fun _ _=>rfl)) (W.mg_of X G bt) (errs.cls "NoText" (zbc.mp rfl) _ (W.mg_of X G bt)) a18 b18 l18 c18 k18,
   fct1 X G (fun _ _ _ _ _ _ _=>rfl) h19,
   fct1 X G (fun _ _ _ _ _ _ _=>rfl) h20,
   fct1 X G (fun _ _ _ _ _ _ _=>rfl) h21,
   jk6 X G (fun _ _ _ _ _ _=>jAz (fun _ _ _=>rfl)) (W.mg_of X G bu) (errs.cls "NoName" (zbc.mp rfl) _ (W.mg_of X G bu)) a22 b22 l22 c22 k22,
   jxu X G (fun _ _ _ _ _ _=>jt5 (fun _ _=>rfl)) ai i23 a23 b23 j23 l23 c23 k23,
   fct2 X G (fun _ _ _ _ _ _ _ _=>rfl) h24,
   fct1 X G (fun _ _ _ _ _ _ _=>rfl) h25,
   jk6 X G (fun _ _ _ _ _ _=>jt5 (fun _ _=>rfl)) (W.mg_of X G bo) (errs.cls "NotPlain" (zbc.mp rfl) _ (W.mg_of X G bo)) a26 b26 l26 c26 k26,
   fct3 X G (fun _ _ _ _ _ _ _ _ _=>rfl) h27,
   jn2 X G (jkm X G ai bi bh be bd (List.forall_mem_cons.mpr ⟨bc,(List.forall_mem_cons.mpr ⟨ba,(List.forall_mem_cons.mpr ⟨az,(List.forall_mem_cons.mpr ⟨ay,(List.forall_mem_nil _)⟩)⟩)⟩)⟩)) (fun _ _ _ _ _ _=>jt5 (fun _ _=>rfl)) ai a28 b28 l28 c28 k28,
   fct2 X G (fun _ _ _ _ _ _ _ _=>rfl) h29,
   jn2 X G (jkm X G ai bi bh be bd (List.forall_mem_cons.mpr ⟨bc,(List.forall_mem_cons.mpr ⟨ba,(List.forall_mem_cons.mpr ⟨az,(List.forall_mem_cons.mpr ⟨ay,(List.forall_mem_nil _)⟩)⟩)⟩)⟩)) (fun _ _ _ _ _ _=>jD2 (fun _=>rfl)) ai a30 b30 l30 c30 k30,
   jn2 X G (jkm X G ai bi bh be bd (List.forall_mem_cons.mpr ⟨bc,(List.forall_mem_cons.mpr ⟨ba,(List.forall_mem_cons.mpr ⟨az,(List.forall_mem_cons.mpr ⟨ay,(List.forall_mem_nil _)⟩)⟩)⟩)⟩)) (fun _ _ _ _ _ _=>jAz (fun _ _ _=>rfl)) ai a31 b31 l31 c31 k31,
   fct1 X G (fun _ _ _ _ _ _ _=>rfl) h32,
   fct1 X G (fun _ _ _ _ _ _ _=>rfl) h33,
   fct2 X G (fun _ _ _ _ _ _ _ _=>rfl) h34,
   fct2 X G (fun _ _ _ _ _ _ _ _=>rfl) h35,
   fct2 X G (fun _ _ _ _ _ _ _ _=>rfl) h36,
   fct2 X G (fun _ _ _ _ _ _ _ _=>rfl) h37,
   fct1 X G (fun _ _ _ _ _ _ _=>rfl) h38,
   fct2 X G (fun _ _ _ _ _ _ _ _=>rfl) h39,
   fct3 X G (fun _ _ _ _ _ _ _ _ _=>rfl) b8,
   fct1 X G (fun _ _ _ _ _ _ _=>rfl) ci,
   ⟨_,W.mg_of X G y0⟩,
   ⟨_,W.mg_of X G y1⟩,
   ⟨_,W.mg_of X G y2⟩,
   ⟨_,W.mg_of X G y3⟩,
   ⟨_,W.mg_of X G y4⟩,
   ⟨_,W.mg_of X G y5⟩,
   W.mg_none_of X G z0,
   W.mg_none_of X G z1,
   W.mg_none_of X G z2,
   W.mg_none_of X G z3,
   W.mg_none_of X G z4,
   W.mg_none_of X G z5,
   W.mg_none_of X G z6,
   W.mg_none_of X G z7,
   W.mg_none_of X G z8,
   W.mg_none_of X G z9⟩
def walk{l:W.OpenLaw}{q:Program}{b0:List Str}{XP:(qa)->Heap->Prop}{YP:World->Heap->Prop}{d:DefRec}{K:Params->W.Frag}(hn:l.most=some 63)(jb:d.params.defaults=[])
  (hY:∀ (w:World) (h:Heap),YP w h->(K w.params).In h)
  (F:∀ (w:World) (mg:qa) (fa:Addr) (h:Heap),(K w.params).In h->h.Ns mainGlobals mg->mg d.name=some (.ref fa)->Txt (K w.params) mg/\mg "law"=some (.ref fa))
  (hm:∀ ns:List Int,ns.length<=63->∃ Ω,jx4 [.lst (ns.map .int)] []=some (.ok (.bl true),Ω)) :
  W.WalkO q b0 XP YP l.row.toRowW d [] (fun f vs=>PySem.call f vs) :=
 L2.walk_of (n:=63) (k:=10) (x:="_law_script") (CX:=fun _=>CX0) (sp:=fun w=>spA (K w.params) 1 jx4) hn (by decide) jb ⟨rfl,by decide,by decide⟩ hY
  (fun w mg fa h KX G hmg=>by
   obtain⟨T,hf⟩:=F w mg fa h KX G hmg;obtain⟨fd,FF,hb⟩:=juu T.f_law hf (fun _ _ _ _ _ _ _ _=>.of_eq rfl);exact⟨fd,hb,fun base _ _=>(fn_E FF sc_law (jxe T)).imp fun vs H Q E z=>z mg⟩)
  (fun _ _ a ns hl _ hS=>fun mg=>let ⟨Ω,e⟩:=hm ns hl;jB4 hS e) fun _ _ _ _ _ z=>z
def jze{q:Program}{b0:List Str}{XP:(qa)->Heap->Prop}{K:Params->W.Frag}{as:List Addr}{n t:Nat}{r:W.RowW}{d:DefRec}{j7:List (Str×Expr)}{run:Value->List Value->Sem Value}
  (he:∀ P,as=(K P).map (·.1)) (h:W.WalkO q b0 XP (fun w h=>(K w.params).In h) r d j7 run):W.WalkX q b0 XP (W.X.obsZ as) (W.X.valZ K n t) r d j7 run:=by
 intro w s₀ s₁ mg mb G y a o pm cd doc dV kV ho hd hcd hD hmg hg args vals as' L;refine h w s₀ s₁ mg mb G ?_ a o pm cd doc dV kV ho hd hcd hD hmg hg args vals as';have e:(K w.params).In s₀.heap:=(W.X.z_facts he y).2.1;exact fun b o' q=>L.keeps b o' (e b o' q)
def walkZ{l:W.OpenLaw}{q:Program}{b0:List Str}{XP:(qa)->Heap->Prop}{d:DefRec}{K:Params->W.Frag}{as:List Addr}{n t:Nat}(he:∀ P,as=(K P).map (·.1))(hn:l.most=some 63)(jb:d.params.defaults=[])
  (F:∀ (w:World) (mg:qa) (fa:Addr) (h:Heap),(K w.params).In h->h.Ns mainGlobals mg->mg d.name=some (.ref fa)->Txt (K w.params) mg/\mg "law"=some (.ref fa))
  (hm:∀ ns:List Int,ns.length<=63->∃ Ω,jx4 [.lst (ns.map .int)] []=some (.ok (.bl true),Ω)) :
  W.WalkX q b0 XP (W.X.obsZ as) (W.X.valZ K n t) l.row.toRowW d [] (fun f vs=>PySem.call f vs) :=
 jze he (walk (K:=K) hn jb (fun _ _ y=>y) F hm)
section
abbrev Fm:=List Int×Int
def fm(f:Fm):D:=.tup [.tup (f.1.map .int),.int f.2]
abbrev of(a:Fm):Option D:=some (fm a)
def addF(a b:Fm):Fm:=((a.1.zip b.1).map fun p=>p.1+p.2,a.2+b.2)
def mulF(a:Fm)(n:Int):Fm:=(a.1.map (·*n),a.2*n)
def BF(k:Nat)(f:Fm):Prop:=(∀ c∈f.1,Bt k c)/\Bt k f.2
def jcb(f:Fm):Bool:=f.1.all (· == 0)
def jBo(own:Nat)(caps:qf)(Y:DSt):jja own caps Y=List.replicate own none++caps.map fun p=>(Y[p.2]?).join:=rfl
def zip_tt(xs ys:List D):jgt [.tup xs,.tup ys]=some (zipD xs ys):=rfl
def stpA:=And.intro stp (And.intro (@jBo) True.intro)
def jk9{ds:List D}(h:ds.length<=1000):ja2 ds=oL ds:=jB5 (zdx h (by decide))
def jxd(a b:Fm)(h:a.1.length<=1000):jnx [fm a,fm b]=oK (fm (addF a b)):=by
 have e:=jo4 (c:=[]) (fe:=jne) (K:=fun p:Int×Int=>(D.int p.1,D.int p.2)) (F:=fun p=>.int (p.1+p.2)) (a.1.zip b.1) none none (fun p hp=>by unfold jne;simp only[stpA,Nat.reduceSub];rfl);unfold jnx;rw[jgv];unfold jqk fm addF;simp only[stpA,Nat.reduceSub,e,jk9 (ds:=List.map (fun p:Int×Int=>D.int (p.1+p.2)) (a.1.zip b.1)) (by rw[zav,List.length_zip];omega)];rw[List.map_map];rfl
def jom{k l:Nat}{a:Fm}{n:Int}(ha:BF k a)(hn:Bt l n)(hk:k<=100000)(hl:l<=100000)(h:a.1.length<=1000):jjv [fm a,.int n]=oK (fm (mulF a n)):=by
 have e:=ji1 (c:=[oI n]) (fe:=jnf) (K:=D.int) (F:=fun c=>.int (c*n)) a.1 none (fun c hc=>by unfold jnf;simp only[stpA,Nat.reduceSub,jdx (ha.1 c hc) hn hk hl];rfl);unfold jjv;rw[jgv];unfold jql fm mulF;simp only[stpA,Nat.reduceSub,e,jdx ha.2 hn hk hl,jk9 (ds:=List.map (fun c=>D.int (c*n)) a.1) (by rw[zav];omega)];rw[List.map_map];rfl
def jse(a:Fm)(h:a.1.length<=1000):jfm [fm a]=oK (.bl (jcb a)):=by
 have e:=ji1 (c:=[]) (fe:=jif) (K:=D.int) (F:=fun c=>.bl (c == 0)) a.1 none (fun c hc=>by unfold jif;simp only[stpA,Nat.reduceSub];rfl);unfold jfm;rw[ji3];unfold jjt fm jcb;have e2:(a.1.map fun c=>D.bl (c == 0))=(a.1.map fun c=>(c == 0)).map .bl:=by rw[List.map_map];rfl
 rw[e2] at e;simp only[stpA,Nat.reduceSub,e,jAy,jk9 (ds:=List.map D.bl (List.map (fun c=>c == 0) a.1)) (by rw[zav,zav];omega)];simp[M.p,List.all_map,Function.comp_def]
def jfs(a b:Fm):Fm:=if jcb b=true then mulF a b.2 else mulF b a.2
def lft{α:Type}{g:DSt->M α}{Y:DSt}{a:α}{Ω:Sto}(h:g Y=some (.ok a)):lF g Y Ω=some (.ok a,Ω):=by
 unfold lF MS.l;rw[h];rfl
def eseq{g1 g2:DSt->MS Out}{Y Y':DSt}{Ω Ω':Sto}(h:g1 Y Ω=some (.ok (.nx Y'),Ω')):eSeq g1 g2 Y Ω=g2 Y' Ω':=by
 unfold eSeq;rw[MS.b_ok h]
def jnj{g1 g2:DSt->MS Out}{Y:DSt}{d:D}{Ω Ω':Sto}(h:g1 Y Ω=some (.ok (.rt d),Ω')):eSeq g1 g2 Y Ω=some (.ok (.rt d),Ω'):=by
 unfold eSeq;rw[MS.b_ok h];rfl
def jf4{g1 g2:DSt->MS Out}{Y:DSt}{Ω Ω':Sto}{x:XD}(h:g1 Y Ω=some (.error x,Ω')):eSeq g1 g2 Y Ω=some (.error x,Ω'):=by
 unfold eSeq MS.b;rw[h]
def eif{t:DSt->MS Bool}{g1 g2:DSt->MS Out}{Y:DSt}{Ω Ω':Sto}{c:Bool}(h:t Y Ω=some (.ok c,Ω')):eIf t g1 g2 Y Ω=if c=true then g1 Y Ω' else g2 Y Ω':=by
 unfold eIf;rw[MS.b_ok h];cases c<;>rfl
def b_err{α β:Type}{m:MS α}{f:α->MS β}{Ω Ω1:Sto}{x:XD}(h:m Ω=some (.error x,Ω1)):m.b f Ω=some (.error x,Ω1):=by unfold MS.b;rw[h]
def jg9{a:SO}{r:Sto}(Ω:Sto):(Ω++a::r)[Ω.length]? = some a:=by
 rw[List.getElem?_append_right (zac _),Nat.sub_self];rfl
def errs(Ω:Sto)(f:Bool)(c:Str)(o:Int):Sto:=Ω++[.exc c (some (Ω.length+1),f),.xd [("place",.int o)]]
def jxw(Ω:Sto){c:Str}(hc:xcs.contains c=true)(o:Int):mirE 2 2 (jjr xcs "place" (lF (vR 0)) (lF (vR 1))) [.obj Ω.length,.int o] (Ω++[.exc c (none,true)])=some (.ok .non,errs Ω true c o):=by
 let Y:DSt:=[some (.obj Ω.length),oI o]
 unfold mirE;rw[if_pos (show [D.obj Ω.length,D.int o].length=2 from rfl)];refine (MS.b_ok (a:=.nx Y) (Ω1:=errs Ω true c o) ?_).trans rfl;show jjr xcs "place" (lF (vR 0)) (lF (vR 1)) Y _=_;unfold jjr;rw[MS.b_ok (a:=.int o) (Ω1:=Ω++[.exc c (none,true)]) rfl,MS.b_ok (a:=.obj Ω.length) (Ω1:=Ω++[.exc c (none,true)]) rfl];refine (MS.b_ok (a:=()) (Ω1:=errs Ω true c o) ?_).trans rfl;unfold putX;dsimp only;rw[jg9];dsimp only;rw[if_pos hc,List.append_assoc,List.set_append_right _ _ (zac _),Nat.sub_self,zcb];rfl
def jwe{Ω:Sto}{Y:DSt}{c:Str}{o:Int}{fl:DSt->MS (List D)}(hc:xcs.contains c=true)(h:fl Y Ω=some (.ok [.int o],Ω)):jgu xcs (jfa c (mirE 2 2 (jjr xcs "place" (lF (vR 0)) (lF (vR 1)))) fl) Y Ω=some (.error (xdO Ω.length),errs Ω false c o):=by
 have mk:jfa c (mirE 2 2 (jjr xcs "place" (lF (vR 0)) (lF (vR 1)))) fl Y Ω=some (.ok (.obj Ω.length),errs Ω true c o):=by
  unfold jfa;rw[MS.b_ok h];unfold jqt;rw[MS.b_ok (jxw Ω hc o)];rfl
 unfold jgu;rw[MS.b_ok mk];dsimp only;unfold jpu errs;rw[jg9];dsimp only;rw[if_pos hc,List.set_append_right _ _ (zac _),Nat.sub_self];rfl
def jyv{Ω:Sto}{Y:DSt}{o:Int}{fl:DSt->MS (List D)}(h:fl Y Ω=some (.ok [.int o],Ω)):jgu xcs (jfa "NotPlain" jdv fl) Y Ω=some (.error (xdO Ω.length),errs Ω false "NotPlain" o):=jwe (by decide) h
def jsk{Ω:Sto}{Y:DSt}{o:Int}{fl:DSt->MS (List D)}(h:fl Y Ω=some (.ok [.int o],Ω)):jgu xcs (jfa "NoText" jc1 fl) Y Ω=some (.error (xdO Ω.length),errs Ω false "NoText" o):=jwe (by decide) h
def jyp(Ω:Sto)(a b:Fm)(o:Int):Option (Except XD D×Sto):=if (jcb a || jcb b)=true then some (.ok (fm (jfs a b)),Ω) else some (.error (xdO Ω.length),errs Ω false "NotPlain" o)
def jto{k:Nat}{a b:Fm}{o:Int}(ha:BF k a)(hb:BF k b)(hk:k<=100000)(h1:a.1.length<=1000)(h2:b.1.length<=1000)(Ω:Sto):jhe [fm a,fm b,.int o] Ω=jyp Ω a b o:=by
 have tb:=jse b h2;have ta:=jse a h1;have x1:=jom ha hb.2 hk hk h1;have x2:=jom hb ha.2 hk hk h2;unfold jhe mirE;rw[if_pos (show [fm a,fm b,D.int o].length=3 from rfl)];unfold jyp;have e1:∀ f:Fm,gIx (fm f) (.int 1)=oI f.2:=fun f=>by unfold fm;simp
 show MS.b (ji7 [of a,of b,oI o]) outE Ω=_;unfold ji7
 by_cases q:jcb b=true
 ·rw[q] at tb;rw[if_pos (by rw[q,Bool.or_true]),show jfs a b=mulF a b.2 from if_pos q];refine (MS.b_ok (a:=.rt (fm (mulF a b.2))) (Ω1:=Ω) ?_).trans rfl;exact jnj (lft (by simp only[stpA,Nat.reduceSub,tb,e1,x1];rfl))
 ·rw[Bool.not_eq_true] at q;rw[q] at tb;rw[MS.b,eseq (Y':=[of a,of b,oI o]) (Ω':=Ω) (lft (by simp only[stpA,Nat.reduceSub,tb];rfl))]
  by_cases q2:jcb a=true
  ·rw[q2] at ta;rw[if_pos (by rw[q2,Bool.true_or]),show jfs a b=mulF b a.2 from if_neg (by rw[q];decide),jnj (d:=fm (mulF b a.2)) (Ω':=Ω) (lft (by simp only[stpA,Nat.reduceSub,ta,e1,x2];rfl))];rfl
  ·rw[Bool.not_eq_true] at q2;rw[q2] at ta;rw[if_neg (by rw[q,q2];decide),eseq (Y':=[of a,of b,oI o]) (Ω':=Ω) (lft (by simp only[stpA,Nat.reduceSub,ta];rfl)),jyv (lft (by rfl))]
structure OS where
 total:Fm
 term:Fm
 sign:Int
 star:Option Int
def jok:Option Int->D
 | none=>.non
 | some i=>.int i
def osO(o:OS):SO:=.ins "OpenSum" [("total",fm o.total),("term",fm o.term),("term_sign",.int o.sign),("star",jok o.star)]
section
variable {Ω:Sto}{i:Nat}{o:OS}
def jux(h:Ω[i]? = some (osO o)):getO ["OpenSum"] "total" (.obj i) Ω=some (.ok (fm o.total),Ω):=by unfold getO;dsimp only;rw[h];rfl
def jnr(h:Ω[i]? = some (osO o)):getO ["OpenSum"] "term" (.obj i) Ω=some (.ok (fm o.term),Ω):=by unfold getO;dsimp only;rw[h];rfl
def jxr(h:Ω[i]? = some (osO o)):getO ["OpenSum"] "term_sign" (.obj i) Ω=some (.ok (.int o.sign),Ω):=by unfold getO;dsimp only;rw[h];rfl
def jr2(h:Ω[i]? = some (osO o)):getO ["OpenSum"] "star" (.obj i) Ω=some (.ok (jok o.star),Ω):=by unfold getO;dsimp only;rw[h];rfl
def jwc(h:Ω[i]? = some (osO o))(f:Fm):putO ["OpenSum"] "total" (.obj i) (fm f) Ω=some (.ok (),Ω.set i (osO { o with total:=f })):=by unfold putO;dsimp only;rw[h];rfl
def jsj(h:Ω[i]? = some (osO o))(f:Fm):putO ["OpenSum"] "term" (.obj i) (fm f) Ω=some (.ok (),Ω.set i (osO { o with term:=f })):=by unfold putO;dsimp only;rw[h];rfl
def jyt(h:Ω[i]? = some (osO o))(f:Int):putO ["OpenSum"] "term_sign" (.obj i) (.int f) Ω=some (.ok (),Ω.set i (osO { o with sign:=f })):=by unfold putO;dsimp only;rw[h];rfl
def jsi(h:Ω[i]? = some (osO o))(f:Option Int):putO ["OpenSum"] "star" (.obj i) (jok f) Ω=some (.ok (),Ω.set i (osO { o with star:=f })):=by unfold putO;dsimp only;rw[h];rfl
end
def stsA:=And.intro (@s_b) <| And.intro (@jis) <| And.intro (@s_p) <| And.intro (@s_lp) <| And.intro (@jIo) <| And.intro (@s_o) <| And.intro (@s_lF) <| And.intro (@jIn) <| And.intro (@jAk) <| And.intro (@s_2) <| And.intro (@s_L) <| And.intro (@jwo) <| And.intro (@jGk) <| And.intro (@jGp) <| And.intro (@jGo) <| And.intro (@jAl) <| And.intro (@jIq) <| And.intro (@s_if) <| And.intro (@s_nx) <| And.intro (@jIp) <| And.intro (@jIr) <| And.intro (@jA1) <| And.intro (@s_B) <| And.intro (@jrd) <| And.intro (@jDd) <| And.intro (@jDa) <| And.intro (@jy2) <| And.intro (@jy1) <| And.intro (@jAm) <| And.intro (@jwp) <| And.intro (@jGl) <| True.intro
section
variable {Ω:Sto}{i:Nat}{o:OS}
def wholeF(o:OS):Fm:=addF o.total o.term
def jon(h:Ω[i]? = some (osO o))(w:o.total.1.length<=1000):jba [.obj i] Ω=some (.ok (fm (wholeF o)),Ω):=by
 unfold jba;rw[jGm];unfold jew;simp only[stsA,stpA,Nat.reduceSub,jux h,jnr h,jxd o.total o.term w];rfl
def jmv{x:SO}(h:Ω[i]? = some x)(y:SO):(Ω.set i y)[i]? = some y:=by
 have:=(zbb.mp h).1;rw[zcz this]
def jlw(x y:SO):(Ω.set i x).set i y=Ω.set i y:=by simp
def jGb{f:Str}{d:D}{fs:List (Str×D)}(h:Ω[i]? = some (.ins "OpenSum" fs))(hl:fs.length<1000):putO ["OpenSum"] f (.obj i) d Ω=some (.ok (),Ω.set i (.ins "OpenSum" (putD f d fs))):=by
 unfold putO;dsimp only;rw[h];dsimp only;rw[if_pos (by rw[decide_eq_true hl];rfl)]
def jC2{f:Str}{d:D}{fs kn:List (Str×D)}(h:Ω[i]? = some (.ins "OpenSum" []))(hl:fs.length<1000)(e:putD f d fs=kn):putO ["OpenSum"] f (.obj i) d (Ω.set i (.ins "OpenSum" fs))=some (.ok (),Ω.set i (.ins "OpenSum" kn)):=by
 rw[jGb (jmv h _) hl,jlw,e]
def jB1(h:Ω[i]? = some (.ins "OpenSum" []))(n:Nat)(hn:n<=1000):ja9 [.obj i,.int n] Ω=some (.ok .non,Ω.set i (osO ⟨(List.replicate n 0,0),(List.replicate n 0,0),1,none⟩)):=by
 unfold ja9;rw[jwq];unfold jef;have hr:=jEk (Y:=[some (.obj i),oI n]) (fl:=jac (cI 0) fNil) (fb:=vR 1) (.int 0) n rfl rfl hn
 let z:D:=.tup [.tup (List.replicate n (.int 0)),.int 0]
 have p1:putO ["OpenSum"] "total" (.obj i) (.tup [.tup (List.replicate n (.int 0)),.int 0]) Ω=some (.ok (),Ω.set i (.ins "OpenSum" [("total",z)])):=jGb h (by decide);have q1:(Ω.set i (.ins "OpenSum" [("total",z)]))[i]? = some (.ins "OpenSum" [("total",z)]):=jmv h _;have g1:getO ["OpenSum"] "total" (.obj i) (Ω.set i (.ins "OpenSum" [("total",z)]))=some (.ok z,Ω.set i (.ins "OpenSum" [("total",z)])):=by unfold getO;dsimp only;rw[q1];rfl
 have p2:putO ["OpenSum"] "term" (.obj i) z (Ω.set i (.ins "OpenSum" [("total",z)]))=some (.ok (),Ω.set i (.ins "OpenSum" [("total",z),("term",z)])):=jC2 h (by show 1<1000;decide) rfl;have p3:putO ["OpenSum"] "term_sign" (.obj i) (.int 1) (Ω.set i (.ins "OpenSum" [("total",z),("term",z)]))=some (.ok (),Ω.set i (.ins "OpenSum" [("total",z),("term",z),("term_sign",.int 1)])):=jC2 h (by show 2<1000;decide) rfl;have p4:putO ["OpenSum"] "star" (.obj i) .non (Ω.set i (.ins "OpenSum" [("total",z),("term",z),("term_sign",.int 1)]))=some (.ok (),Ω.set i (.ins "OpenSum" [("total",z),("term",z),("term_sign",.int 1),("star",.non)])):=jC2 h (by show 3<1000;decide) rfl;simp only[stsA,stpA,Nat.reduceSub,hr,p1,g1,p2,p3,p4];unfold osO fm;rw[List.map_replicate];rfl
def takeF(o:OS)(f:Fm):OS:={ o with term:=match o.star with
 | none=>mulF f o.sign
 | some _=>jfs o.term f }
def jnl(o:OS)(f:Fm):Option Int:=match o.star with
 | none=>none
 | some p=>if (jcb o.term || jcb f)=true then none else some p
def jzc(Ω:Sto)(i:Nat)(o:OS)(f:Fm):Option (Except XD D×Sto):=match jnl o f with
 | none=>some (.ok .non,Ω.set i (osO (takeF o f)))
 | some p=>some (.error (xdO Ω.length),errs Ω false "NotPlain" p)
def jo9{k:Nat}{f:Fm}(h:Ω[i]? = some (osO o))(hf:BF k f)(kc:f.1.length<=1000)(hk:k<=100000)(hs:Bt k o.sign)(ht:o.star≠none->BF k o.term/\o.term.1.length<=1000) :
  ja4 [.obj i,fm f] Ω=jzc Ω i o f:=by
 unfold ja4;rw[jwq];unfold jc0 jzc jnl takeF
 cases e:o.star with
 | none =>
  have g1:=jr2 h;rw[e] at g1;have i1:gIs (jok none) .non=some (.bl true):=rfl;have x:=jom hf hs hk hk kc;simp only[stsA,stpA,Nat.reduceSub,g1,i1,jxr h,x,jsj h];rw[e]
 | some p =>
  have g1:=jr2 h;rw[e] at g1;obtain⟨t1,t2⟩:=ht (by rw[e];exact nofun);have i1:gIs (jok (some p)) .non=some (.bl false):=rfl;have x:=jto (o:=p) t1 hf hk t2 kc Ω;have x':jhe [fm o.term,fm f,jok (some p)] Ω=jyp Ω o.term f p:=x;unfold jyp at x';dsimp only
  by_cases q:(jcb o.term || jcb f)=true
  ·rw[if_pos q] at x' |-
   simp only[stsA,stpA,Nat.reduceSub,g1,i1,jnr h,x',jsj h];rw[e]
  ·rw[if_neg q] at x' |-
   simp only[stsA,stpA,Nat.reduceSub,g1,i1,jnr h,x'];rfl
def signF(o:OS)(c:Str)(p:Int):OS:=if c="*" then { o with star:=some p } else { total:=wholeF o,term:=o.term,sign:=if c="-" then -1 else 1,star:=none }
def jbg(x y:Str):gEq (.str x) (.str y)=some (.bl (x == y)):=rfl
def jDf{c:Str}{p:Int}(h:Ω[i]? = some (osO o))(w:o.total.1.length<=1000):jbv [.obj i,.str c,.int p] Ω=some (.ok .non,Ω.set i (osO (signF o c p))):=by
 unfold jbv;rw[jGn];unfold jde signF
 by_cases q:c="*"
 ·have q':(c == "*")=true:=by rw[q];rfl
  have x:=jsi h (some p);rw[show jok (some p)=D.int p from rfl] at x;simp only[stsA,stpA,Nat.reduceSub,jbg,q',x,if_pos q]
 ·have q':(c == "*")=false:=beq_eq_false_iff_ne.mpr q;have x:=jon h w;have y:jn3 "OpenSum" "whole" jba i (lF fNil) [some (.obj i),oS c,oI p] Ω=some (.ok (fm (wholeF o)),Ω):=by
   unfold jn3;rw[h];show (if _/\_ then _ else _)=_;rw[if_pos ⟨rfl,rfl⟩];simp only[stsA,stpA,Nat.reduceSub,x]
  have p1:=jwc h (wholeF o);have h1:=jmv h (osO { o with total:=wholeF o });have p2:=fun n=>jyt h1 n
  have h2:∀ n,(Ω.set i (osO { o with total:=wholeF o,sign:=n }))[i]? = some (osO { o with total:=wholeF o,sign:=n }):=fun n=>jmv h _
  have p3:=fun n=>jsi (h2 n) none
  rw[show jok none=D.non from rfl] at p3
  by_cases q2:c="-"
  ·have gk:(c == "-")=true:=by rw[q2];rfl
   simp only[stsA,stpA,Nat.reduceSub,jbg,q',y,p1,gk,neg_int,p2,jlw,p3,if_neg q,if_pos q2]
  ·have gk:(c == "-")=false:=beq_eq_false_iff_ne.mpr q2;simp only[stsA,stpA,Nat.reduceSub,jbg,q',y,p1,gk,p2,jlw,p3,if_neg q,if_neg q2]
end
end
section
def Stk(Ω:Sto):List Nat->List OS->Prop
 | [],[]=>True
 | i::r,o::os=>Ω[i]? = some (osO o)/\i∉r/\Stk Ω r os
 | _,_=>False
theorem Stk.set{Ω:Sto}{i:Nat}{x:SO}:∀ {r:List Nat} {os:List OS},i∉r->Stk Ω r os->Stk (Ω.set i x) r os
 | [],[],_,_=>trivial
 | j::r,o::os,hi,h=>by
  obtain⟨h1,h2,h3⟩:=h;have i7:i≠j:=fun e=>hi (by rw[e];exact zaa)
  exact⟨by rw[zbw i7];exact h1,h2,Stk.set (fun z=>hi (zaw _ z)) h3⟩
 | [],_::_,_,h=>h.elim
 | _::_,[],_,h=>h.elim
theorem Stk.push{Ω:Sto}{x:SO}:∀ {r:List Nat} {os:List OS},Stk Ω r os->Stk (Ω++[x]) r os
 | [],[],_=>trivial
 | j::r,o::os,h=>by
  obtain⟨h1,h2,h3⟩:=h;have:=(zbb.mp h1).1;exact⟨by rw[List.getElem?_append_left this];exact h1,h2,Stk.push h3⟩
 | [],_::_,h=>h.elim
 | _::_,[],h=>h.elim
theorem Stk.lt{Ω:Sto}:∀ {r:List Nat} {os:List OS},Stk Ω r os->∀ i∈r,i<Ω.length
 | [],[],_=>fun i hi=>(nomatch hi)
 | j::r,o::os,h=>fun i hi=>by
  rcases List.mem_cons.mp hi with rfl|hi
  ·exact (zbb.mp h.1).1
  ·exact Stk.lt h.2.2 i hi
 | [],_::_,h=>h.elim
 | _::_,[],h=>h.elim
def fresh(n:Nat):OS:=⟨(List.replicate n 0,0),(List.replicate n 0,0),1,none⟩
def jve{Ω:Sto}{n:Nat}(hn:n<=1000):jtg "OpenSum" ja9 [.int n] Ω=some (.ok (.obj Ω.length),Ω++[osO (fresh n)]):=by
 unfold jtg;have h:(Ω++[SO.ins "OpenSum" []])[Ω.length]? = some (.ins "OpenSum" []):=by simp
 rw[s_b,jB1 h n hn];simp[fresh]
def KB:Nat:=90000
structure OkT(n:Nat)(b:OS)(f:Fm):Prop where
 lf:f.1.length=n
 bf:BF KB f
 bs:Bt KB b.sign
 pl:b.star≠none->BF KB b.term/\b.term.1.length=n
def jbl(w:Str):Bool:=inD (.str w) [.str "+",.str "-",.str "*"]
def jj7{w:Str}(h:jbl w=true):w="+"\/w="-"\/w="*":=by
 have:(("+":Str) == w || (("-":Str) == w || (("*":Str) == w || false)))=true:=h;simp only[Bool.or_eq_true,beq_iff_eq,Bool.false_eq_true,or_false] at this;rcases this with e|e|e
 ·exact .inl e.symm
 ·exact .inr (.inl e.symm)
 ·exact .inr (.inr e.symm)
def ji9(w:Str):gIn (.str w) (.tup [.str "+",.str "-",.str "*"])=some (.bl (jbl w)):=rfl
def jA2{α:Type}(xs:List α)(x:α):atI (xs++[x]) (-1)=some x:=by
 unfold atI ixN;rw[if_neg (by decide),if_pos (by rw[zcb];simp;omega)];have:(-1+(((xs++[x]).length:Nat):Int)).toNat=xs.length:=by rw[zcb];simp;omega
 rw[Option.bind_some,this];simp
def idsD(r:List Nat):D:=.lst (r.reverse.map .obj)
def jns(i:Nat)(r:List Nat):idsD (i::r)=.lst (r.reverse.map .obj++[.obj i]):=by unfold idsD;simp
section
variable {n:Nat}{nm pc:D}{x y z:Option D}{Ω:Sto}{i:Nat}{r:List Nat}{o:OS}{os:List OS}
def jqr:gIx (idsD (i::r)) (.int (-1))=some (.obj i):=by
 rw[jns];exact jA2 _ _
def jle{f:Str}{m:List D->MS D}{fl:DSt->MS (List D)}{Y:DSt}(h:Ω[i]? = some (osO o))(hf:([("total",fm o.total),("term",fm o.term),("term_sign",.int o.sign),("star",jok o.star)]:List (Str×D)).lookup f=none) :
  jn3 "OpenSum" f m i fl Y Ω=((fl Y).b fun ds=>m (.obj i::ds)) Ω:=by
 unfold jn3;rw[h];show (if _/\_ then _ else _)=_;rw[if_pos ⟨rfl,hf⟩]
def RS1(nm pc:D)(r:List Nat)(Y:DSt):Prop:=∃ x y z,Y=[some nm,some pc,some (idsD r),x,y,z]
def jD3{i:Nat}{fa:DSt->MS D}{Y:DSt}{ds:List D}{d:D}{Ω Ω':Sto}(h:fa Y Ω=some (.ok d,Ω'))(hi:(Y[i]?).join=oL ds)(hl:ds.length<sizeLine):eApp i fa Y Ω=some (.ok (.nx (Y.set i (oL (ds++[d])))),Ω'):=by
 unfold eApp;rw[s_b,h,jis,hi];dsimp only;rw[if_pos hl];rfl
def jBy{r:List Nat}(hr:r.length<=1000000):(r.reverse.map D.obj).length<sizeLine:=by
 rw[zav,List.length_reverse,sizeLine_eq];exact Nat.lt_of_le_of_lt (by assumption) (by decide)
def jy7{p:Int}{L:List D}(hn:n<=1000)(hl:L.length=n)(S:Stk Ω r os)(hr:r.length<=1000000) :
  jbo [oL L,some pc,some (idsD r),some (.str "("),oI p,z] Ω=some (.ok (.nx [oL L,some pc,some (idsD (Ω.length::r)),some (.str "("),oI p,z]),Ω++[osO (fresh n)])/\Stk (Ω++[osO (fresh n)]) (Ω.length::r) (fresh n::os):=by
 refine⟨?_,by simp,fun hi=>Nat.lt_irrefl _ (S.lt _ hi),S.push⟩;unfold jbo;have q:((Str.ofString "(") == (Str.ofString "("))=true:=by decide +kernel
 have m:=jve (Ω:=Ω) hn;have e:jpf "OpenSum" ja9 (lF (jac (fL kLen (jac (vR 0) fNil)) fNil)) [oL L,some pc,some (idsD r),some (.str "("),oI p,z] Ω=some (.ok (.obj Ω.length),Ω++[osO (fresh n)]):=by
  have l:lF (jac (fL kLen (jac (vR 0) fNil)) fNil) [oL L,some pc,some (idsD r),some (.str "("),oI p,z] Ω=some (.ok [.int n],Ω):=by simp only[stsA,stpA,jpc,hl]
  rw[jwp,s_b,l,jis,m]
 generalize jpf "OpenSum" ja9 (lF (jac (fL kLen (jac (vR 0) fNil)) fNil))=X at e |-
 have a:eApp 2 X [oL L,some pc,some (idsD r),some (.str "("),oI p,z] Ω=some (.ok (.nx [oL L,some pc,some (idsD (Ω.length::r)),some (.str "("),oI p,z]),Ω++[osO (fresh n)]):=by
  rw[jns];exact jD3 (i:=2) (ds:=r.reverse.map .obj) e rfl (jBy hr)
 have t:lF (t2 gEq (vR 3) (fC (.str "("))) [oL L,some pc,some (idsD r),some (.str "("),oI p,z] Ω=some (.ok true,Ω):=by simp only[stsA,stpA,jbg,q]
 rw[s_if,s_b,t,jis,if_pos rfl,a]
def jst{c:Str}{p:Int}(hc:jbl c=true)(hn:n<=1000)(ht:o.total.1.length=n)(S:Stk Ω (i::r) (o::os)) :
  jbo [some nm,some pc,some (idsD (i::r)),oS c,oI p,z] Ω=some (.ok (.nx [some nm,some pc,some (idsD (i::r)),oS c,oI p,z]),Ω.set i (osO (signF o c p)))/\Stk (Ω.set i (osO (signF o c p))) (i::r) (signF o c p::os):=by
 refine⟨?_,jmv S.1 _,S.2.1,S.2.2.set S.2.1⟩;unfold jbo;have q1:(c == Str.ofString "(")=false:=by rcases jj7 hc with rfl|rfl|rfl<;>decide +kernel
 have q2:(c == Str.ofString ")")=false:=by rcases jj7 hc with rfl|rfl|rfl<;>decide +kernel
 have x:=jDf (c:=c) (p:=p) S.1 (by omega);have y:=fun (fl:DSt->MS (List D)) (Y:DSt)=>jle (m:=jbv) (fl:=fl) (Y:=Y) (f:="take_sign") S.1 rfl
 simp only[stsA,stpA,jbg,q1,q2,ji9,hc,neg_int,jqr,y,x]
def jp9(Ω:Sto)(i:Nat)(o:OS)(f:Fm)(Y:DSt):Option (Except XD Out×Sto):=match jnl o f with
 | none=>some (.ok (.nx Y),Ω.set i (osO (takeF o f)))
 | some p=>some (.error (xdO Ω.length),errs Ω false "NotPlain" p)
def Stk.took{f:Fm}(S:Stk Ω (i::r) (o::os)):Stk (Ω.set i (osO (takeF o f))) (i::r) (takeF o f::os):=⟨jmv S.1 _,S.2.1,S.2.2.set S.2.1⟩
def jw2{f:Fm}{Y:DSt}{m:DSt->MS D}(h:m Y Ω=jzc Ω i o f):jqg m Y Ω=jp9 Ω i o f Y:=by
 unfold jp9;unfold jzc at h;rw[jAl,MS.b,h];cases jnl o f<;>rfl
def jsu{w:Str}{p:Int}{f:Fm}(h1:(w == Str.ofString "(")=false)(h2:(w == Str.ofString ")")=false)(h3:jbl w=false)(hf:jct [nm,.str w]=oK (fm f))(hn:n<=1000)(T:OkT n o f)(S:Stk Ω (i::r) (o::os)) :
  jbo [some nm,some pc,some (idsD (i::r)),oS w,oI p,z] Ω=jp9 Ω i o f [some nm,some pc,some (idsD (i::r)),oS w,oI p,z]:=by
 unfold jbo;have x:=jo9 (k:=KB) S.1 T.bf (by rw[T.lf];exact hn) (by decide) T.bs (fun z=>let ⟨a,b⟩:=T.pl z;⟨a,by omega⟩);have y:=fun (fl:DSt->MS (List D)) (Y:DSt)=>jle (m:=ja4) (fl:=fl) (Y:=Y) (f:="take_factor") S.1 rfl
 rw[eif (c:=false) (Ω':=Ω) (lft (by simp only[stpA,jbg,h1];rfl)),if_neg (by decide),eif (c:=false) (Ω':=Ω) (lft (by simp only[stpA,jbg,h2];rfl)),if_neg (by decide),eif (c:=false) (Ω':=Ω) (lft (by simp only[stpA,ji9,h3];rfl)),if_neg (by decide)];refine jw2 ?_;simp only[stsA,stpA,neg_int,jqr,y,hf,x]
def jss{p:Int}{j:Nat}{b:OS}(hn:n<=1000)(ht:o.total.1.length=n)(T:OkT n b (wholeF o))(S:Stk Ω (i::j::r) (o::b::os)) :
  jbo [some nm,some pc,some (idsD (i::j::r)),some (.str ")"),oI p,z] Ω=jp9 Ω j b (wholeF o) [some nm,some pc,some (idsD (j::r)),some (.str ")"),oI p,some (.obj i)]:=by
 have Sb:=S.2.2;unfold jbo;have q1:(Str.ofString ")" == Str.ofString "(")=false:=by decide +kernel
 have q2:(Str.ofString ")" == Str.ofString ")")=true:=by decide +kernel
 have pp:ePop 5 2 [some nm,some pc,some (idsD (i::j::r)),some (.str ")"),oI p,z] Ω=some (.ok (.nx [some nm,some pc,some (idsD (j::r)),some (.str ")"),oI p,some (.obj i)]),Ω):=by
  unfold ePop;rw[jns];have e1:((j::r).reverse.map D.obj++[D.obj i])[((j::r).reverse.map D.obj++[D.obj i]).length-1]? = some (D.obj i):=by simp
  simp only[stpA];rw[e1];dsimp only;rw[List.dropLast_concat];rfl
 have w:=jon S.1 (by omega);have x:=jo9 (k:=KB) Sb.1 T.bf (by rw[T.lf];exact hn) (by decide) T.bs (fun z=>let ⟨a,b⟩:=T.pl z;⟨a,by omega⟩);have y:=fun (fl:DSt->MS (List D)) (Y:DSt)=>jle (m:=ja4) (fl:=fl) (Y:=Y) (f:="take_factor") Sb.1 rfl
 have y2:=fun (fl:DSt->MS (List D)) (Y:DSt)=>jle (m:=jba) (fl:=fl) (Y:=Y) (f:="whole") S.1 rfl
 rw[eif (c:=false) (Ω':=Ω) (lft (by simp only[stpA,jbg,q1];rfl)),if_neg (by decide),eif (c:=true) (Ω':=Ω) (lft (by simp only[stpA,jbg,q2];rfl)),if_pos rfl,eseq pp];refine jw2 ?_;simp only[stsA,stpA,neg_int,jqr,y,y2,w,x]
end
end
section
def jgi(f:Fm)(n:Int):(mulF f n).1.length=f.1.length:=by unfold mulF;simp
def jm1{f g:Fm}(h:f.1.length=g.1.length):(addF f g).1.length=f.1.length:=by unfold addF;simp;omega
def jsa(f:Fm):mulF f 1=f:=by unfold mulF;simp
def jkq(f:Fm)(a b:Int):mulF (mulF f a) b=mulF f (a*b):=by
 unfold mulF;simp[List.map_map,Function.comp_def,Int.mul_assoc]
def jvm(f:Fm)(a b:Int):mulF (mulF f a) b=mulF (mulF f b) a:=by rw[jkq,jkq,Int.mul_comm]
def jsd{f:Fm}(h:jcb f=true):f=(List.replicate f.1.length 0,f.2):=by
 obtain⟨cs,k⟩:=f;unfold jcb at h;simp only[List.all_eq_true,beq_iff_eq] at h;have:cs=List.replicate cs.length 0:=List.eq_replicate_iff.mpr ⟨rfl,h⟩;simp only;rw[<- this]
def jor{f:Fm}:addF (List.replicate f.1.length 0,0) f=f:=by
 obtain⟨cs,k⟩:=f;unfold addF;simp only[Int.zero_add,Prod.mk.injEq,and_true]
 induction cs with
 | nil=>rfl
 | cons c cs ih=>rw[List.length_cons,List.replicate_succ,List.zip_cons_cons,List.map_cons,ih,Int.zero_add]
def jhy{f g:Fm}(h:jcb g=true):jfs f g=mulF f g.2:=by unfold jfs;rw[if_pos h]
def jlp{f g:Fm}(h:jcb f=true)(hl:f.1.length=g.1.length):jfs f g=mulF g f.2:=by
 unfold jfs
 split
 ·rename_i hg;rw[jsd h,jsd hg,hl];unfold mulF;simp[Int.mul_comm]
 ·rfl
def BF.mono{j k:Nat}{f:Fm}(h:BF j f)(hk:j<=k):BF k f:=⟨fun c hc=>(h.1 c hc).mono hk,h.2.mono hk⟩
def BF.mul{j k:Nat}{f:Fm}{n:Int}(h:BF j f)(hn:Bt k n):BF (j+k) (mulF f n):=by
 refine⟨fun c hc=>?_,h.2.mul hn⟩;obtain⟨d,hd,rfl⟩:=List.mem_map.mp hc;exact (h.1 d hd).mul hn
def BF.neg{j:Nat}{f:Fm}(h:BF j f):BF j (mulF f (-1)):=by
 refine⟨fun c hc=>?_,?_⟩
 ·obtain⟨d,hd,rfl⟩:=List.mem_map.mp hc;have:=(h.1 d hd).neg;simpa[Int.mul_neg] using this
 ·have:=h.2.neg;show Bt j (f.2*-1);simpa[Int.mul_neg] using this
def BF.add{j:Nat}{f g:Fm}(h:BF j f)(k:BF j g):BF (j+1) (addF f g):=by
 refine⟨fun c hc=>?_,h.2.add k.2⟩;obtain⟨⟨a,b⟩,hd,rfl⟩:=List.mem_map.mp hc;have:=List.of_mem_zip hd;exact (h.1 _ this.1).add (k.1 _ this.2)
def BF.sgn{j:Nat}{f:Fm}{s:Int}(h:BF j f)(hs:s=1\/s=-1):BF j (mulF f s):=by
 rcases hs with rfl|rfl
 ·rw[jsa];exact h
 ·exact h.neg
def jdk{g:DSt->MS Out}{tg:D->DSt->Option DSt}{d:D}{ds:List D}{Y Y1 Y2:DSt}{Ω Ω1:Sto}(h1:tg d Y=some Y1)(h2:g Y1 Ω=some (.ok (.nx Y2),Ω1)):forE g tg (d::ds) Y Ω=forE g tg ds Y2 Ω1:=by
 conv=>lhs;unfold forE
 rw[h1];dsimp only;rw[s_b,h2,jis]
structure Wd(nm:D)(frm:Str->Fm)(w:Str):Prop where
 p1:(w == Str.ofString "(")=false
 p2:(w == Str.ofString ")")=false
 p3:jbl w=false
 fw:jct [nm,.str w]=oK (fm (frm w))
def Stk.inv{Ω:Sto}{a:OS}{os:List OS}{r:List Nat}(h:Stk Ω r (a::os)):∃ i r',r=i::r':=by
 cases r with
 | nil=>exact h.elim
 | cons i r'=>exact⟨i,r',rfl⟩
def jnn{g:DSt->MS Out}{tg:D->DSt->Option DSt}{d:D}{ds:List D}{Y Y1:DSt}{Ω Ω1:Sto}{x:XD}(h1:tg d Y=some Y1)(h2:g Y1 Ω=some (.error x,Ω1)):forE g tg (d::ds) Y Ω=some (.error x,Ω1):=by
 conv=>lhs;unfold forE
 rw[h1];dsimp only;unfold MS.b;rw[h2]
def jGr{s:Int}(h:s=1\/s=-1):Bt KB s:=by
 have:Bt 1 s:=by unfold Bt;rcases h with rfl|rfl<;>decide
 exact this.mono (by decide)
def jnu:jbl "-"=true:=by decide +kernel
def jtu(o:OS)(p:Int):signF o "*" p={ o with star:=some p }:=if_pos rfl
def jtt(o:OS)(p:Int):signF o "+" p=⟨wholeF o,o.term,1,none⟩:=by unfold signF;rw[if_neg (by decide +kernel),if_neg (by decide +kernel)]
def jre(o:OS)(p:Int):signF o "-" p=⟨wholeF o,o.term,-1,none⟩:=by unfold signF;rw[if_neg (by decide +kernel),if_pos rfl]
def jyr(f g:Fm)(t:Int):jfs (mulF f t) g=mulF (jfs f g) t:=by
 unfold jfs
 split
 ·exact jvm _ _ _
 ·show mulF g (f.2*t)=_;rw[jkq]
end
section
def S1(c:Nat):Str:=⟨#[c]⟩
def isL(c:Nat):Bool:=decide (97<=c)&&decide (c<=122)
def isG(c:Nat):Bool:=decide (48<=c)&&decide (c<=57)
def jr4(a b:Nat):gLe (.str (S1 a)) (.str (S1 b))=some (.bl (decide (a<=b))):=by
 show some (D.bl (!decide ([b]<[a])))=_;have:([b]<[a])↔b<a:=by
  constructor
  ·intro h
   cases h with
   | rel h=>exact h
   | cons h=>cases h
  ·exact fun h=>.rel h
 simp only[this]
 by_cases q:a<=b
 ·rw[decide_eq_true q,decide_eq_false (by omega)];rfl
 ·rw[decide_eq_false q,decide_eq_true (by omega)];rfl
def jIb:(Str.ofString "a")=S1 97:=by decide +kernel
def jIc:(Str.ofString "z")=S1 122:=by decide +kernel
def jFa:(Str.ofString "0")=S1 48:=by decide +kernel
def jIa:(Str.ofString "9")=S1 57:=by decide +kernel
def jro{g g':D->D->Option D}{fa fb fc:DSt->M D}{Y:DSt}{x y z:D}{p q:Bool}(ha:fa Y=M.p x)(hb:fb Y=M.p y)(hc:fc Y=M.p z)(h1:g x y=some (.bl p))(h2:g' y z=some (.bl q)):jo8 g g' fa fb fc Y=M.p (.bl (p&&q)):=by
 unfold jo8;rw[ha,hb,M.b_p,M.b_p,h1]
 cases p with
 | true=>dsimp only;rw[hc,M.b_p,h2];rfl
 | false=>rfl
def jhc(c:Nat):ja5 [.str (S1 c)]=oK (.bl (isL c)):=by
 unfold ja5;rw[ji3];unfold jim;rw[jta,jro (x:=.str (S1 97)) (y:=.str (S1 c)) (z:=.str (S1 122)) (p:=decide (97<=c)) (q:=decide (c<=122)) (by rw[jIb];rfl) rfl (by rw[jIc];rfl) (jr4 _ _) (jr4 _ _)];rfl
def jk0(c:Nat):jbw [.str (S1 c)]=oK (.bl (isG c)):=by
 unfold jbw;rw[ji3];unfold jil;rw[jta,jro (x:=.str (S1 48)) (y:=.str (S1 c)) (z:=.str (S1 57)) (p:=decide (48<=c)) (q:=decide (c<=57)) (by rw[jFa];rfl) rfl (by rw[jIa];rfl) (jr4 _ _) (jr4 _ _)];rfl
def len_str{x:Str}(h:x.length<=50000):kLen [.str x]=oI x.length:=if_pos (by rw[sizeLine_eq];exact zdx (by assumption) (by decide))
structure At(x:Str)(pre rest:List Nat):Prop where
 eq:x.cps.toList=pre++rest
 small:x.length<=50000
def At.len{x:Str}{pre rest:List Nat}(h:At x pre rest):x.length=pre.length+rest.length:=by
 have:x.length=x.cps.toList.length:=by simp[Str.length]
 rw[this,h.eq,zcb]
def At.ix{x:Str}{pre rest:List Nat}{c:Nat}(h:At x pre (c::rest)):gIx (.str x) (.int (pre.length:Nat))=oS (S1 c):=by
 show (if x.length<=sizeLine then (atI x.cps.toList (pre.length:Nat)).map fun c=>D.str ⟨#[c]⟩ else none)=_;rw[if_pos (by rw[sizeLine_eq];have:=h.small;exact zdx (by assumption) (by decide)),h.eq,DL.atI_get (v:=c) (by simp)];rfl
def At.step{x:Str}{pre a rest:List Nat}(h:At x pre (a++rest)):At x (pre++a) rest:=⟨by rw[h.eq,List.append_assoc],h.small⟩
def At.slice{x:Str}{pre a rest:List Nat}(h:At x pre (a++rest)):Txt.slice x (some (pre.length:Nat)) (some ((pre.length+a.length:Nat):Int))=⟨a.toArray⟩:=by
 have hb:=PyProof.Rows.slice_closes (x:=x) (i:=(pre.length:Nat)) (j:=((pre.length+a.length:Nat):Int)) ⟨by exact Int.natCast_nonneg _,by omega,by rw[h.eq];simp;omega⟩;rw[eq_of_beq hb,h.eq];congr 2;have:((pre.length:Nat):Int).toNat=pre.length:=Int.toNat_natCast _;rw[this,List.drop_left];have:(((pre.length+a.length:Nat):Int)-(pre.length:Nat)).toNat=a.length:=by omega
 rw[this,List.take_left]
def At.cut{x:Str}{pre a rest:List Nat}(h:At x pre (a++rest)):cutD (.str x) (some (pre.length:Nat)) (some ((pre.length+a.length:Nat):Int))=oS ⟨a.toArray⟩:=by
 show (if x.length<=sizeLine then some (D.str (Txt.slice x _ _)) else none)=_;rw[if_pos (by rw[sizeLine_eq];have:=h.small;exact zdx (by assumption) (by decide)),h.slice]
def jsx{t:DSt->M Bool}{g:DSt->M Out}{k:Nat}{Y Y':DSt}(h1:t Y=some (.ok true))(h2:g Y=some (.ok (.nx Y'))):jed t g (k+1) Y=jed t g k Y':=by
 conv=>lhs;unfold jed
 rw[h1,M.b_ok,if_pos rfl,h2,M.b_ok]
def jjo{t:DSt->M Bool}{g:DSt->M Out}{k:Nat}{Y:DSt}(h1:t Y=some (.ok false)):jed t g (k+1) Y=nX Y:=by
 conv=>lhs;unfold jed
 rw[h1,M.b_ok,if_neg (by decide)];rfl
def ed(x:Str)(p e:Nat):DSt:=[oS x,oI p,oI e]
def jHt(x:Str)(p e:Nat):jcx (ed x p e)=nX (ed x p (e+1)):=by
 unfold jcx ed;simp only[stpA,DL.add_int];rfl
def jHu(x:Str)(p e:Nat):jcy (ed x p e)=nX (ed x p (e+1)):=by
 unfold jcy ed;simp only[stpA,DL.add_int];rfl
def jGu{x:Str}{p:Nat}{pre rest:List Nat}{c:Nat}(h:At x pre (c::rest)):jb0 (ed x p pre.length)=oK (isL c&&decide (pre.length<p+10)):=by
 unfold jb0 ed;have hl:=h.len;rw[List.length_cons] at hl;have e1:decide (((pre.length:Nat):Int)<(x.length:Nat))=true:=decide_eq_true (by omega);simp only[stpA,len_str h.small,lt_int,e1,h.ix,jhc,sub_int]
 cases isL c with
 | false=>rfl
 | true =>
  have:decide (((pre.length:Nat):Int)-(p:Nat)<10)=decide (pre.length<p+10):=by
   by_cases q:pre.length<p+10
   ·rw[decide_eq_true q,decide_eq_true (by omega)]
   ·rw[decide_eq_false q,decide_eq_false (by omega)]
  simp only[stpA,this];rfl
def jGv{x:Str}{p:Nat}{pre:List Nat}(h:At x pre []):jb0 (ed x p pre.length)=oK false:=by
 unfold jb0 ed;have hl:=h.len;rw[List.length_nil] at hl;have e1:decide (((pre.length:Nat):Int)<(x.length:Nat))=false:=decide_eq_false (by omega);simp only[stpA,len_str h.small,lt_int,e1];rfl
def jGw{x:Str}{p:Nat}{pre rest:List Nat}{c:Nat}(h:At x pre (c::rest)):jb1 (ed x p pre.length)=oK (isG c):=by
 unfold jb1 ed;have hl:=h.len;rw[List.length_cons] at hl;have e1:decide (((pre.length:Nat):Int)<(x.length:Nat))=true:=decide_eq_true (by omega);simp only[stpA,len_str h.small,lt_int,e1,h.ix,jk0];rfl
def jGx{x:Str}{p:Nat}{pre:List Nat}(h:At x pre []):jb1 (ed x p pre.length)=oK false:=by
 unfold jb1 ed;have hl:=h.len;rw[List.length_nil] at hl;have e1:decide (((pre.length:Nat):Int)<(x.length:Nat))=false:=decide_eq_false (by omega);simp only[stpA,len_str h.small,lt_int,e1];rfl
def Stop(q:Nat->Bool):List Nat->Prop
 | []=>True
 | c::_=>q c=false
def jjb{c:Nat}(h:isG c=true):isL c=false:=by
 unfold isG isL at *;simp only[Bool.and_eq_true,decide_eq_true_eq] at h;rw[decide_eq_false (by omega)];rfl
def jCk(c:Nat):gNe (.str (S1 c)) (.str "0")=some (.bl !(c == 48)):=by
 rw[jFa];show some (D.bl !(S1 c == S1 48))=_;have:(S1 c == S1 48)=(c == 48):=by
  by_cases q:c=48
  ·subst q;simp
  ·rw[beq_eq_false_iff_ne.mpr q,beq_eq_false_iff_ne.mpr (fun z=>q (by unfold S1 at z;simpa using z))]
 rw[this]
def ja8{g1 g2:DSt->M Out}{Y Y':DSt}(h:g1 Y=some (.ok (.nx Y'))):gSeq g1 g2 Y=g2 Y':=by rw[jo7,h,M.b_ok,joi]
def jel{t:DSt->M Bool}{g1 g2:DSt->M Out}{Y:DSt}{b:Bool}(h:t Y=some (.ok b)):gIf t g1 g2 Y=if b=true then g1 Y else g2 Y:=by rw[jBm,h,M.b_ok]
end
section
def St(a:List Nat):Str:=⟨a.toArray⟩
abbrev sT(a:List Nat):D:=.str (St a)
def je6(a:List Nat):(St a).length=a.length:=by simp[St,Str.length]
def jAq(c:Nat):St [c]=S1 c:=rfl
def jGt{a b:List Nat}(h:St a=St b):a=b:=by
 unfold St at h;simpa using h
def jfw(a b:List Nat):(St a == St b)=(a == b):=by
 by_cases q:a=b
 ·subst q;simp
 ·rw[beq_eq_false_iff_ne.mpr q,beq_eq_false_iff_ne.mpr (fun z=>q (jGt z))]
def jlb:(Str.ofString "(")=St [40]:=by decide +kernel
def jnv:(Str.ofString ")")=St [41]:=by decide +kernel
def jla:(Str.ofString "-")=St [45]:=by decide +kernel
def jx1:(Str.ofString "+")=St [43]:=by decide +kernel
def jqs:(Str.ofString "*")=St [42]:=by decide +kernel
def jFc:(Str.ofString " ")=St [32]:=by decide +kernel
def jlx(a:List Nat):jbl (St a)=([43] == a || ([45] == a || ([42] == a || false))):=by
 unfold jbl;rw[jx1,jla,jqs];show (St [43] == St a || (St [45] == St a || (St [42] == St a || false)))=_;rw[jfw,jfw,jfw]
def dby(a:List Nat):Int:=if a=[40] then 1 else if a=[41] then -1 else 0
def wby(a:List Nat):Str:=if a=[40] then "beginning" else if jbl (St a)=true then "factor" else "behind"
def jxg(a:List Nat):jfl [sT a]=oK (.int (dby a)):=by
 unfold jfl;rw[ji3];unfold jjs dby;have q1:(St a == Str.ofString "(")=(a == [40]):=by rw[jlb,jfw]
 have q2:(St a == Str.ofString ")")=(a == [41]):=by rw[jnv,jfw]
 simp only[stpA,jbg,q1,q2]
 by_cases h:a=[40]
 ·rw[beq_iff_eq.mpr h,if_pos h];rfl
 ·rw[beq_eq_false_iff_ne.mpr h,if_neg h];simp only[stpA,jbg,q2]
  by_cases h2:a=[41]
  ·rw[beq_iff_eq.mpr h2,if_pos h2];rfl
  ·rw[beq_eq_false_iff_ne.mpr h2,if_neg h2];rfl
def jw6(a:List Nat):jdo [sT a]=oK (.str (wby a)):=by
 unfold jdo;rw[ji3];unfold jey wby;have q1:(St a == Str.ofString "(")=(a == [40]):=by rw[jlb,jfw]
 simp only[stpA,jbg,q1,ji9]
 by_cases h:a=[40]
 ·rw[beq_iff_eq.mpr h,if_pos h];rfl
 ·rw[beq_eq_false_iff_ne.mpr h,if_neg h];simp only[stpA,ji9];cases jbl (St a)<;>rfl
def jrf{fa:DSt->M D}{fl fh:DSt->M (Option Int)}{Y:DSt}{x d:D}{lo hi:Option Int}(ha:fa Y=M.p x)(hl:fl Y=M.p lo)(hh:fh Y=M.p hi)(h:cutD x lo hi=some d):fSl fa fl fh Y=M.p d:=by
 unfold fSl;rw[ha,hl,hh];show M.o (cutD x lo hi)=_;rw[h];rfl
def jA0{i:Nat}{fa:DSt->M D}{Y:DSt}{ds:List D}{d:D}(h:fa Y=M.p d)(hi:(Y[i]?).join=oL ds)(hl:ds.length<sizeLine):gApp i fa Y=nX (Y.set i (oL (ds++[d]))):=by
 rw[jBk,h,M.b_p,hi,jrk hl];rfl
def jCj(a:List Nat):gNe (sT a) (.str " ")=some (.bl !(a == [32])):=by
 rw[jFc];show some (D.bl !(St a == St [32]))=_;rw[jfw]
end
section
inductive Word:List Nat->Prop
 | zero:Word [48]
 | name {a:List Nat}:a≠[]->(∀ c∈a,isL c=true)->a.length<=10->Word a
 | num {a:List Nat}:a≠[]->(∀ c∈a,isG c=true)->a.head?≠some 48->Word a
inductive Acc:LL->Str->Nat->Prop
 | done:Acc [] "behind" 0
 | word {a:List Nat} {ts:LL} {wt:Str} {d:Nat}:Word a->(wt == Str.ofString "behind")=false->Acc ts "behind" d->Acc (a::ts) wt d
 | opn {ts:LL} {wt:Str} {d:Nat}:(wt == Str.ofString "behind")=false->Acc ts "beginning" (d+1)->Acc ([40]::ts) wt d
 | cls {ts:LL} {d:Nat}:Acc ts "behind" d->Acc ([41]::ts) "behind" (d+1)
 | neg {ts:LL} {d:Nat}:Acc ts "factor" d->Acc ([45]::ts) "beginning" d
 | bin {a:Nat} {ts:LL} {d:Nat}:jbl (St [a])=true->Acc ts "factor" d->Acc ([a]::ts) "behind" d
def jdg{a:Nat}(h:jbl (St [a])=true):a=43\/a=45\/a=42:=by
 rw[jlx] at h;simp at h;omega
def jj5{a:List Nat}(h:Word a):dby a=0/\wby a="behind"/\a≠[32]/\∃ c a',a=c::a'/\c≠45/\(isL c=true\/isG c=true):=by
 have ik:∃ c a',a=c::a'/\(isL c=true\/isG c=true):=by
  cases h with
  | zero=>exact⟨48,[],rfl,.inr rfl⟩
  | name h1 h2 _=>cases a with
   | nil=>exact absurd rfl h1
   | cons c a'=>exact⟨c,a',rfl,.inl (h2 c zaa)⟩
  | num h1 h2 _=>cases a with
   | nil=>exact absurd rfl h1
   | cons c a'=>exact⟨c,a',rfl,.inr (h2 c zaa)⟩
 obtain⟨c,a',rfl,hc⟩:=ik;have ne:∀ k,isL k=false->isG k=false->c≠k:=fun k h1 h2 z=>by subst z;rw[h1,h2] at hc;simp at hc
 have n1:=ne 40 rfl rfl;have n2:=ne 41 rfl rfl;have n3:=ne 32 rfl rfl;have n4:=ne 45 rfl rfl;have n5:=ne 43 rfl rfl;have n6:=ne 42 rfl rfl;have s:jbl (St (c::a'))=false:=by
  rw[jlx];simp;refine⟨fun z=>absurd z.symm n5,fun z=>absurd z.symm n4,fun z=>absurd z.symm n6⟩
 refine⟨?_,?_,by simp[n3],c,a',rfl,n4,hc⟩
 ·unfold dby;rw[if_neg (by simp[n1]),if_neg (by simp[n2])]
 ·unfold wby;rw[if_neg (by simp[n1]),s,if_neg (by decide)]
end
end MyLaw
namespace MyLaw
open L2 DL PySem.NumText
section
def jmx(x:Str)(u:Option Int):Txt.slice x none u=Txt.slice x (some 0) u:=by
 unfold Txt.slice;have:Builtin.Str.strSliceIndices none u 1 x.length=Builtin.Str.strSliceIndices (some 0) u 1 x.length:=by
  unfold Builtin.Str.strSliceIndices sliceRange;have z:max 0 (min 0 (x.length:Int))=0:=by omega
  cases u<;>simp[z]
 rw[this]
def jBj(b:List Nat):∀ (m:Nat),b.foldl (fun acc c=>acc*10+(c-48)) m=m*10 ^ b.length+b.foldl (fun acc c=>acc*10+(c-48)) 0:=by
 induction b with
 | nil=>intro m;simp
 | cons c b ih =>
  intro m;rw[List.foldl_cons,List.foldl_cons,ih,ih (0*10+(c-48)),List.length_cons,Nat.pow_succ];rw[Nat.add_mul,Nat.zero_mul,Nat.zero_add,Nat.mul_assoc,Nat.mul_comm 10 (10 ^ b.length)];omega
def juo(a b:List Nat):digitsVal (a++b)=digitsVal a*10 ^ b.length+digitsVal b:=by
 unfold digitsVal;rw[List.foldl_append,jBj]
theorem jzq:∀ (b:List Nat) (m:Nat),AllDigits b->b.foldl (fun acc c=>acc*10+(c-48)) m<(m+1)*10 ^ b.length
 | [],m,_=>by simp
 | c::b,m,h=>by
  have h2:=h.head;have:=jzq b (m*10+(c-48)) h.tail;rw[List.foldl_cons,List.length_cons,Nat.pow_succ];refine zcx this ?_;rw[Nat.mul_comm (10 ^ b.length) 10,<- Nat.mul_assoc];exact Nat.mul_le_mul_right _ (by omega)
def jEg{a:List Nat}(h:AllDigits a):digitsVal a<10 ^ a.length:=by
 have:=jzq a 0 h
 rwa [Nat.zero_add,Nat.one_mul] at this
def jzj{a:List Nat}(h:∀ c∈a,isG c=true):AllDigits a:=fun c hc=>by
 have:=h c hc;unfold isG at this;simpa using this
def jzw{a:List Nat}(h:AllDigits a)(h1:a≠[])(h2:a.length<=640):kIntT [sT a]=oI (digitsVal a:Nat):=by
 have hl:=je6 a;have e:(St a).cps.toList=a:=by simp[St]
 show (if (St a).length<=640 then (intText? (St a)).map D.int else none)=_;rw[if_pos (by omega),intText_digits (x:=St a) (by rw[e];exact h) (by rw[e];exact h1) (by omega),e];rfl
def jD7{a:List Nat}(h:AllDigits a)(hl:a.length<=60):Bt 200 ((digitsVal a:Nat):Int):=by
 unfold Bt;have h1:=jEg h;have h2:10 ^ a.length<=10 ^ 60:=Nat.pow_le_pow_right (by decide) hl;have h3:(10:Nat) ^ 60<2 ^ 200:=by decide
 rw[Int.natAbs_natCast];omega
def jtc{a:List Nat}(h:AllDigits a)(h1:a≠[])(hl:a.length<=40):jbx [sT a]=oK (.int (digitsVal a:Nat)):=by
 let f:=a.length % 18
 let k:=a.length / 18
 have ka:f+18*k=a.length:=Nat.mod_add_div _ _;have hz:(St a).length<=50000:=by rw[je6];exact zdx hl (by decide)
 have hf:f<18:=Nat.mod_lt _ (by decide);have dn:kLen [sT a]=oI (a.length:Nat):=by rw[len_str hz,je6]
 have cut:∀ (i n:Nat),i+n<=a.length->cutD (sT a) (some (i:Nat)) (some ((i+n:Nat):Int))=some (sT ((a.drop i).take n)):=fun i n c0=>by
  have e:a=a.take i++((a.drop i).take n++(a.drop i).drop n):=by rw[List.take_append_drop,List.take_append_drop]
  have A:At (St a) (a.take i) ((a.drop i).take n++(a.drop i).drop n):=⟨by show (St a).cps.toList=_;rw[<- e];simp[St],hz⟩
  have:=A.cut;have l1:(a.take i).length=i:=List.length_take_of_le (zdx (Nat.le_add_right i n) c0);have l2:((a.drop i).take n).length=n:=List.length_take_of_le (by rw[List.length_drop];exact Nat.le_sub_of_add_le (by rw[Nat.add_comm];exact c0));rw[l1,l2] at this;exact this
 have dig:∀ (i n:Nat),AllDigits ((a.drop i).take n):=fun i n c hc=>h c (List.mem_of_mem_drop (List.mem_of_mem_take hc))
 let Y0 (n:Nat) (z:Option D):DSt:=[some (sT a),oI (f:Nat),oI (n:Nat),z]
 have e1:gSet 1 (f2 gMod (fL kLen (jac (vR 0) fNil)) (cI 18)) [some (sT a),none,none,none]=nX [some (sT a),oI (f:Nat),none,none]:=by
  simp only[stpA,dn,jby (i:=((a.length:Nat):Int)) (j:=18) (by decide)];rfl
 have e2:gSet 2 (fIf (DL.t2 gEq (vR 1) (cI 0)) (cI 0) (fL kIntT (jac (fSl (vR 0) jir (jcj (vR 1))) fNil))) [some (sT a),oI (f:Nat),none,none]=nX (Y0 (digitsVal (a.take f)) none):=by
  by_cases q:f=0
  ·have q':(((f:Nat):Int) == 0)=true:=by rw[q];rfl
   have z:digitsVal (a.take f)=0:=by rw[q];rfl
   simp only[stpA,q',z];rfl
  ·have q':(((f:Nat):Int) == 0)=false:=beq_eq_false_iff_ne.mpr fun z=>q (Int.ofNat.inj z)
   have c:cutD (sT a) none (some (f:Nat))=some (sT (a.take f)):=by
    have:=cut 0 f (by rw[Nat.zero_add];exact Nat.mod_le _ _);rw[Nat.zero_add,List.drop_zero] at this;rw[<- this];show (if _ then some (D.str (Txt.slice _ none _)) else none)=(if _ then some (D.str (Txt.slice _ (some 0) _)) else none);rw[jmx]
   have s:fSl (vR 0) jir (jcj (vR 1)) [some (sT a),oI (f:Nat),none,none]=M.p (sT (a.take f)):=jrf rfl rfl rfl c;have i:=jzw (a:=a.take f) (fun c hc=>h c (List.mem_of_mem_take hc)) (fun z=>by have:=congrArg List.length z;rw[List.length_take_of_le (Nat.mod_le _ _)] at this;exact q this) (zdx (List.length_take_le _ _) (zdx (Nat.le_of_lt hf) (by decide)));simp only[stpA,q',s,i];rfl
 have rg:jft [.int (f:Nat),.int (a.length:Nat),.int 18]=some (jcs (f:Nat) 18 k):=by
  show (if (0:Int)<18/\(18:Int)<2 ^ 60 then some (jcs _ 18 (Builtin.Range.rangeSize ((f:Nat):Int) (a.length:Nat) 18).toNat) else none)=_;rw[if_pos (by decide)];have:(Builtin.Range.rangeSize ((f:Nat):Int) (a.length:Nat) 18).toNat=k:=by
   unfold Builtin.Range.rangeSize;rw[if_pos (by decide)]
   by_cases q:f<a.length
   ·rw[if_pos (by omega)];omega
   ·rw[if_neg (by omega)];omega
  rw[this]
 obtain⟨Y',e3,hd⟩:=jk3 (g:=jc4) (tg:=DL.gName 3) (jcs (f:Nat) 18 k) (fun j Y=>∃ z,Y=Y0 (digitsVal (a.take (f+18*j))) z) (fun j hj Y ⟨z,hz⟩=>by
  subst hz;have dq:j<k:=by simpa[jcs] using hj
  have hg:(jcs (f:Nat) 18 k)[j]=.int ((f+18*j:Nat):Int):=by simp[jcs];omega
  refine⟨Y0 (digitsVal (a.take (f+18*j))) (oI ((f+18*j:Nat):Int)),by rw[hg];rfl,Y0 (digitsVal (a.take (f+18*(j+1)))) (oI ((f+18*j:Nat):Int)),.inl ?_,_,rfl⟩;have dm:f+18*j+18<=a.length:=by rw[<- ka,Nat.add_assoc];exact Nat.add_le_add_left (Nat.mul_le_mul_left 18 dq) f
  have c:=cut (f+18*j) 18 dm;have s:fSl (vR 0) (jcj (vR 3)) (jcj (f2 gCat (vR 3) (cI 18))) (Y0 (digitsVal (a.take (f+18*j))) (oI ((f+18*j:Nat):Int)))=M.p (sT ((a.drop (f+18*j)).take 18)):=jrf rfl rfl rfl c;have l2:((a.drop (f+18*j)).take 18).length=18:=List.length_take_of_le (by rw[List.length_drop];exact Nat.le_sub_of_add_le (by rw[Nat.add_comm];exact dm));have i:=jzw (dig (f+18*j) 18) (fun z=>by rw[z] at l2;cases l2) (by rw[l2];decide);have m:=jdx (i:=((digitsVal (a.take (f+18*j)):Nat):Int)) (j:=1000000000000000000) (a:=200) (b:=60) (jD7 (fun c hc=>h c (List.mem_of_mem_take hc)) (zdx (List.length_take_le' _ _) (zdx hl (by decide)))) (by unfold Bt;decide);have v:digitsVal (a.take (f+18*(j+1)))=digitsVal (a.take (f+18*j))*1000000000000000000+digitsVal ((a.drop (f+18*j)).take 18):=by
   have:a.take (f+18*(j+1))=a.take (f+18*j)++(a.drop (f+18*j)).take 18:=by rw[show f+18*(j+1)=(f+18*j)+18 from rfl,List.take_add]
   rw[this,juo,l2]
  rw[v];show gSet 2 (f2 gCat (f2 jci (vR 2) (cI 1000000000000000000)) (fL kIntT (jac (fSl (vR 0) (jcj (vR 3)) (jcj (f2 gCat (vR 3) (cI 18)))) fNil))) (Y0 _ _)=_;rw[jxk,e_2,e_2,e_L,jrx,s];show ((M.o (jci (D.int ((digitsVal (a.take (f+18*j)):Nat):Int)) (D.int 1000000000000000000))).b fun x=>((M.o (kIntT [D.str (St ((a.drop (f+18*j)).take 18))])).b fun y=>M.o (gCat x y))).b _=_;rw[m,i];simp only[stpA];show some (Except.ok (Out.nx [_,_,some (D.int _),_]))=some (Except.ok (Out.nx [_,_,some (D.int _),_]));rw[show ((digitsVal (a.take (f+18*j))*1000000000000000000+digitsVal ((a.drop (f+18*j)).take 18):Nat):Int)=((digitsVal (a.take (f+18*j)):Nat):Int)*1000000000000000000+((digitsVal ((a.drop (f+18*j)).take 18):Nat):Int) by omega]) (Y0 (digitsVal (a.take f)) none) ⟨none,rfl⟩
 obtain⟨z,rfl⟩:=hd;have hk:(jcs (f:Nat) 18 k).length=k:=by simp[jcs]
 have all:a.take (f+18*(jcs (f:Nat) 18 k).length)=a:=by rw[hk,ka,List.take_length]
 rw[all] at e3;have e4:gFor (jha jft (jac (vR 1) (jac (fL kLen (jac (vR 0) fNil)) (jac (cI 18) fNil)))) (DL.gName 3) jc4 (Y0 (digitsVal (a.take f)) none)=nX (Y0 (digitsVal a) z):=by
  show gFor _ _ _ [some (sT a),oI (f:Nat),oI (digitsVal (a.take f):Nat),none]=_;simp only[stpA,dn,rg];exact e3
 unfold jbx;rw[ji3];show (jcm [some (sT a),none,none,none]).b outD=_;unfold jcm;rw[ja8 e1,ja8 e2,ja8 e4];rfl
def jwy{c:Nat}{a:List Nat}(h:c≠45):Txt.startswith (St (c::a)) (Str.ofString "-")=false:=by
 rw[jla];unfold Txt.startswith Builtin.Str.subAt St;simp;intro _;show ¬ List.take 1 (c::a)=[45];simp;exact h
def jvp{a:List Nat}(h:AllDigits a)(h1:a≠[])(hl:a.length<=40):jgh [sT a]=oK (.int (digitsVal a:Nat)):=by
 obtain⟨c,a',rfl⟩:∃ c a',a=c::a':=by cases a with|nil=>exact absurd rfl h1|cons c a'=>exact⟨c,a',rfl⟩
 have hc:=h.head;have s:=jwy (c:=c) (a:=a') (by omega);have t:tTru (fSm jnp (vR 0) (cS "-")) [some (sT (c::a'))]=oK false:=by
  have:fSm jnp (vR 0) (cS "-") [some (sT (c::a'))]=M.p (.bl (Txt.startswith (St (c::a')) (Str.ofString "-"))):=rfl;rw[jEn,this,s];rfl
 unfold jgh;rw[ji3];show (jgb [some (sT (c::a'))]).b outD=_;unfold jgb;rw[ja8 (Y':=[some (sT (c::a'))]) (by rw[jel t,if_neg (by decide)];rfl)];simp only[stpA,jtc h h1 hl];rfl
def nmD(aa:LL):List D:=aa.map fun a=>sT a
abbrev oN(l:LL):Option D:=oL (nmD l)
def jz4(a b:LL):nmD a++nmD b=nmD (a++b):=by unfold nmD;rw[List.map_append]
def frmW(aa:LL)(a:List Nat):Fm:=match a with
 | []=>([],0)
 | c::r=>if isL c=true then (aa.map fun b=>if b=c::r then 1 else 0,0) else (List.replicate aa.length 0,(digitsVal (c::r):Nat))
def ix0{c:Nat}{a:List Nat}(h:a.length<=40000):gIx (sT (c::a)) (.int 0)=oS (S1 c):=by
 show (if (St (c::a)).length<=sizeLine then (atI (St (c::a)).cps.toList 0).map fun c=>D.str ⟨#[c]⟩ else none)=_;rw[if_pos (by rw[sizeLine_eq,je6,List.length_cons];omega)];unfold St;simp;rfl
def jBu{aa:LL}{a:List Nat}(hn:aa.length<=1000)(h:Word a)(hl:a.length<=40):jct [.lst (nmD aa),sT a]=oK (fm (frmW aa a)):=by
 obtain⟨_,_,_,c,a',rfl,_,hc⟩:=jj5 h;have t:tTru (jau ja5 (jac (f2 gIx (vR 1) (cI 0)) fNil)) [oN aa,some (sT (c::a'))]=oK (isL c):=by
  simp only[stpA,ix0 (c:=c) (a:=a') (by simp at hl;omega),jhc];rfl
 unfold jct;rw[jgv];show (jd4 [oN aa,some (sT (c::a'))]).b outD=_;unfold jd4 frmW
 by_cases q:isL c=true
 ·rw[q] at t;rw[jo7,jel t,if_pos rfl];have e:=ji1 (c:=[some (sT (c::a'))]) (fe:=jdi) (K:=fun b:List Nat=>D.str (St b)) (F:=fun b=>.int (if b=c::a' then 1 else 0)) aa none (fun b hb=>by
   unfold jdi;simp only[stpA,jbg,jfw]
   by_cases z:b=c::a'
   ·rw[beq_iff_eq.mpr z,if_pos z];rfl
   ·rw[beq_eq_false_iff_ne.mpr z,if_neg z];rfl)
  have e':jg4 (DL.gName 0) tYes jdi (nmD aa) [none,some (sT (c::a'))]=some (aa.map fun b=>.int (if b=c::a' then 1 else 0)):=e;simp only[stpA,e',jk9 (ds:=aa.map fun b=>D.int (if b=c::a' then 1 else 0)) (by rw[zav];exact hn),if_pos q];unfold fm;rw[List.map_map];rfl
 ·have q':isL c=false:=by simpa using q
  rw[q'] at t;have hg:AllDigits (c::a')/\(c::a')≠[]:=by
   cases h with
   | zero=>exact⟨fun d hd=>by simp at hd;omega,by simp⟩
   | name _ h2 _=>rw[h2 c zaa] at q';cases q'
   | num _ h2 _=>exact⟨jzj h2,by simp⟩
  rw[ja8 (Y':=[oN aa,some (sT (c::a'))]) (by rw[jel t,if_neg (by decide)];rfl)];have ln:(nmD aa).length=aa.length:=by simp[nmD]
  have hr:=jEk (Y:=[oN aa,some (sT (c::a'))]) (fl:=jac (cI 0) fNil) (fb:=fL kLen (jac (vR 0) fNil)) (.int 0) aa.length rfl (by simp only[stpA,jpc,ln]) hn;simp only[stpA,hr,jvp hg.1 hg.2 hl,if_neg q];unfold fm;rw[List.map_replicate];rfl
end
section
def frmS(aa:LL)(w:Str):Fm:=frmW aa w.cps.toList
def jqj(aa:LL)(a:List Nat):frmS aa (St a)=frmW aa a:=by unfold frmS St;simp
abbrev WdN(aa:LL):Str->Prop:=Wd (.lst (nmD aa)) (frmS aa)
def jG8{aa:LL}{a:List Nat}(hn:aa.length<=1000)(h:Word a)(hl:a.length<=40):WdN aa (St a):=by
 obtain⟨f1,f2,f3,c,a',rfl,f4,f5⟩:=jj5 h;have ne:∀ k,isL k=false->isG k=false->c≠k:=fun k h1 h2 z=>by subst z;rw[h1,h2] at f5;simp at f5
 have n1:=ne 40 rfl rfl;have n2:=ne 41 rfl rfl;have n5:=ne 43 rfl rfl;have n6:=ne 42 rfl rfl;refine⟨?_,?_,?_,?_⟩
 ·rw[jlb,jfw];exact beq_eq_false_iff_ne.mpr (by simp[n1])
 ·rw[jnv,jfw];exact beq_eq_false_iff_ne.mpr (by simp[n2])
 ·rw[jlx];simp;exact⟨fun z=>absurd z.symm n5,fun z=>absurd z.symm f4,fun z=>absurd z.symm n6⟩
 ·rw[jqj];exact jBu hn h hl
def jmm(aa:LL):(nmD aa).all jkc=true:=by
 unfold nmD;rw[List.all_map];exact List.all_eq_true.mpr fun _ _=>rfl
end
end MyLaw
namespace MyLaw
open L2 DL
section
inductive Ph
 | emp
 | one (F:Fm)
 | str (F:Fm) (p:Int)
 | two (F:Fm) (p:Int) (G:Fm)
structure Lv where
 op:Int
 sg:Option (Fm×Bool×Int)
 ph:Ph
def cur:Ph->Fm
 | .emp=>([],0)
 | .one F=>F
 | .str F _=>F
 | .two F _ G=>jfs F G
def sgn(b:Bool):Int:=if b=true then -1 else 1
def Lv.s(l:Lv):Int:=match l.sg with
 | none=>1
 | some (_,b,_)=>sgn b
def jri(n:Nat):Fm:=(List.replicate n 0,0)
def Lv.tot(n:Nat)(l:Lv):Fm:=match l.sg with
 | none=>jri n
 | some (T,_,_)=>T
def Lv.whole(l:Lv):Fm:=match l.sg with
 | none=>cur l.ph
 | some (T,b,_)=>addF T (mulF (cur l.ph) (sgn b))
def opd(l:Lv)(f:Fm):Except Int Lv:=match l.ph with
 | .emp=>.ok { l with ph:=.one f }
 | .str F p=>if (jcb F || jcb f)=true then .ok { l with ph:=.two F p f } else .error p
 | _=>.ok l
def signL(n:Nat)(l:Lv)(c:Nat)(p:Int):Lv:=if c=42 then { l with ph:=.str (cur l.ph) p } else
 { l with sg:=some (match l.ph with|.emp=>jri n|_=>l.whole,c == 45,p),ph:=.emp }
def new(p:Int):Lv:=⟨p,none,.emp⟩
def Lv.wait(l:Lv):Prop:=match l.ph with
 | .emp=>True
 | .str _ _=>True
 | _=>False
def Lv.behind(l:Lv):Prop:=match l.ph with
 | .one _=>True
 | .two _ _ _=>True
 | _=>False
inductive Fits:List Lv->Str->Nat->Prop
 | beg (l:Lv) (r:List Lv) (h:l.ph=.emp) (hs:l.sg=none) (hr:∀ m∈r,m.wait):Fits (l::r) "beginning" r.length
 | fac (l:Lv) (r:List Lv) (h:l.wait) (hs:l.ph=.emp->l.sg≠none) (hr:∀ m∈r,m.wait):Fits (l::r) "factor" r.length
 | beh (l:Lv) (r:List Lv) (h:l.behind) (hr:∀ m∈r,m.wait):Fits (l::r) "behind" r.length
structure FB(n k:Nat)(f:Fm):Prop where
 len:f.1.length=n
 bf:BF k f
def FB.mono{n j k:Nat}{f:Fm}(h:FB n j f)(hk:j<=k):FB n k f:=⟨h.len,h.bf.mono hk⟩
def FB.zero(n:Nat):FB n 1 (jri n):=⟨by simp[jri],fun c hc=>by rw[(List.mem_replicate.mp hc).2];unfold Bt;decide,by show Bt 1 0;unfold Bt;decide⟩
def FB.prod{n j k:Nat}{f g:Fm}(h:FB n j f)(h':FB n k g):FB n (j+k) (jfs f g):=by
 unfold jfs
 split
 ·exact⟨by rw[jgi];exact h.len,h.bf.mul h'.bf.2⟩
 ·exact⟨by rw[jgi];exact h'.len,by rw[Nat.add_comm];exact h'.bf.mul h.bf.2⟩
def jAn(b:Bool):sgn b=1\/sgn b=-1:=by cases b;exact .inl rfl;exact .inr rfl
def FB.sg{n j:Nat}{f:Fm}{s:Int}(h:FB n j f)(hs:s=1\/s=-1):FB n j (mulF f s):=⟨by rw[jgi];exact h.len,h.bf.sgn hs⟩
def FB.add{n j:Nat}{f g:Fm}(h:FB n j f)(h':FB n j g):FB n (j+1) (addF f g):=⟨by rw[jm1 (by rw[h.len,h'.len])];exact h.len,h.bf.add h'.bf⟩
inductive PhB(n:Nat):Nat->Ph->Prop
 | emp (w:Nat):PhB n w .emp
 | one (w:Nat) (F:Fm) (h:FB n w F):PhB n w (.one F)
 | str (w:Nat) (F:Fm) (p:Int) (h:FB n w F):PhB n w (.str F p)
 | two (w a b:Nat) (F:Fm) (p:Int) (G:Fm) (hw:a+b<=w) (h:FB n a F) (h':FB n b G) (hp:(jcb F || jcb G)=true):PhB n w (.two F p G)
inductive LvB(n w:Nat)(l:Lv):Prop
 | mk (a b:Nat) (hw:a+b<=w) (h:PhB n a l.ph) (hs:∀ T c p,l.sg=some (T,c,p)->FB n b T)
def LsB(n:Nat):List Lv->Nat->Prop
 | [],_=>True
 | l::r,w=>∃ a b,a+b<=w/\LvB n a l/\LsB n r b
theorem PhB.cur{n w:Nat}{p:Ph}(h:PhB n w p)(hp:p≠.emp):FB n w (cur p):=by
 cases h with
 | emp=>exact absurd rfl hp
 | one F h=>exact h
 | str F p h=>exact h
 | two a b F p G hw h h' hp=>exact (h.prod h').mono hw
theorem LvB.whole{n w:Nat}{l:Lv}(h:LvB n w l)(hp:l.ph≠.emp):FB n (w+1) l.whole:=by
 obtain⟨a,b,hw,h,hs⟩:=h;have c:=h.cur hp;unfold Lv.whole
 cases e:l.sg with
 | none=>exact c.mono (by omega)
 | some t =>
  obtain⟨T,bb,p⟩:=t;exact (((hs T bb p e).mono (k:=w) (by omega)).add ((c.mono (k:=w) (by omega)).sg (jAn bb)))
def LvB.new(n w:Nat)(p:Int):LvB n w (new p):=⟨0,0,by omega,.emp 0,fun _ _ _ h=>nomatch h⟩
theorem LvB.opd{n w k:Nat}{l l':Lv}{f:Fm}(h:LvB n w l)(hf:FB n k f)(e:opd l f=.ok l'):LvB n (w+k) l':=by
 obtain⟨a,b,hw,h,hs⟩:=h;unfold MyLaw.opd at e
 cases q:l.ph with
 | emp=>rw[q] at e;cases e;exact⟨k,b,by omega,.one k f hf,hs⟩
 | one F=>rw[q] at e h;cases e;exact⟨a,b,by omega,by rw[q];exact h,hs⟩
 | two F p G=>rw[q] at e h;cases e;exact⟨a,b,by omega,by rw[q];exact h,hs⟩
 | str F p =>
  rw[q] at e h
  cases h with
  | str _ _ h =>
   dsimp only at e
   split at e
   ·rename_i hp;cases e;exact⟨a+k,b,by omega,.two _ a k F p f (zac _) h hf hp,hs⟩
   ·cases e
def LvB.sign{n w:Nat}{l:Lv}(c:Nat)(p:Int)(h:LvB n w l)(hc:c=42->l.ph≠.emp):LvB n (w+1) (signL n l c p):=by
 unfold signL
 split
 ·rename_i ke;obtain⟨a,b,hw,h,hs⟩:=h;exact⟨a,b,by omega,.str a _ p (h.cur (hc ke)),hs⟩
 ·refine⟨0,w+1,by omega,.emp 0,fun T b q e=>?_⟩;cases e
  split
  ·exact (FB.zero n).mono (by omega)
  ·rename_i i7;exact h.whole i7
structure OsOk(n:Nat)(l:Lv)(o:OS):Prop where
 tot:o.total=l.tot n
 sgn:o.sign=l.s
 ph:match l.ph with
  | .emp=>o.star=none/\(l.sg=none->o=fresh n)
  | .one F=>o.star=none/\o.term=mulF F l.s
  | .str F p=>o.star=some p/\o.term=mulF F l.s
  | .two F _ G=>o.term=mulF (jfs F G) l.s
def s_or(l:Lv):l.s=1\/l.s=-1:=by
 unfold Lv.s
 split
 ·exact .inl rfl
 ·exact jAn _
def jv4(f:Fm){s:Int}(h:s=1\/s=-1):jcb (mulF f s)=jcb f:=by
 unfold jcb mulF;rw[List.all_map];congr 1
 funext c
 rw[Bool.eq_iff_iff];simp only[Function.comp_apply,beq_iff_eq];rcases h with rfl|rfl<;>omega
theorem OsOk.whole{n w:Nat}{l:Lv}{o:OS}(h:OsOk n l o)(hb:l.behind)(B:LvB n w l):wholeF o=l.whole:=by
 obtain⟨h1,h2,h3⟩:=h;have hc:FB n w (cur l.ph):=by
  obtain⟨a,b,hw,h,_⟩:=B;exact (h.cur (fun z=>by unfold Lv.behind at hb;rw[z] at hb;exact hb)).mono (by omega)
 have ht:o.term=mulF (cur l.ph) l.s:=by
  unfold Lv.behind at hb
  split at hb
  ·rename_i F e;rw[e] at h3;rw[e];exact h3.2
  ·rename_i F p G e;rw[e] at h3;rw[e];exact h3
  ·exact hb.elim
 unfold wholeF Lv.whole;rw[h1,ht];unfold Lv.tot Lv.s
 cases e:l.sg with
 | none =>
  dsimp only;rw[jsa];have:=@jor (cur l.ph);rw[hc.len] at this;exact this
 | some t=>obtain⟨T,b,p⟩:=t;rfl
def OsOk.take{n:Nat}{l:Lv}{o:OS}{f:Fm}(h:OsOk n l o)(hw:l.wait):match opd l f with
  | .ok l'=>jnl o f=none/\OsOk n l' (takeF o f)
  | .error p=>jnl o f=some p:=by
 obtain⟨h1,h2,h3⟩:=h;unfold Lv.wait at hw;unfold opd jnl takeF
 cases e:l.ph with
 | one F=>rw[e] at hw;exact hw.elim
 | two F p G=>rw[e] at hw;exact hw.elim
 | emp =>
  rw[e] at h3;have hs:o.star=none:=h3.1;dsimp only;rw[hs];exact⟨rfl,h1,h2,rfl,by show mulF f o.sign=_;rw[h2];rfl⟩
 | str F p =>
  rw[e] at h3;have hs:o.star=some p:=h3.1;dsimp only;rw[hs];dsimp only;rw[h3.2,jv4 F (s_or l)]
  by_cases q:(jcb F || jcb f)=true
  ·rw[if_pos q,if_pos q];exact⟨rfl,h1,h2,jyr F f l.s⟩
  ·rw[if_neg q,if_neg q]
def OsOk.sign{n w:Nat}{l:Lv}{o:OS}{c:Nat}{p:Int}(h:OsOk n l o)(hc:jbl (St [c])=true)(hb:l.behind\/c=45/\l.ph=.emp/\l.sg=none)(B:LvB n w l):OsOk n (signL n l c p) (signF o (St [c]) p):=by
 have tw:c≠42->(match l.ph with|.emp=>jri n|_=>l.whole)=wholeF o:=fun ke=>by
  rcases hb with hb|⟨rfl,he,hs⟩
  ·rw[h.whole hb B]
   split
   ·rename_i e;unfold Lv.behind at hb;rw[e] at hb;exact hb.elim
   ·rfl
  ·have h3:=h.ph;rw[he] at h3;rw[he,h3.2 hs];have:=@jor (jri n);rw[(FB.zero n).len] at this;exact this.symm
 unfold signL;rcases jdg hc with rfl|rfl|rfl
 ·rw[if_neg (by decide),<- jx1,jtt,tw (by decide)];exact⟨rfl,rfl,rfl,fun z=>nomatch z⟩
 ·rw[if_neg (by decide),<- jla,jre,tw (by decide)];exact⟨rfl,rfl,rfl,fun z=>nomatch z⟩
 ·rw[if_pos rfl,<- jqs,jtu];refine⟨h.tot,h.sgn,rfl,?_⟩;have h3:=h.ph;rcases hb with hb|⟨z,_⟩
  ·unfold Lv.behind at hb;show o.term=mulF (cur l.ph) l.s
   split at hb
   ·rename_i F e;rw[e] at h3;rw[e];exact h3.2
   ·rename_i F q G e;rw[e] at h3;rw[e];exact h3
   ·exact hb.elim
  ·cases z
def KL:Nat:=80000
section
variable (aa:LL)
inductive Go:List (List Nat×Int)->List Lv->Except Int Fm->Prop
 | done (l:Lv) (hb:l.behind) (B:LvB aa.length KL l):Go [] [l] (.ok l.whole)
 | opn (p:Int) (ts:List (List Nat×Int)) (ls:List Lv) (res:Except Int Fm) (h:Go ts (new p::ls) res):Go (([40],p)::ts) ls res
 | wrd (a:List Nat) (p:Int) (ts:List (List Nat×Int)) (l l':Lv) (r:List Lv) (res:Except Int Fm) (ha:Word a) (hl:a.length<=40) (hf:FB aa.length (4*a.length) (frmW aa a)) (hw:l.wait) (B:LvB aa.length KL l) (ho:opd l (frmW aa a)=.ok l') (h:Go ts (l'::r) res):Go ((a,p)::ts) (l::r) res
 | wrdE (a:List Nat) (p q:Int) (d:Nat) (ts:List (List Nat×Int)) (l:Lv) (r:List Lv) (ha:Word a) (hl:a.length<=40) (hf:FB aa.length (4*a.length) (frmW aa a)) (hw:l.wait) (B:LvB aa.length KL l) (ho:opd l (frmW aa a)=.error q) (h:Acc (ts.map (·.1)) "behind" d):Go ((a,p)::ts) (l::r) (.error q)
 | cls (p:Int) (ts:List (List Nat×Int)) (l m m':Lv) (r:List Lv) (res:Except Int Fm) (hb:l.behind) (hw:m.wait) (B:LvB aa.length KL l) (B':LvB aa.length KL m) (ho:opd m l.whole=.ok m') (h:Go ts (m'::r) res):Go (([41],p)::ts) (l::m::r) res
 | clsE (p q:Int) (d:Nat) (ts:List (List Nat×Int)) (l m:Lv) (r:List Lv) (hb:l.behind) (hw:m.wait) (B:LvB aa.length KL l) (B':LvB aa.length KL m) (ho:opd m l.whole=.error q) (h:Acc (ts.map (·.1)) "behind" d):Go (([41],p)::ts) (l::m::r) (.error q)
 | neg (p:Int) (ts:List (List Nat×Int)) (l:Lv) (r:List Lv) (res:Except Int Fm) (he:l.ph=.emp) (hs:l.sg=none) (B:LvB aa.length KL l) (h:Go ts (signL aa.length l 45 p::r) res):Go (([45],p)::ts) (l::r) res
 | bin (c:Nat) (p:Int) (ts:List (List Nat×Int)) (l:Lv) (r:List Lv) (res:Except Int Fm) (hc:jbl (St [c])=true) (hb:l.behind) (B:LvB aa.length KL l) (h:Go ts (signL aa.length l c p::r) res):Go (([c],p)::ts) (l::r) res
end
def jiv{l:Lv}(h:l.behind):l.ph≠.emp:=fun z=>by unfold Lv.behind at h;rw[z] at h;exact h
def jvv{l l':Lv}{f:Fm}(hw:l.wait)(h:opd l f=.ok l'):l'.behind:=by
 unfold opd at h;unfold Lv.wait at hw
 cases e:l.ph with
 | emp=>rw[e] at h;cases h;exact trivial
 | one _=>rw[e] at hw;exact hw.elim
 | two _ _ _=>rw[e] at hw;exact hw.elim
 | str F p =>
  rw[e] at h;dsimp only at h
  split at h
  ·cases h;exact trivial
  ·cases h
def jp6(n:Nat){l:Lv}{r:List Lv}(c:Nat)(p:Int)(hr:∀ m∈r,m.wait):Fits (signL n l c p::r) "factor" r.length:=by
 refine .fac _ r ?_ ?_ hr
 ·unfold signL;split<;>exact trivial
 ·unfold signL
  split
  ·intro z;cases z
  ·intro _ z;cases z
def LvB.mono{n j k:Nat}{l:Lv}(h:LvB n j l)(hk:j<=k):LvB n k l:=by
 obtain⟨a,b,hw,h,hs⟩:=h;exact⟨a,b,by omega,h,hs⟩
def tl(ts:List (List Nat×Int)):Nat:=(ts.map fun q=>q.1.length).sum
def jit(q:List Nat×Int)(ts:List (List Nat×Int)):tl (q::ts)=q.1.length+tl ts:=by simp[tl]
def go_of{aa:LL}{ws:LL}{wt:Str}{d:Nat}(A:Acc ws wt d):∀ (ts:List (List Nat×Int)) (ls:List Lv) (w:Nat),ts.map (·.1)=ws->Fits ls wt d->LsB aa.length ls w->w+5*tl ts<=KL->(∀ q∈ts,1<=q.1.length/\q.1.length<=40/\(Word q.1->FB aa.length (4*q.1.length) (frmW aa q.1)))->∃ res,Go aa ts ls res:=by
 induction A with
 | done =>
  intro ts ls w e F B hk hT;rw[List.map_eq_nil_iff] at e;subst e;generalize cb:(Str.ofString "behind")=wt at F;generalize hd:(0:Nat)=d at F
  cases F with
  | beg=>exact absurd cb (by decide +kernel)
  | fac=>exact absurd cb (by decide +kernel)
  | beh l r h hr =>
   cases r with
   | cons _ _=>cases hd
   | nil =>
    obtain⟨a,b,hw,h1,h2⟩:=B;exact⟨_,.done l h (h1.mono (by omega))⟩
 | @word a ts0 wt d ha cb A ih =>
  intro ts ls w e F B hk hT;obtain⟨q,ts,rfl⟩:∃ q t,ts=q::t:=by cases ts with|nil=>cases e|cons q t=>exact⟨q,t,rfl⟩
  obtain⟨a',p⟩:=q;simp only[List.map_cons,List.cons.injEq] at e;obtain⟨rfl,e⟩:=e;have c8:=fun q hq=>hT q (zaw _ hq)
  obtain⟨kl,b8,du⟩:=hT _ zaa;have du:=du ha;rw[jit] at hk;have cv:=(hT _ zaa).1;dsimp only at hk cv;obtain⟨l,r,rfl,hw,hr,hd⟩:∃ l r,ls=l::r/\l.wait/\(∀ m∈r,m.wait)/\d=r.length:=by
   cases F with
   | beg l r h hs hr=>exact⟨l,r,rfl,by unfold Lv.wait;rw[h];exact trivial,hr,rfl⟩
   | fac l r h hs hr=>exact⟨l,r,rfl,h,hr,rfl⟩
   | beh l r h hr=>exact absurd cb (by decide +kernel)
  obtain⟨x,y,hxy,h1,h2⟩:=B
  cases ho:opd l (frmW aa a') with
  | error q=>exact⟨_,.wrdE a' p q d ts l r ha b8 du hw (h1.mono (by omega)) ho (by rw[e];exact A)⟩
  | ok l' =>
   obtain⟨res,g⟩:=ih ts (l'::r) (w+4*a'.length) e (by rw[hd];exact .beh l' r (jvv hw ho) hr) ⟨x+4*a'.length,y,by omega,h1.opd du ho,h2⟩ (by omega) c8;exact⟨res,.wrd a' p ts l l' r res ha b8 du hw (h1.mono (by omega)) ho g⟩
 | @opn ts0 wt d cb A ih =>
  intro ts ls w e F B hk hT;obtain⟨q,ts,rfl⟩:∃ q t,ts=q::t:=by cases ts with|nil=>cases e|cons q t=>exact⟨q,t,rfl⟩
  obtain⟨a',p⟩:=q;simp only[List.map_cons,List.cons.injEq] at e;obtain⟨rfl,e⟩:=e;have c8:=fun q hq=>hT q (zaw _ hq)
  rw[jit] at hk;have cv:=(hT _ zaa).1;dsimp only at hk cv;obtain⟨hr,hd⟩:(∀ m∈ls,m.wait)/\d+1=ls.length:=by
   cases F with
   | beg l r h hs hr=>exact⟨fun m hm=>by rcases List.mem_cons.mp hm with rfl|hm;unfold Lv.wait;rw[h];exact trivial;exact hr m hm,rfl⟩
   | fac l r h hs hr=>exact⟨fun m hm=>by rcases List.mem_cons.mp hm with rfl|hm;exact h;exact hr m hm,rfl⟩
   | beh l r h hr=>exact absurd cb (by decide +kernel)
  obtain⟨res,g⟩:=ih ts (new p::ls) w e (by rw[hd];exact .beg _ ls rfl rfl hr) ⟨0,w,by omega,LvB.new _ _ p,B⟩ (by omega) c8;exact⟨res,.opn p ts ls res g⟩
 | @cls ts0 d A ih =>
  intro ts ls w e F B hk hT;obtain⟨q,ts,rfl⟩:∃ q t,ts=q::t:=by cases ts with|nil=>cases e|cons q t=>exact⟨q,t,rfl⟩
  obtain⟨a',p⟩:=q;simp only[List.map_cons,List.cons.injEq] at e;obtain⟨rfl,e⟩:=e;have c8:=fun q hq=>hT q (zaw _ hq)
  rw[jit] at hk;have cv:=(hT _ zaa).1;dsimp only at hk cv;obtain⟨l,m,r,rfl,hb,hw,hr,hd⟩:∃ l m r,ls=l::m::r/\l.behind/\m.wait/\(∀ m∈r,m.wait)/\d=r.length:=by
   generalize cb:(Str.ofString "behind")=wt at F;generalize kd:d+1=d' at F
   cases F with
   | beg=>exact absurd cb (by decide +kernel)
   | fac=>exact absurd cb (by decide +kernel)
   | beh l r h hr =>
    cases r with
    | nil=>cases kd
    | cons m r=>exact⟨l,m,r,rfl,h,hr m zaa,fun x hx=>hr x (zaw _ hx),by simpa using kd⟩
  obtain⟨x,y,hxy,h1,x',y',hxy',h1',h2'⟩:=B;have hwh:=h1.whole (jiv hb)
  cases ho:opd m l.whole with
  | error q=>exact⟨_,.clsE p q d ts l m r hb hw (h1.mono (by omega)) (h1'.mono (by omega)) ho (by rw[e];exact A)⟩
  | ok m' =>
   obtain⟨res,g⟩:=ih ts (m'::r) (w+1) e (by rw[hd];exact .beh m' r (jvv hw ho) hr) ⟨x'+(x+1),y',by omega,h1'.opd hwh ho,h2'⟩ (by omega) c8;exact⟨res,.cls p ts l m m' r res hb hw (h1.mono (by omega)) (h1'.mono (by omega)) ho g⟩
 | @neg ts0 d A ih =>
  intro ts ls w e F B hk hT;obtain⟨q,ts,rfl⟩:∃ q t,ts=q::t:=by cases ts with|nil=>cases e|cons q t=>exact⟨q,t,rfl⟩
  obtain⟨a',p⟩:=q;simp only[List.map_cons,List.cons.injEq] at e;obtain⟨rfl,e⟩:=e;have c8:=fun q hq=>hT q (zaw _ hq)
  rw[jit] at hk;have cv:=(hT _ zaa).1;dsimp only at hk cv;obtain⟨l,r,rfl,he,hs,hr,hd⟩:∃ l r,ls=l::r/\l.ph=.emp/\l.sg=none/\(∀ m∈r,m.wait)/\d=r.length:=by
   generalize cb:(Str.ofString "beginning")=wt at F
   cases F with
   | beg l r h hs hr=>exact⟨l,r,rfl,h,hs,hr,rfl⟩
   | fac=>exact absurd cb (by decide +kernel)
   | beh=>exact absurd cb (by decide +kernel)
  obtain⟨x,y,hxy,h1,h2⟩:=B;obtain⟨res,g⟩:=ih ts (signL aa.length l 45 p::r) (w+1) e (by rw[hd];exact jp6 _ _ _ hr) ⟨x+1,y,by omega,h1.sign 45 p (fun z=>by cases z),h2⟩ (by omega) c8;exact⟨res,.neg p ts l r res he hs (h1.mono (by omega)) g⟩
 | @bin c ts0 d hc A ih =>
  intro ts ls w e F B hk hT;obtain⟨q,ts,rfl⟩:∃ q t,ts=q::t:=by cases ts with|nil=>cases e|cons q t=>exact⟨q,t,rfl⟩
  obtain⟨a',p⟩:=q;simp only[List.map_cons,List.cons.injEq] at e;obtain⟨rfl,e⟩:=e;have c8:=fun q hq=>hT q (zaw _ hq)
  rw[jit] at hk;have cv:=(hT _ zaa).1;dsimp only at hk cv;obtain⟨l,r,rfl,hb,hr,hd⟩:∃ l r,ls=l::r/\l.behind/\(∀ m∈r,m.wait)/\d=r.length:=by
   generalize cb:(Str.ofString "behind")=wt at F
   cases F with
   | beg=>exact absurd cb (by decide +kernel)
   | fac=>exact absurd cb (by decide +kernel)
   | beh l r h hr=>exact⟨l,r,rfl,h,hr,rfl⟩
  obtain⟨x,y,hxy,h1,h2⟩:=B;obtain⟨res,g⟩:=ih ts (signL aa.length l c p::r) (w+1) e (by rw[hd];exact jp6 _ _ _ hr) ⟨x+1,y,by omega,h1.sign c p (fun _=>jiv hb),h2⟩ (by omega) c8;exact⟨res,.bin c p ts l r res hc hb (h1.mono (by omega)) g⟩
end
section
def tkD(q:List Nat×Int):D:=.tup [sT q.1,.int q.2]
def All2(n:Nat):List Lv->List OS->Prop
 | [],[]=>True
 | l::r,o::os=>OsOk n l o/\All2 n r os
 | _,_=>False
def okT{n:Nat}{l:Lv}{o:OS}{f:Fm}(h:OsOk n l o)(hw:l.wait)(B:LvB n KL l)(hf:FB n (KL+1) f):OkT n o f:=by
 refine⟨hf.len,hf.bf.mono (by decide),by rw[h.sgn];exact jGr (s_or l),fun hs=>?_⟩;have h3:=h.ph;obtain⟨a,b,hab,hB,_⟩:=B;unfold Lv.wait at hw
 cases e:l.ph with
 | emp=>rw[e] at h3;exact absurd h3.1 hs
 | one _=>rw[e] at hw;exact hw.elim
 | two _ _ _=>rw[e] at hw;exact hw.elim
 | str F p =>
  rw[e] at h3 hB;have:=(hB.cur (fun z=>nomatch z)).sg (s_or l);rw[h3.2];exact⟨this.bf.mono (by have:KL<=KB:=(by decide);omega),this.len⟩
def jHr(aa:LL)(pc:D)(res:Except Int Fm)(v:Option (Except XD Out×Sto)):Prop:=match res with
 | .ok f=>∃ Y' i Ω' o,v=some (.ok (.nx Y'),Ω')/\RS1 (.lst (nmD aa)) pc [i] Y'/\Ω'[i]? = some (osO o)/\wholeF o=f/\o.total.1.length=aa.length
 | .error p=>∃ Ω',v=some (.error (xdO Ω'.length),errs Ω' false "NotPlain" p)
def jl0{n w:Nat}{l:Lv}{o:OS}(h:OsOk n l o)(B:LvB n w l):o.total.1.length=n:=by
 rw[h.tot];unfold Lv.tot;obtain⟨a,b,hab,hB,hs⟩:=B
 cases e:l.sg with
 | none=>simp[jri]
 | some t=>obtain⟨T,c,p⟩:=t;exact (hs T c p e).len
def jr0(n:Nat)(p:Int):OsOk n (new p) (fresh n):=⟨rfl,rfl,rfl,fun _=>rfl⟩
def jv6{aa:LL}(hn:aa.length<=1000){pc:D}{ts:List (List Nat×Int)}{ls:List Lv}{res:Except Int Fm}(G:Go aa ts ls res) :
  ∀ (os:List OS) (r:List Nat) (Ω:Sto) (Y:DSt),All2 aa.length ls os->Stk Ω r os->RS1 (.lst (nmD aa)) pc r Y->r.length+ts.length<=1000000->jHr aa pc res (forE jbo (je7 3 4) (ts.map tkD) Y Ω):=by
 have hl:(nmD aa).length=aa.length:=by simp[nmD]
 have K1:∀ {f:Fm} {k:Nat},k<=40->FB aa.length (4*k) f->FB aa.length (KL+1) f:=fun hk h=>h.mono (by have:KL=80000:=rfl;omega)
 induction G with
 | done l hb B =>
  intro os r Ω Y A S R hz;obtain⟨o,os,rfl⟩:∃ o os',os=o::os':=by cases os with|nil=>exact A.elim|cons o os=>exact⟨o,os,rfl⟩
  obtain rfl:os=[]:=by cases os with|nil=>rfl|cons _ _=>exact A.2.elim
  obtain⟨i,r1,rfl⟩:=S.inv;obtain rfl:r1=[]:=by cases r1 with|nil=>rfl|cons _ _=>exact S.2.2.elim
  exact⟨Y,i,Ω,o,rfl,R,S.1,A.1.whole hb B,jl0 A.1 B⟩
 | opn p ts ls res h ih =>
  intro os r Ω Y A S R hz;obtain⟨x,y,z,rfl⟩:=R;rw[List.length_cons] at hz;obtain⟨e,S'⟩:=jy7 (pc:=pc) (z:=z) (p:=p) hn hl S (by omega);rw[List.map_cons,jdk (Y1:=[oN aa,some pc,some (idsD r),some (.str "("),oI p,z]) rfl e];exact ih (fresh aa.length::os) _ _ _ ⟨jr0 _ p,A⟩ S' ⟨_,_,_,rfl⟩ (by rw[List.length_cons];omega)
 | wrd a p ts l l' r0 res ha b8 hf hw B ho h ih =>
  intro os r Ω Y A S R hz;obtain⟨o,os,rfl⟩:∃ o os',os=o::os':=by cases os with|nil=>exact A.elim|cons o os=>exact⟨o,os,rfl⟩
  obtain⟨i,r1,rfl⟩:=S.inv;obtain⟨x,y,z,rfl⟩:=R;have W:=jG8 hn ha b8;have t:=A.1.take (f:=frmW aa a) hw;rw[ho] at t;have e:=jsu (pc:=pc) (z:=z) (p:=p) W.p1 W.p2 W.p3 (by rw[W.fw,jqj]) hn (okT A.1 hw B (K1 b8 hf)) S;unfold jp9 at e;rw[t.1] at e;rw[List.map_cons,jdk rfl e];rw[List.length_cons (a:=(a,p))] at hz;exact ih (takeF o (frmW aa a)::os) _ _ _ ⟨t.2,A.2⟩ S.took ⟨_,_,_,rfl⟩ (by omega)
 | wrdE a p q d ts l r0 ha b8 hf hw B ho h =>
  intro os r Ω Y A S R hz;obtain⟨o,os,rfl⟩:∃ o os',os=o::os':=by cases os with|nil=>exact A.elim|cons o os=>exact⟨o,os,rfl⟩
  obtain⟨i,r1,rfl⟩:=S.inv;obtain⟨x,y,z,rfl⟩:=R;have W:=jG8 hn ha b8;have t:=A.1.take (f:=frmW aa a) hw;rw[ho] at t;have e:=jsu (pc:=pc) (z:=z) (p:=p) W.p1 W.p2 W.p3 (by rw[W.fw,jqj]) hn (okT A.1 hw B (K1 b8 hf)) S;unfold jp9 at e;rw[show jnl o (frmW aa a)=some q from t] at e;exact⟨Ω,by rw[List.map_cons,jnn rfl e]⟩
 | cls p ts l m m' r0 res hb hw B B' ho h ih =>
  intro os r Ω Y A S R hz;obtain⟨o,os,rfl⟩:∃ o os',os=o::os':=by cases os with|nil=>exact A.elim|cons o os=>exact⟨o,os,rfl⟩
  obtain⟨b,os,rfl⟩:∃ o os',os=o::os':=by cases os with|nil=>exact A.2.elim|cons o os=>exact⟨o,os,rfl⟩
  obtain⟨i,r1,rfl⟩:=S.inv;obtain⟨j,r2,rfl⟩:=Stk.inv S.2.2;obtain⟨x,y,z,rfl⟩:=R;have wh:=A.1.whole hb B;have t:=A.2.1.take (f:=wholeF o) hw;rw[wh,ho] at t;have e:=jss (nm:=.lst (nmD aa)) (pc:=pc) (z:=z) (p:=p) hn (jl0 A.1 B) (by rw[wh];exact okT A.2.1 hw B' (B.whole (jiv hb))) S;unfold jp9 at e;rw[wh,t.1] at e;have S':Stk (Ω.set j (osO (takeF b l.whole))) (j::r2) (takeF b l.whole::os):=Stk.took S.2.2;rw[List.map_cons,jdk rfl e];rw[List.length_cons (a:=(([41],p):List Nat×Int)),List.length_cons] at hz;exact ih (takeF b l.whole::os) _ _ _ ⟨t.2,A.2.2⟩ S' ⟨_,_,_,rfl⟩ (by omega)
 | clsE p q d ts l m r0 hb hw B B' ho h =>
  intro os r Ω Y A S R hz;obtain⟨o,os,rfl⟩:∃ o os',os=o::os':=by cases os with|nil=>exact A.elim|cons o os=>exact⟨o,os,rfl⟩
  obtain⟨b,os,rfl⟩:∃ o os',os=o::os':=by cases os with|nil=>exact A.2.elim|cons o os=>exact⟨o,os,rfl⟩
  obtain⟨i,r1,rfl⟩:=S.inv;obtain⟨j,r2,rfl⟩:=Stk.inv S.2.2;obtain⟨x,y,z,rfl⟩:=R;have wh:=A.1.whole hb B;have t:=A.2.1.take (f:=wholeF o) hw;rw[wh,ho] at t;have e:=jss (nm:=.lst (nmD aa)) (pc:=pc) (z:=z) (p:=p) hn (jl0 A.1 B) (by rw[wh];exact okT A.2.1 hw B' (B.whole (jiv hb))) S;unfold jp9 at e;rw[wh,show jnl b l.whole=some q from t] at e;exact⟨Ω,by rw[List.map_cons,jnn rfl e]⟩
 | neg p ts l r0 res he hs B h ih =>
  intro os r Ω Y A S R hz;obtain⟨o,os,rfl⟩:∃ o os',os=o::os':=by cases os with|nil=>exact A.elim|cons o os=>exact⟨o,os,rfl⟩
  obtain⟨i,r1,rfl⟩:=S.inv;obtain⟨x,y,z,rfl⟩:=R;have hc:jbl (St [45])=true:=by rw[<- jla];exact jnu
  obtain⟨e,S'⟩:=jst (nm:=.lst (nmD aa)) (pc:=pc) (z:=z) (p:=p) hc hn (jl0 A.1 B) S;rw[List.map_cons,jdk rfl e];rw[List.length_cons (a:=(([45],p):List Nat×Int))] at hz;exact ih (signF o (St [45]) p::os) _ _ _ ⟨A.1.sign hc (.inr ⟨rfl,he,hs⟩) B,A.2⟩ S' ⟨_,_,_,rfl⟩ (by omega)
 | bin c p ts l r0 res hc hb B h ih =>
  intro os r Ω Y A S R hz;obtain⟨o,os,rfl⟩:∃ o os',os=o::os':=by cases os with|nil=>exact A.elim|cons o os=>exact⟨o,os,rfl⟩
  obtain⟨i,r1,rfl⟩:=S.inv;obtain⟨x,y,z,rfl⟩:=R;obtain⟨e,S'⟩:=jst (nm:=.lst (nmD aa)) (pc:=pc) (z:=z) (p:=p) hc hn (jl0 A.1 B) S;rw[List.map_cons,jdk rfl e];rw[List.length_cons (a:=(([c],p):List Nat×Int))] at hz;exact ih (signF o (St [c]) p::os) _ _ _ ⟨A.1.sign hc (.inl hb) B,A.2⟩ S' ⟨_,_,_,rfl⟩ (by omega)
def RecR(res:Except Int Fm)(v:Option (Except XD D×Sto)):Prop:=match res with
 | .ok f=>∃ Ω',v=some (.ok (fm f),Ω')
 | .error p=>∃ Ω',v=some (.error (xdO Ω'.length),errs Ω' false "NotPlain" p)
def jq8{aa:LL}(hn:aa.length<=1000){ts:List (List Nat×Int)}{q:Int}{res:Except Int Fm}(G:Go aa ts [new q] res)(hz:ts.length<=100000)(Ω:Sto):RecR res (jcu [.lst (nmD aa),.lst (ts.map tkD)] Ω):=by
 have hl:(nmD aa).length=aa.length:=by simp[nmD]
 unfold jcu;rw[jwq];have m:=jve (Ω:=Ω) hn;have e1:eSet 2 (mL ja2 (jhd (jpf "OpenSum" ja9 (lF (jac (fL kLen (jac (vR 0) fNil)) fNil))) (lF fNil))) [oN aa,oL (ts.map tkD),none,none,none,none] Ω=some (.ok (.nx [oN aa,oL (ts.map tkD),some (idsD [Ω.length]),none,none,none]),Ω++[osO (fresh aa.length)]):=by
  have l:lF (jac (fL kLen (jac (vR 0) fNil)) fNil) [oN aa,oL (ts.map tkD),none,none,none,none] Ω=some (.ok [.int aa.length],Ω):=by simp only[stsA,stpA,jpc,hl]
  have e:jpf "OpenSum" ja9 (lF (jac (fL kLen (jac (vR 0) fNil)) fNil)) [oN aa,oL (ts.map tkD),none,none,none,none] Ω=some (.ok (.obj Ω.length),Ω++[osO (fresh aa.length)]):=by
   rw[jwp,s_b,l,jis,m]
  rw[jGp,s_b,s_L,s_b,jAk,s_b,e,jis];rfl
 have S0:Stk (Ω++[osO (fresh aa.length)]) [Ω.length] [fresh aa.length]:=⟨by simp,by simp,trivial⟩
 have pl:=jv6 hn (pc:=.lst (ts.map tkD)) G [fresh aa.length] [Ω.length] _ _ ⟨jr0 _ q,trivial⟩ S0 ⟨none,none,none,rfl⟩ (by simp;omega);have e4:eFor (lF (ji8 (vR 1))) (je7 3 4) jbo [oN aa,oL (ts.map tkD),some (idsD [Ω.length]),none,none,none] (Ω++[osO (fresh aa.length)])=forE jbo (je7 3 4) (ts.map tkD) [oN aa,oL (ts.map tkD),some (idsD [Ω.length]),none,none,none] (Ω++[osO (fresh aa.length)]):=by
  rw[jGl,s_b];have i0:lF (ji8 (vR 1)) [oN aa,oL (ts.map tkD),some (idsD [Ω.length]),none,none,none] (Ω++[osO (fresh aa.length)])=some (.ok (ts.map tkD),Ω++[osO (fresh aa.length)]):=by simp only[stsA,stpA]
  rw[i0,jis]
 show RecR res (((jht [oN aa,oL (ts.map tkD),none,none,none,none]).b outE) Ω);unfold jht
 cases res with
 | error p =>
  obtain⟨Ω',pl⟩:=pl;exact⟨Ω',b_err (by rw[eseq e1];exact jf4 (by rw[e4,pl]))⟩
 | ok f =>
  obtain⟨Y',i,Ω',o,e2,⟨x,y,z,rfl⟩,hi,wf,tl⟩:=pl;have w:=jon hi (by omega);have y2:=fun (fl:DSt->MS (List D)) (Y:DSt)=>jle (m:=jba) (fl:=fl) (Y:=Y) (f:="whole") hi rfl
  have e3:eRet (jkd "OpenSum" "whole" jba (lF (f2 gIx (vR 2) (cI 0))) (lF fNil)) [oN aa,oL (ts.map tkD),some (idsD [i]),x,y,z] Ω'=some (.ok (.rt (fm f)),Ω'):=by
   have i0:lF (f2 gIx (vR 2) (cI 0)) [oN aa,oL (ts.map tkD),some (idsD [i]),x,y,z] Ω'=some (.ok (.obj i),Ω'):=by unfold idsD;simp only[stsA,stpA,List.reverse_cons,List.reverse_nil]
   rw[jGo,s_b,jAm,s_b,i0,jis];dsimp only;rw[y2,s_b,s_lF,jxi,s_lp,jis,w,jis,wf];rfl
  refine⟨Ω',?_⟩;rw[s_b,jDa,s_b,e1,jis,jrd,jDa,s_b,e4,e2,jis,jrd,e3,jis];rfl
end
section
inductive W3
 | beg
 | fac
 | beh
 deriving DecidableEq
def wS:W3->Str
 | .beg=>"beginning"
 | .fac=>"factor"
 | .beh=>"behind"
def jid(c:Nat)(d:Nat):W3->Bool
 | .beh=>jbl (St [c]) || (c == 41&&decide (0<d))
 | .beg=>c == 45 || (c == 40 || (isL c || isG c))
 | .fac=>!(c == 45)&&(c == 40 || (isL c || isG c))
def jsr(c d:Nat)(w:W3):jgg [.str (S1 c),.str (wS w),.int (d:Nat)]=oK (.bl (jid c d w)):=by
 have eS:∀ z:Nat,(S1 c == St [z])=(c == z):=fun z=>by
  rw[<- jAq,jfw]
  by_cases h:c=z
  ·rw[h,beq_self_eq_true,beq_self_eq_true]
  ·rw[beq_eq_false_iff_ne.mpr h,beq_eq_false_iff_ne.mpr (fun y=>h (List.cons.inj y).1)]
 have el:=jhc c;have ef:=jk0 c;unfold jgg;rw[jry];show (jga [oS (S1 c),oS (wS w),oI (d:Nat)]).b outD=_;unfold jga
 cases w with
 | beh =>
  have i0:gIn (.str (S1 c)) (.tup [.str "+",.str "-",.str "*"])=some (.bl (jbl (St [c]))):=ji9 _;have t:t2 gEq (vR 1) (cS "behind") [oS (S1 c),oS (wS .beh),oI (d:Nat)]=oK true:=by
   simp only[stpA,jbg];rfl
  have r:fOr (f2 gIn (vR 0) (fL jbq (jac (cS "+") (jac (cS "-") (jac (cS "*") fNil))))) (fAnd (f2 gEq (vR 0) (fC (.str ")"))) (f2 gGt (vR 2) (cI 0))) [oS (S1 c),oS (wS .beh),oI (d:Nat)]=oK (.bl (jid c d .beh)):=by
   have e1:f2 gIn (vR 0) (fL jbq (jac (cS "+") (jac (cS "-") (jac (cS "*") fNil)))) [oS (S1 c),oS (wS .beh),oI (d:Nat)]=oK (.bl (jbl (St [c]))):=by simp only[stpA];exact congrArg M.o i0
   have e2:f2 gEq (vR 0) (fC (.str ")")) [oS (S1 c),oS (wS .beh),oI (d:Nat)]=oK (.bl (c == 41)):=by simp only[stpA,jbg,jnv,eS];rfl
   have e3:f2 gGt (vR 2) (cI 0) [oS (S1 c),oS (wS .beh),oI (d:Nat)]=oK (.bl (decide (0<d))):=by
    simp only[stpA,gt_int];rw[show decide ((d:Int) > 0)=decide (0<d) from by rw[decide_eq_decide];omega];rfl
   unfold fOr fAnd jid;rw[e1,M.b_ok]
   cases jbl (St [c]) with
   | true=>rfl
   | false =>
    show M.b (f2 gEq (vR 0) (fC (.str ")")) _) _=_;rw[e2,M.b_ok]
    cases c == 41 with
    | true=>exact e3
    | false=>rfl
  rw[w_rt (by rw[jel t,if_pos rfl];exact jiu r)];rfl
 | beg =>
  have t:t2 gEq (vR 1) (cS "behind") [oS (S1 c),oS (wS .beg),oI (d:Nat)]=oK false:=by
   simp only[stpA,jbg];rfl
  rw[jdu t];have b9:t2 gEq (vR 0) (cS "-") [oS (S1 c),oS (wS .beg),oI (d:Nat)]=oK (c == 45):=by simp only[stpA,jbg,jla,eS];rfl
  unfold jid
  cases q:c == 45 with
  | true =>
   rw[q] at b9;rw[w_rt (by rw[jel b9,if_pos rfl];exact jiu (d:=.bl true) (by simp only[stpA,jbg];rfl))];rfl
  | false =>
   rw[q] at b9;rw[jdu b9];have e1:f2 gEq (vR 0) (fC (.str "(")) [oS (S1 c),oS (wS .beg),oI (d:Nat)]=oK (.bl (c == 40)):=by simp only[stpA,jbg,jlb,eS];rfl
   have e2:jau ja5 (jac (vR 0) fNil) [oS (S1 c),oS (wS .beg),oI (d:Nat)]=oK (.bl (isL c)):=el;have e3:jau jbw (jac (vR 0) fNil) [oS (S1 c),oS (wS .beg),oI (d:Nat)]=oK (.bl (isG c)):=ef;rw[jiu (d:=.bl (c == 40 || (isL c || isG c))) (by
    unfold fOr;rw[e1,M.b_ok]
    cases c == 40 with
    | true=>rfl
    | false =>
     show M.b (jau ja5 (jac (vR 0) fNil) _) _=_;rw[e2,M.b_ok]
     cases isL c with
     | true=>rfl
     | false=>exact e3)]
   rfl
 | fac =>
  have t:t2 gEq (vR 1) (cS "behind") [oS (S1 c),oS (wS .fac),oI (d:Nat)]=oK false:=by
   simp only[stpA,jbg];rfl
  rw[jdu t];have b9:t2 gEq (vR 0) (cS "-") [oS (S1 c),oS (wS .fac),oI (d:Nat)]=oK (c == 45):=by simp only[stpA,jbg,jla,eS];rfl
  unfold jid
  cases q:c == 45 with
  | true =>
   rw[q] at b9;rw[w_rt (by rw[jel b9,if_pos rfl];exact jiu (d:=.bl false) (by simp only[stpA,jbg];rfl))];rfl
  | false =>
   rw[q] at b9;rw[jdu b9];have e1:f2 gEq (vR 0) (fC (.str "(")) [oS (S1 c),oS (wS .fac),oI (d:Nat)]=oK (.bl (c == 40)):=by simp only[stpA,jbg,jlb,eS];rfl
   have e2:jau ja5 (jac (vR 0) fNil) [oS (S1 c),oS (wS .fac),oI (d:Nat)]=oK (.bl (isL c)):=el;have e3:jau jbw (jac (vR 0) fNil) [oS (S1 c),oS (wS .fac),oI (d:Nat)]=oK (.bl (isG c)):=ef;rw[jiu (d:=.bl (c == 40 || (isL c || isG c))) (by
    unfold fOr;rw[e1,M.b_ok]
    cases c == 40 with
    | true=>rfl
    | false =>
     show M.b (jau ja5 (jac (vR 0) fNil) _) _=_;rw[e2,M.b_ok]
     cases isL c with
     | true=>rfl
     | false=>exact e3)]
   rfl
def runL:Nat->List Nat->Nat
 | 0,_=>0
 | _+1,[]=>0
 | k+1,c::r=>if isL c=true then 1+runL k r else 0
def runG:List Nat->Nat
 | []=>0
 | c::r=>if isG c=true then 1+runG r else 0
def pl(c:Nat)(r:List Nat):Nat:=if isL c=true then runL 9 r else if (isG c&&!(c == 48))=true then runG r else 0
theorem jk8{x:Str}{p:Nat}:∀ (r pre:List Nat) (m:Nat),At x pre r->r.length<m->jed jb0 jcx m (ed x p pre.length)=nX (ed x p (pre.length+runL (p+10-pre.length) r))
 | [],pre,m,h,hm=>by
  obtain⟨m,rfl⟩:∃ j,m=j+1:=⟨m-1,by simp at hm;omega⟩
  rw[jjo (jGv h),show runL (p+10-pre.length) []=0 from by cases p+10-pre.length<;>rfl];rfl
 | c::r,pre,m,h,hm=>by
  obtain⟨m,rfl⟩:∃ j,m=j+1:=⟨m-1,by simp at hm;omega⟩
  rw[List.length_cons] at hm
  cases q:isL c&&decide (pre.length<p+10) with
  | false =>
   rw[jjo (by rw[jGu h,q]),show runL (p+10-pre.length) (c::r)=0 from by
    cases k:p+10-pre.length with
    | zero=>rfl
    | succ n =>
     rw[decide_eq_true (by omega),Bool.and_true] at q;show (if isL c=true then _ else 0)=0;rw[q];rfl]
   rfl
  | true =>
   have h':At x (pre++[c]) r:=At.step (a:=[c]) h;have ih:=jk8 (p:=p) r (pre++[c]) m h' (by omega);rw[zcb,List.length_singleton] at ih;rw[jsx (by rw[jGu h,q]) (jHt x p pre.length),ih];rw[Bool.and_eq_true,decide_eq_true_eq] at q;rw[show p+10-pre.length=(p+10-(pre.length+1))+1 by omega];show _=some (Except.ok (Out.nx (ed x p (pre.length+(if isL c=true then 1+runL (p+10-(pre.length+1)) r else 0)))));rw[if_pos q.1,Nat.add_assoc]
theorem jk1{x:Str}{p:Nat}:∀ (r pre:List Nat) (m:Nat),At x pre r->r.length<m->jed jb1 jcy m (ed x p pre.length)=nX (ed x p (pre.length+runG r))
 | [],pre,m,h,hm=>by
  obtain⟨m,rfl⟩:∃ j,m=j+1:=⟨m-1,by simp at hm;omega⟩
  rw[jjo (jGx h)];rfl
 | c::r,pre,m,h,hm=>by
  obtain⟨m,rfl⟩:∃ j,m=j+1:=⟨m-1,by simp at hm;omega⟩
  rw[List.length_cons] at hm
  cases q:isG c with
  | false =>
   rw[jjo (by rw[jGw h,q]),show runG (c::r)=0 from by show (if isG c=true then _ else 0)=0;rw[q];rfl];rfl
  | true =>
   have h':At x (pre++[c]) r:=At.step (a:=[c]) h;have ih:=jk1 (p:=p) r (pre++[c]) m h' (by omega);rw[zcb,List.length_singleton] at ih;rw[jsx (by rw[jGw h,q]) (jHu x p pre.length),ih];show _=some (Except.ok (Out.nx (ed x p (pre.length+(if isG c=true then 1+runG r else 0)))));rw[if_pos q,Nat.add_assoc]
def jEo{x:Str}{pre r:List Nat}{c:Nat}(h:At x pre (c::r))(hf:x.length<FUEL):jc6 [.str x,.int (pre.length:Nat)]=oK (.int ((pre.length+1+pl c r:Nat):Int)):=by
 have hl:=h.len;rw[List.length_cons] at hl;have h':At x (pre++[c]) r:=At.step (a:=[c]) h;have hp:(pre++[c]).length=pre.length+1:=by simp
 unfold jc6;rw[jgv];show (jd3 [oS x,oI (pre.length:Nat),none]).b outD=_;unfold jd3;rw[ja8 (Y':=ed x pre.length (pre.length+1)) (by unfold ed;simp only[stpA];rfl)];have tL:tTru (jau ja5 (jac (f2 gIx (vR 0) (vR 1)) fNil)) (ed x pre.length (pre.length+1))=oK (isL c):=by
  unfold ed;simp only[stpA,h.ix,jhc];rfl
 have tG:DL.tAnd (tTru (jau jbw (jac (f2 gIx (vR 0) (vR 1)) fNil))) (t2 gNe (f2 gIx (vR 0) (vR 1)) (cS "0")) (ed x pre.length (pre.length+1))=oK (isG c&&!(c == 48)):=by
  have e1:tTru (jau jbw (jac (f2 gIx (vR 0) (vR 1)) fNil)) (ed x pre.length (pre.length+1))=oK (isG c):=by unfold ed;simp only[stpA,h.ix,jk0];rfl
  have e2:t2 gNe (f2 gIx (vR 0) (vR 1)) (cS "0") (ed x pre.length (pre.length+1))=oK (!(c == 48)):=by unfold ed;simp only[stpA,h.ix,jCk];rfl
  unfold DL.tAnd;rw[e1,M.b_ok]
  cases isG c with
  | true=>exact e2
  | false=>rfl
 have body:gIf (tTru (jau ja5 (jac (f2 gIx (vR 0) (vR 1)) fNil))) (jed jb0 jcx FUEL) (gIf (DL.tAnd (tTru (jau jbw (jac (f2 gIx (vR 0) (vR 1)) fNil))) (t2 gNe (f2 gIx (vR 0) (vR 1)) (cS "0"))) (jed jb1 jcy FUEL) gNx) (ed x pre.length (pre.length+1))=nX (ed x pre.length (pre.length+1+pl c r)):=by
  rw[jel tL];unfold pl
  cases q:isL c with
  | true =>
   rw[if_pos rfl,if_pos rfl,<- hp,jk8 r (pre++[c]) FUEL h' (by omega),hp,show pre.length+10-(pre.length+1)=9 by omega]
  | false =>
   rw[if_neg (by decide),if_neg (by decide),jel tG]
   cases q2:isG c&&!(c == 48) with
   | true=>rw[if_pos rfl,if_pos rfl,<- hp,jk1 r (pre++[c]) FUEL h' (by omega),hp]
   | false=>rfl
 rw[ja8 body];rfl
end
section
abbrev Rs:=Except Nat (List (List Nat×Int))
def jEa(q:List Nat×Int):Rs->Rs
 | .ok ts=>.ok (q::ts)
 | .error k=>.error k
def wb(a:List Nat):W3:=if a=[40] then .beg else if jbl (St a)=true then .fac else .beh
def dN(a:List Nat)(d:Nat):Nat:=if a=[40] then d+1 else if a=[41] then d-1 else d
def jG7(a:List Nat):wby a=wS (wb a):=by
 unfold wby wb
 split
 ·rfl
 ·split<;>rfl
inductive Sc:List Nat->W3->Nat->Nat->Rs->Prop
 | fin (w:W3) (d o:Nat):Sc [] w d o (if w=.beh/\d=0 then .ok [] else .error o)
 | blank (r:List Nat) (w:W3) (d o:Nat) (res:Rs) (h:Sc r w d (o+1) res):Sc (32::r) w d o res
 | bad (c:Nat) (r:List Nat) (w:W3) (d o:Nat) (h:c≠32) (hs:jid c d w=false):Sc (c::r) w d o (.error o)
 | tok (c:Nat) (r:List Nat) (w:W3) (d o:Nat) (res:Rs) (h:c≠32) (hs:jid c d w=true) (hr:Sc (r.drop (pl c r)) (wb (c::r.take (pl c r))) (dN (c::r.take (pl c r)) d) (o+1+pl c r) res):Sc (c::r) w d o (jEa (c::r.take (pl c r),(o:Int)) res)
theorem jDc:∀ (n:Nat) (x:List Nat) (w:W3) (d o:Nat),x.length<=n->∃ res,Sc x w d o res
 | _,[],w,d,o,_=>⟨_,.fin w d o⟩
 | 0,_::_,_,_,_,h=>by simp at h
 | n+1,c::r,w,d,o,h=>by
  rw[List.length_cons] at h
  by_cases hc:c=32
  ·subst hc;obtain⟨res,q⟩:=jDc n r w d (o+1) (by omega);exact⟨res,.blank r w d o res q⟩
  ·cases hs:jid c d w with
   | false=>exact⟨_,.bad c r w d o hc hs⟩
   | true =>
    obtain⟨res,q⟩:=jDc n (r.drop (pl c r)) (wb (c::r.take (pl c r))) (dN (c::r.take (pl c r)) d) (o+1+pl c r) (by rw[List.length_drop];omega);exact⟨_,.tok c r w d o res hc hs q⟩
theorem jwj:∀ (k:Nat) (r:List Nat),runL k r<=r.length
 | 0,_=>Nat.zero_le _
 | k+1,[]=>Nat.zero_le _
 | k+1,c::r=>by
  have:=jwj k r;show (if isL c=true then 1+runL k r else 0)<=r.length+1
  split<;>omega
theorem jwi:∀ r:List Nat,runG r<=r.length
 | []=>Nat.zero_le _
 | c::r=>by
  have:=jwi r;show (if isG c=true then 1+runG r else 0)<=r.length+1
  split<;>omega
def jyo(c:Nat)(r:List Nat):pl c r<=r.length:=by
 unfold pl
 split
 ·exact jwj 9 r
 ·split
  ·exact jwi r
  ·exact Nat.zero_le _
def pdv(x:Str)(ps:List (List Nat×Int))(d:Nat)(w:W3)(p:Nat)(e y:Option D):DSt:=[oS x,oL (ps.map tkD),oI (d:Nat),oS (wS w),oI (p:Nat),e,y]
section
variable {x:Str}{ps:List (List Nat×Int)}{d p:Nat}{w:W3}{e y:Option D}{Ω:Sto}{pre r:List Nat}{c:Nat}
def jjz{g:DSt->MS Out}(h:At x pre (c::r))(hf:x.length<=40000):eSeq (lF (gSet 5 (jau jc6 (jac (vR 0) (jac (vR 4) fNil))))) (eSeq (lF (gSet 6 (fSl (vR 0) (jcj (vR 4)) (jcj (vR 5))))) g) (pdv x ps d w pre.length e y) Ω=g (pdv x ps d w pre.length (oI ((pre.length+1+pl c r:Nat):Int)) (some (sT (c::r.take (pl c r))))) Ω:=by
 have e1:=jEo h (by rw[jt3];omega);rw[eseq (Y':=pdv x ps d w pre.length (oI ((pre.length+1+pl c r:Nat):Int)) y) (Ω':=Ω) (lft (by unfold pdv;simp only[stpA,e1];rfl))];have hc:At x pre ((c::r.take (pl c r))++r.drop (pl c r)):=by rw[List.cons_append,List.take_append_drop];exact h
 have ct:=hc.cut;rw[List.length_cons,List.length_take,Nat.min_eq_left (jyo c r),show pre.length+(pl c r+1)=pre.length+1+pl c r by omega] at ct
 let Y:=pdv x ps d w pre.length (oI ((pre.length+1+pl c r:Nat):Int)) y
 have sl:fSl (vR 0) (jcj (vR 4)) (jcj (vR 5)) Y=M.p (sT (c::r.take (pl c r))):=jrf rfl (show jcj (vR 4) Y=M.p (some ((pre.length:Nat):Int)) from rfl) (show jcj (vR 5) Y=M.p (some ((pre.length+1+pl c r:Nat):Int)) from rfl) ct;rw[eseq (g1:=lF (gSet 6 (fSl (vR 0) (jcj (vR 4)) (jcj (vR 5))))) (Y':=pdv x ps d w pre.length (oI ((pre.length+1+pl c r:Nat):Int)) (some (sT (c::r.take (pl c r))))) (Ω':=Ω) (lft (jDt 6 sl))]
def jCq(h:At x pre (32::r))(hf:x.length<=40000):∃ e' y',jb4 (pdv x ps d w pre.length e y) Ω=some (.ok (.nx (pdv x ps d w (pre.length+1) e' y')),Ω):=by
 refine⟨oI ((pre.length+1+0:Nat):Int),some (sT [32]),?_⟩;unfold jb4;rw[jjz h hf,show pl 32 r=0 from rfl];rw[eseq (Y':=pdv x ps d w pre.length (oI ((pre.length+1+0:Nat):Int)) (some (sT [32]))) (Ω':=Ω) (by
  rw[eif (c:=false) (Ω':=Ω) (lft (by unfold pdv;simp only[stpA,List.take,jCj];rfl)),if_neg (by decide)];rfl)]
 rfl
def jz5(hc:c≠32)(a:List Nat):((c::a) == [32])=false:=beq_eq_false_iff_ne.mpr fun z=>hc (List.cons.inj z).1
def jIh(h:At x pre (c::r))(hf:x.length<=40000)(hc:c≠32)(hs:jid c d w=false):jb4 (pdv x ps d w pre.length e y) Ω=some (.error (xdO Ω.length),errs Ω false "NoText" (pre.length:Nat)):=by
 have hl:=h.len;have hm:=h.small;rw[List.length_cons] at hl;have st:=jsr c d w;rw[hs] at st;unfold jb4;rw[jjz h hf];refine jf4 ?_;rw[eif (c:=true) (Ω':=Ω) (lft (by unfold pdv;simp only[stpA,jCj,jz5 hc];rfl)),if_pos rfl];refine jf4 ?_;rw[eif (c:=true) (Ω':=Ω) (lft (by
  have i0:gIx (sT (c::r.take (pl c r))) (.int 0)=oS (S1 c):=ix0 (by rw[List.length_take];omega);unfold pdv;simp only[stpA,i0,st];rfl)),if_pos rfl]
 exact jsk (lft rfl)
def jIi(h:At x pre (c::r))(hf:x.length<=40000)(hc:c≠32)(hs:jid c d w=true)(hz:ps.length<=90000):∃ e' y',jb4 (pdv x ps d w pre.length e y) Ω=some (.ok (.nx (pdv x (ps++[(c::r.take (pl c r),(pre.length:Int))]) (dN (c::r.take (pl c r)) d) (wb (c::r.take (pl c r))) (pre.length+1+pl c r) e' y')),Ω):=by
 have hl:=h.len;have hm:=h.small;rw[List.length_cons] at hl;have st:=jsr c d w;rw[hs] at st;refine⟨oI ((pre.length+1+pl c r:Nat):Int),some (sT (c::r.take (pl c r))),?_⟩;unfold jb4;rw[jjz h hf];have i0:gIx (sT (c::r.take (pl c r))) (.int 0)=oS (S1 c):=ix0 (by rw[List.length_take];omega);have hd:(d:Int)+dby (c::r.take (pl c r))=((dN (c::r.take (pl c r)) d:Nat):Int):=by
  unfold dby dN
  split
  ·omega
  ·split
   ·rename_i z;have ci:c=41:=(List.cons.inj z).1;subst ci;have:0<d:=by
     cases w with
     | beh =>
      have q:(jbl (St [41]) || (true&&decide (0<d)))=true:=hs;rw[show jbl (St [41])=false from by decide +kernel,Bool.false_or,Bool.true_and,decide_eq_true_eq] at q;exact q
     | beg=>exact absurd (show false=true from hs) (by decide)
     | fac=>exact absurd (show false=true from hs) (by decide)
    omega
   ·omega
 have ns:=jz5 hc (r.take (pl c r));generalize c::r.take (pl c r)=a at *
 let Y (ps:List (List Nat×Int)) (d:Nat) (w:W3):DSt:=pdv x ps d w pre.length (oI ((pre.length+1+pl c r:Nat):Int)) (some (sT a))
 rw[eseq (Y':=Y (ps++[(a,(pre.length:Int))]) (dN a d) (wb a)) (Ω':=Ω) (by
  rw[eif (c:=true) (Ω':=Ω) (lft (by unfold pdv;simp only[stpA,jCj,ns];rfl)),if_pos rfl];rw[eseq (Y':=Y ps d w) (Ω':=Ω) (by
   rw[eif (c:=false) (Ω':=Ω) (lft (by unfold pdv;simp only[stpA,i0,st];rfl)),if_neg (by decide)];rfl)]
  rw[eseq (Y':=Y (ps++[(a,(pre.length:Int))]) d w) (Ω':=Ω) (lft (by
   rw[jJd (d:=tkD (a,(pre.length:Int))) (ds:=ps.map tkD) 1 rfl rfl (by rw[zav];omega)];show some (Except.ok (Out.nx (List.set (Y ps d w) 1 (oL (ps.map tkD++[tkD (a,(pre.length:Int))])))))=_;rw[show ps.map tkD++[tkD (a,(pre.length:Int))]=(ps++[(a,(pre.length:Int))]).map tkD from by rw[List.map_append];rfl];rfl))]
  rw[eseq (Y':=Y (ps++[(a,(pre.length:Int))]) (dN a d) w) (Ω':=Ω) (lft (by
   have dp:=jxg a;show gAug 2 gAdd (jau jfl (jac (vR 6) fNil)) (Y (ps++[(a,(pre.length:Int))]) d w)=some (Except.ok (Out.nx (Y (ps++[(a,(pre.length:Int))]) (dN a d) w)));simp only[Y,pdv,stpA,dp,DL.add_int,hd];rfl))]
  refine lft ?_;have wo:=jw6 a;rw[jG7] at wo;simp only[Y,pdv,stpA,wo];rfl)]
 rfl
abbrev jy9:DSt->MS Out:=eSeq (eIf (lF (DL.tOr (t2 gNe (vR 3) (cS "behind")) (t2 gGt (vR 2) (cI 0)))) (jgu xcs (jfa "NoText" jc1 (lF (jac (fL kLen (jac (vR 0) fNil)) fNil)))) eNx) (lF (gRet (vR 1)))
def ScR(Ω:Sto)(ps:List (List Nat×Int))(res:Rs)(v:Option (Except XD Out×Sto)):Prop:=match res with
 | .ok ts=>v=some (.ok (.rt (.lst ((ps++ts).map tkD))),Ω)
 | .error k=>v=some (.error (xdO Ω.length),errs Ω false "NoText" (k:Nat))
def jDn(hf:x.length<=40000)(hp:p=x.length):ScR Ω ps (if w=.beh/\d=0 then .ok [] else .error p) (jy9 (pdv x ps d w p e y) Ω):=by
 have t:DL.tOr (t2 gNe (vR 3) (cS "behind")) (t2 gGt (vR 2) (cI 0)) (pdv x ps d w p e y)=oK (!decide (w=.beh) || decide (0<d)):=by
  have e1:t2 gNe (vR 3) (cS "behind") (pdv x ps d w p e y)=oK (!decide (w=.beh)):=by
   cases w<;>(unfold pdv;simp only[stpA];rfl)
  have e2:t2 gGt (vR 2) (cI 0) (pdv x ps d w p e y)=oK (decide (0<d)):=by
   unfold pdv;simp only[stpA,gt_int];rw[show decide ((d:Int) > 0)=decide (0<d) from by rw[decide_eq_decide];omega];rfl
  unfold DL.tOr;rw[e1,M.b_ok]
  cases decide (w=W3.beh) with
  | true=>exact e2
  | false=>rfl
 unfold jy9
 by_cases q:w=.beh/\d=0
 ·rw[if_pos q];rw[decide_eq_true q.1,decide_eq_false (by omega)] at t;show _=_;rw[eseq (Y':=pdv x ps d w p e y) (Ω':=Ω) (by rw[eif (lft t)];rfl),List.append_nil];rfl
 ·rw[if_neg q];have:(!decide (w=.beh) || decide (0<d))=true:=by
   by_cases q1:w=.beh
   ·rw[decide_eq_true (show 0<d by rcases Nat.eq_zero_or_pos d with z|z;exact absurd ⟨q1,z⟩ q;exact z),Bool.or_true]
   ·rw[decide_eq_false q1];rfl
  rw[this] at t;show _=_;refine jf4 ?_;rw[eif (lft t),if_pos rfl];have ln:=len_str (x:=x) (by omega);rw[hp];exact jsk (lft (by unfold pdv;simp only[stpA,ln];rfl))
def jsp{g1 km g2:DSt->MS Out}{Y Y':DSt}{Ω Ω':Sto}(h:g1 Y Ω=km Y' Ω'):eSeq g1 g2 Y Ω=eSeq km g2 Y' Ω':=by
 unfold eSeq MS.b;rw[h]
def jDr{e y:Option D}(h:At x pre (c::r)):jec (pdv x ps d w pre.length e y) Ω=some (.ok true,Ω):=by
 have hl:=h.len;exact lft (by
  unfold pdv;simp only[stpA,len_str h.small,lt_int];rw[decide_eq_true (by rw[hl,List.length_cons];omega)];rfl)
def jG6{e y:Option D}(h:At x pre []):jec (pdv x ps d w pre.length e y) Ω=some (.ok false,Ω):=by
 have hl:=h.len;exact lft (by
  unfold pdv;simp only[stpA,len_str h.small,lt_int];rw[decide_eq_false (by rw[hl,List.length_nil];omega)];rfl)
def jG9{t:DSt->MS Bool}{g:DSt->MS Out}{k:Nat}{Y:DSt}{Ω:Sto}(h:t Y Ω=some (.ok false,Ω)):jej t g (k+1) Y Ω=some (.ok (.nx Y),Ω):=by
 unfold jej;rw[MS.b_ok h];rfl
def jHb{t:DSt->MS Bool}{g:DSt->MS Out}{k:Nat}{Y Y':DSt}{Ω Ω':Sto}(h:t Y Ω=some (.ok true,Ω))(h2:g Y Ω=some (.ok (.nx Y'),Ω')):jej t g (k+1) Y Ω=jej t g k Y' Ω':=by
 conv=>lhs;unfold jej
 rw[MS.b_ok h,if_pos rfl,MS.b_ok h2]
def jHa{t:DSt->MS Bool}{g:DSt->MS Out}{k:Nat}{Y:DSt}{Ω Ω':Sto}{z:XD}(h:t Y Ω=some (.ok true,Ω))(h2:g Y Ω=some (.error z,Ω')):jej t g (k+1) Y Ω=some (.error z,Ω'):=by
 unfold jej;rw[MS.b_ok h,if_pos rfl];exact b_err h2
end
def jv7{x:Str}(hf:x.length<=40000){rest:List Nat}{w:W3}{d o:Nat}{res:Rs}(S:Sc rest w d o res)(Ω:Sto):∀ (pre:List Nat) (ps:List (List Nat×Int)) (m:Nat) (e y:Option D),At x pre rest->o=pre.length->rest.length<m->ps.length+rest.length<=90000->ScR Ω ps res (eSeq (jej jec jb4 m) jy9 (pdv x ps d w o e y) Ω):=by
 induction S with
 | fin w d o =>
  intro pre ps m e y h ho hm hz;obtain⟨m,rfl⟩:∃ j,m=j+1:=⟨m-1,by simp at hm;omega⟩
  subst ho;have hl:=h.len;rw[eseq (jG9 (jG6 h))];exact jDn hf (by simpa using hl.symm)
 | blank r w d o res _ ih =>
  intro pre ps m e y h ho hm hz;obtain⟨m,rfl⟩:∃ j,m=j+1:=⟨m-1,by simp at hm;omega⟩
  subst ho;rw[List.length_cons] at hm hz;obtain⟨e',y',q⟩:=jCq (ps:=ps) (d:=d) (w:=w) (e:=e) (y:=y) (Ω:=Ω) h hf;rw[jsp (jHb (jDr h) q)];exact ih (pre++[32]) ps m e' y' (At.step (a:=[32]) h) (by simp) (by omega) (by omega)
 | bad c r w d o hc hs =>
  intro pre ps m e y h ho hm hz;obtain⟨m,rfl⟩:∃ j,m=j+1:=⟨m-1,by simp at hm;omega⟩
  subst ho;exact jf4 (jHa (jDr h) (jIh h hf hc hs))
 | tok c r w d o res hc hs _ ih =>
  intro pre ps m e y h ho hm hz;obtain⟨m,rfl⟩:∃ j,m=j+1:=⟨m-1,by simp at hm;omega⟩
  subst ho;rw[List.length_cons] at hm hz;obtain⟨e',y',q⟩:=jIi (ps:=ps) (d:=d) (w:=w) (e:=e) (y:=y) (Ω:=Ω) h hf hc hs (by omega);rw[jsp (jHb (jDr h) q)];have hA:At x (pre++(c::r.take (pl c r))) (r.drop (pl c r)):=At.step (by rw[List.cons_append,List.take_append_drop];exact h);have:=ih (pre++(c::r.take (pl c r))) (ps++[(c::r.take (pl c r),(pre.length:Int))]) m e' y' hA (by rw[zcb,List.length_cons,List.length_take,Nat.min_eq_left (jyo c r)];omega) (by rw[List.length_drop];omega) (by rw[zcb,List.length_drop];show _+1+_<=_;omega)
  cases res with
  | ok ts =>
   show _=_;rw[show _=_ from this,List.append_assoc];rfl
  | error k=>exact this
def jq7{x:Str}(hf:x.length<=40000){res:Rs}(S:Sc x.cps.toList .beg 0 0 res)(Ω:Sto):match res with
  | .ok ts=>jc2 [.str x] Ω=some (.ok (.lst (ts.map tkD)),Ω)
  | .error k=>jc2 [.str x] Ω=some (.error (xdO Ω.length),errs Ω false "NoText" (k:Nat)):=by
 have hl:x.cps.toList.length=x.length:=by simp[Str.length]
 have q:=jv7 hf S Ω [] [] FUEL none none ⟨rfl,by omega⟩ rfl (by rw[hl,jt3];omega) (by rw[hl];simp;omega);have hd:∀ v,(eSeq (jej jec jb4 FUEL) jy9 (pdv x [] 0 .beg 0 none none) Ω=v->MS.b (jgc [oS x,none,none,none,none,none,none]) outE Ω=(match v with|some (.ok o,Ω')=>outE o Ω'|some (.error z,Ω')=>some (.error z,Ω')|none=>none)):=fun v hv=>by
  unfold jgc;rw[MS.b,eseq (Y':=[oS x,oL [],none,none,none,none,none]) (Ω':=Ω) (lft rfl),eseq (Y':=[oS x,oL [],oI 0,none,none,none,none]) (Ω':=Ω) (lft rfl),eseq (Y':=[oS x,oL [],oI 0,oS "beginning",none,none,none]) (Ω':=Ω) (lft rfl),eseq (Y':=pdv x [] 0 .beg 0 none none) (Ω':=Ω) (lft rfl),hv];rcases v with _|⟨z,Ω'⟩
  ·rfl
  ·cases z<;>rfl
 cases res with
 | ok ts=>exact (hd _ q).trans rfl
 | error k=>exact (hd _ q).trans rfl
end
section
inductive Kd
 | begin
 | want
 | name
 | figures
 | nought
 | operand
 deriving DecidableEq
def kS:Kd->Str
 | .begin=>"begin"
 | .want=>"want"
 | .name=>"name"
 | .figures=>"figures"
 | .nought=>"nought"
 | .operand=>"operand"
def spc:Kd->Kd
 | .begin=>.begin
 | .want=>.want
 | _=>.operand
def opn(c:Nat)(b:Bool):Option Kd:=if ((c == 45&&b) || c == 40)=true then some (if c=40 then .begin else .want) else if c=48 then some .nought else if isG c=true then some .figures else if isL c=true then some .name else none
def beh(c:Nat):Option Kd:=if jbl (St [c])=true then some .want else if c=41 then some .operand else none
def jep(m c:Nat)(k:Kd):Option Kd:=if c=32 then some (spc k) else match k with
 | .begin=>opn c true
 | .want=>opn c false
 | .figures=>if isG c=true then some .figures else beh c
 | .name=>if (isL c&&decide (m<10))=true then some .name else beh c
 | _=>beh c
def lz:List Nat->Kd->Nat->Nat->Nat->Option Nat
 | [],k,_,d,o=>if (0<d\/k=.begin\/k=.want) then some o else none
 | c::r,k,m,d,o=>match jep m c k with
  | none=>some o
  | some k'=>if c=41/\d=0 then some o else lz r k' (if k'=k then m+1 else 1) (dN [c] d) (o+1)
def jpe{c:Nat}{r:List Nat}{k k':Kd}{m d o:Nat}(h:jep m c k=some k')(hd:¬ (c=41/\d=0)):lz (c::r) k m d o=lz r k' (if k'=k then m+1 else 1) (dN [c] d) (o+1):=by
 show (match jep m c k with
  | none=>some o
  | some k'=>if c=41/\d=0 then some o else lz r k' (if k'=k then m+1 else 1) (dN [c] d) (o+1))=_
 rw[h];exact if_neg hd
def jB6{c:Nat}{r:List Nat}{k:Kd}{m d o:Nat}(h:jep m c k=none\/(c=41/\d=0)):lz (c::r) k m d o=some o:=by
 show (match jep m c k with
  | none=>some o
  | some k'=>if c=41/\d=0 then some o else lz r k' (if k'=k then m+1 else 1) (dN [c] d) (o+1))=_
 cases e:jep m c k with
 | none=>rfl
 | some k' =>
  rcases h with h|h
  ·rw[e] at h;cases h
  ·exact if_pos h
def KRel(k:Kd)(m:Nat)(rest:List Nat):W3->Prop
 | .beg=>k=.begin
 | .fac=>k=.want
 | .beh=>k=.operand\/k=.nought\/(k=.name/\(10<=m\/Stop isL rest))\/(k=.figures/\Stop isG rest)
def jku{c:Nat}(h:isL c=true):c≠32/\c≠40/\c≠41/\c≠45/\c≠48/\isG c=false/\jbl (St [c])=false:=by
 have hg:isG c=false:=by
  cases e:isG c with
  | false=>rfl
  | true=>rw[jjb e] at h;cases h
 refine⟨?_,?_,?_,?_,?_,hg,?_⟩
 ·rintro rfl;exact absurd h (by decide)
 ·rintro rfl;exact absurd h (by decide)
 ·rintro rfl;exact absurd h (by decide)
 ·rintro rfl;exact absurd h (by decide)
 ·rintro rfl;exact absurd h (by decide)
 ·cases e:jbl (St [c]) with
  | false=>rfl
  | true=>rcases jdg e with rfl|rfl|rfl<;>exact absurd h (by decide)
def jkt{c:Nat}(h:isG c=true):c≠32/\c≠40/\c≠41/\c≠45/\isL c=false/\jbl (St [c])=false:=by
 refine⟨?_,?_,?_,?_,jjb h,?_⟩
 ·rintro rfl;exact absurd h (by decide)
 ·rintro rfl;exact absurd h (by decide)
 ·rintro rfl;exact absurd h (by decide)
 ·rintro rfl;exact absurd h (by decide)
 ·cases e:jbl (St [c]) with
  | false=>rfl
  | true=>rcases jdg e with rfl|rfl|rfl<;>exact absurd h (by decide)
def jd2{c:Nat}(a:List Nat)(d:Nat)(h1:c≠40)(h2:c≠41):dN (c::a) d=d:=by
 unfold dN;rw[if_neg (fun z=>h1 (List.cons.inj z).1),if_neg (fun z=>h2 (List.cons.inj z).1)]
theorem jvc{d:Nat}:∀ (j:Nat) (r:List Nat) (m o:Nat),m+j=10->lz r .name m d o=lz (r.drop (runL j r)) .name (m+runL j r) d (o+runL j r)
 | 0,r,m,o,_=>rfl
 | j+1,[],m,o,_=>rfl
 | j+1,c::r,m,o,h=>by
  show _=lz ((c::r).drop (if isL c=true then 1+runL j r else 0)) .name (m+(if isL c=true then 1+runL j r else 0)) d (o+(if isL c=true then 1+runL j r else 0))
  cases q:isL c with
  | false=>rfl
  | true =>
   obtain⟨f1,f2,f3,_⟩:=jku q;have st:jep m c .name=some .name:=by
    unfold jep;rw[if_neg f1];dsimp only;rw[q,decide_eq_true (by omega),if_pos (by decide)]
   rw[if_pos rfl,jpe st (fun z=>f3 z.1),if_pos rfl,jd2 [] d f2 f3,jvc j r (m+1) (o+1) (by omega),Nat.add_comm 1 (runL j r),List.drop_succ_cons];congr 1<;>omega
theorem jz0{d:Nat}:∀ (r:List Nat) (m o:Nat),∃ m',lz r .figures m d o=lz (r.drop (runG r)) .figures m' d (o+runG r)
 | [],m,o=>⟨m,rfl⟩
 | c::r,m,o=>by
  show ∃ m',_=lz ((c::r).drop (if isG c=true then 1+runG r else 0)) .figures m' d (o+(if isG c=true then 1+runG r else 0))
  cases q:isG c with
  | false=>exact⟨m,rfl⟩
  | true =>
   obtain⟨f1,f2,f3,_⟩:=jkt q;have st:jep m c .figures=some .figures:=by
    unfold jep;rw[if_neg f1];dsimp only;rw[q,if_pos rfl]
   obtain⟨m',ih⟩:=jz0 (d:=d) r (m+1) (o+1);refine⟨m',?_⟩;rw[if_pos rfl,jpe st (fun z=>f3 z.1),if_pos rfl,jd2 [] d f2 f3,ih,Nat.add_comm 1 (runG r),List.drop_succ_cons];congr 1;omega
theorem jpz:∀ (k:Nat) (r:List Nat),runL k r=k\/Stop isL (r.drop (runL k r))
 | 0,r=>.inl rfl
 | k+1,[]=>.inr trivial
 | k+1,c::r=>by
  show (if isL c=true then 1+runL k r else 0)=k+1\/Stop isL ((c::r).drop (if isL c=true then 1+runL k r else 0))
  cases q:isL c with
  | false=>exact .inr q
  | true =>
   rw[if_pos rfl,Nat.add_comm 1,List.drop_succ_cons];rcases jpz k r with h|h
   ·exact .inl (by rw[h])
   ·exact .inr h
theorem jpy:∀ r:List Nat,Stop isG (r.drop (runG r))
 | []=>trivial
 | c::r=>by
  show Stop isG ((c::r).drop (if isG c=true then 1+runG r else 0))
  cases q:isG c with
  | false=>exact q
  | true=>rw[if_pos rfl,Nat.add_comm 1,List.drop_succ_cons];exact jpy r
def rsO:Rs->Option Nat
 | .ok _=>none
 | .error e=>some e
def jyy(q:List Nat×Int)(res:Rs):rsO (jEa q res)=rsO res:=by cases res<;>rfl
def jw7{c:Nat}(a:List Nat)(h1:c≠40)(h:isL c=true\/isG c=true):wb (c::a)=.beh:=by
 unfold wb;rw[if_neg (fun z=>h1 (List.cons.inj z).1),if_neg ?_];intro z;rw[jlx] at z;simp only[Bool.or_false,Bool.or_eq_true,beq_iff_eq] at z;rcases z with z|z|z<;>(cases z;rcases h with h|h<;>exact absurd h (by decide))
def jy5{rest:List Nat}{w:W3}{d o:Nat}{res:Rs}(S:Sc rest w d o res):∀ (k:Kd) (m:Nat),KRel k m rest w->lz rest k m d o=rsO res:=by
 induction S with
 | fin w d o =>
  intro k m hk;show (if (0<d\/k=.begin\/k=.want) then some o else none)=_
  cases w with
  | beg=>rw[if_pos (.inr (.inl hk)),if_neg (fun z=>nomatch z.1)];rfl
  | fac=>rw[if_pos (.inr (.inr hk)),if_neg (fun z=>nomatch z.1)];rfl
  | beh =>
   have n1:¬ (k=.begin\/k=.want):=by
    rcases hk with rfl|rfl|⟨rfl,_⟩|⟨rfl,_⟩<;>(rintro (z|z)<;>cases z)
   rcases Nat.eq_zero_or_pos d with rfl|hd
   ·rw[if_neg (by rintro (z|z);exact absurd z (by decide);exact n1 z),if_pos ⟨rfl,rfl⟩];rfl
   ·rw[if_pos (.inl hd),if_neg (fun z=>by have:=z.2;omega)];rfl
 | blank r w d o res _ ih =>
  intro k m hk;have st:jep m 32 k=some (spc k):=if_pos rfl;rw[jpe st (fun z=>by cases z.1),jd2 [] d (by decide) (by decide)];refine ih _ _ ?_
  cases w with
  | beg=>rw[show k=.begin from hk];rfl
  | fac=>rw[show k=.want from hk];rfl
  | beh=>left;rcases hk with rfl|rfl|⟨rfl,_⟩|⟨rfl,_⟩<;>rfl
 | bad c r w d o hc hs =>
  intro k m hk;refine jB6 ?_;unfold jep;rw[if_neg hc]
  cases w with
  | beg =>
   left
   rw[show k=.begin from hk];have bj:(c == 45 || (c == 40 || (isL c || isG c)))=false:=hs;simp only[Bool.or_eq_false_iff] at bj;obtain⟨s1,s2,s3,s4⟩:=bj;show opn c true=none;unfold opn;rw[s1,s2,if_neg (by decide),if_neg (by rintro rfl;exact absurd s4 (by decide)),s4,if_neg (by decide),s3,if_neg (by decide)]
  | fac =>
   left
   rw[show k=.want from hk];have bj:(!(c == 45)&&(c == 40 || (isL c || isG c)))=false:=hs;show opn c false=none;unfold opn
   cases q:c == 45 with
   | true =>
    rw[beq_iff_eq] at q;subst q;rfl
   | false =>
    rw[q] at bj;simp only[Bool.not_false,Bool.true_and,Bool.or_eq_false_iff] at bj;obtain⟨s2,s3,s4⟩:=bj;rw[s2,if_neg (by decide),if_neg (by rintro rfl;exact absurd s4 (by decide)),s4,if_neg (by decide),s3,if_neg (by decide)]
  | beh =>
   have bj:(jbl (St [c]) || (c == 41&&decide (0<d)))=false:=hs;rw[Bool.or_eq_false_iff] at bj;have hb:beh c=none\/(c=41/\d=0):=by
    unfold beh;rw[bj.1,if_neg (by decide)]
    by_cases q:c=41
    ·right
     refine⟨q,?_⟩;have:=bj.2;rw[beq_iff_eq.mpr q,Bool.true_and,decide_eq_false_iff_not] at this;omega
    ·exact .inl (if_neg q)
   rcases hk with rfl|rfl|⟨rfl,hk⟩|⟨rfl,hk⟩
   ·exact hb
   ·exact hb
   ·dsimp only;rw[if_neg ?_]
    ·exact hb
    ·rw[Bool.and_eq_true,decide_eq_true_eq];rintro⟨z1,z2⟩;rcases hk with hk|hk
     ·omega
     ·rw[show isL c=false from hk] at z1;cases z1
   ·dsimp only;rw[if_neg (by rw[show isG c=false from hk];decide)];exact hb
 | tok c r w d o res hc hs _ ih =>
  intro k m hk;rw[jyy];have word:(isL c=true\/isG c=true)->(∀ m,jep m c k=if c=48 then some .nought else if isG c=true then some .figures else some .name)->k≠.name/\k≠.figures->lz (c::r) k m d o=rsO res:=fun hlg c9 hkn=>by
   have b8:c≠40:=by rcases hlg with h|h;exact (jku h).2.1;exact (jkt h).2.1
   have ci:c≠41:=by rcases hlg with h|h;exact (jku h).2.2.1;exact (jkt h).2.2.1
   rw[jw7 _ b8 hlg,jd2 _ d b8 ci] at ih
   by_cases q48:c=48
   ·have hp:pl c r=0:=by subst q48;rfl
    rw[hp] at ih;rw[jpe (k':=.nought) (by rw[c9,if_pos q48]) (fun z=>ci z.1),jd2 [] d b8 ci];exact ih _ _ (.inr (.inl rfl))
   ·cases hg:isG c with
    | true =>
     have hp:pl c r=runG r:=by
      unfold pl;rw[if_neg (by rw[jjb hg];decide),if_pos (by rw[hg,beq_eq_false_iff_ne.mpr q48];rfl)]
     rw[hp] at ih;rw[jpe (k':=.figures) (by rw[c9,if_neg q48,hg,if_pos rfl]) (fun z=>ci z.1),jd2 [] d b8 ci];obtain⟨m',e⟩:=jz0 (d:=d) r (if Kd.figures=k then m+1 else 1) (o+1);rw[e];exact ih _ _ (.inr (.inr (.inr ⟨rfl,jpy r⟩)))
    | false =>
     have hl:isL c=true:=by rcases hlg with h|h;exact h;rw[hg] at h;cases h
     have hp:pl c r=runL 9 r:=by unfold pl;rw[if_pos hl]
     rw[hp] at ih;rw[jpe (k':=.name) (by rw[c9,if_neg q48,hg,if_neg (by decide)]) (fun z=>ci z.1),jd2 [] d b8 ci,if_neg (fun z=>hkn.1 z.symm),jvc 9 r 1 (o+1) rfl];refine ih _ _ (.inr (.inr (.inl ⟨rfl,?_⟩)));rcases jpz 9 r with h|h
     ·left;omega
     ·exact .inr h
  have cu:∀ k',pl c r=0->jep m c k=some k'->¬ (c=41/\d=0)->(∀ m',KRel k' m' r (wb [c]))->lz (c::r) k m d o=rsO res:=fun k' hp c9 h0 hK=>by
   rw[hp] at ih;rw[jpe c9 h0];exact ih _ _ (hK _)
  have p40:c=40->pl c r=0:=by rintro rfl;rfl
  have p45:c=45->pl c r=0:=by rintro rfl;rfl
  cases w with
  | beg =>
   obtain rfl:k=.begin:=hk;have bj:(c == 45 || (c == 40 || (isL c || isG c)))=true:=hs
   by_cases q45:c=45
   ·subst q45;refine cu .want rfl rfl (fun z=>nomatch z.1) fun m'=>?_
    rw[show wb [45]=.fac from by unfold wb;rw[if_neg (by decide),<- jla,if_pos jnu]];rfl
   ·by_cases q40:c=40
    ·subst q40;exact cu .begin rfl rfl (fun z=>nomatch z.1) fun m'=>rfl
    ·rw[beq_eq_false_iff_ne.mpr q45,beq_eq_false_iff_ne.mpr q40,Bool.false_or,Bool.false_or,Bool.or_eq_true] at bj;refine word bj (fun m=>?_) ⟨(fun z=>nomatch z),(fun z=>nomatch z)⟩;unfold jep opn;rw[if_neg hc];dsimp only;rw[beq_eq_false_iff_ne.mpr q45,beq_eq_false_iff_ne.mpr q40,if_neg (by decide)]
     split
     ·rfl
     ·split
      ·rfl
      ·rename_i hg;rw[if_pos (by rcases bj with h|h;exact h;exact absurd h hg)]
  | fac =>
   obtain rfl:k=.want:=hk;have bj:(!(c == 45)&&(c == 40 || (isL c || isG c)))=true:=hs;rw[Bool.and_eq_true,Bool.not_eq_true'] at bj;obtain⟨n45,bj⟩:=bj
   by_cases q40:c=40
   ·subst q40;exact cu .begin rfl rfl (fun z=>nomatch z.1) fun m'=>rfl
   ·rw[beq_eq_false_iff_ne.mpr q40,Bool.false_or,Bool.or_eq_true] at bj;refine word bj (fun m=>?_) ⟨(fun z=>nomatch z),(fun z=>nomatch z)⟩;unfold jep opn;rw[if_neg hc];dsimp only;rw[n45,beq_eq_false_iff_ne.mpr q40,if_neg (by decide)]
    split
    ·rfl
    ·split
     ·rfl
     ·rename_i hg;rw[if_pos (by rcases bj with h|h;exact h;exact absurd h hg)]
  | beh =>
   have bj:(jbl (St [c]) || (c == 41&&decide (0<d)))=true:=hs;rw[Bool.or_eq_true,Bool.and_eq_true,beq_iff_eq,decide_eq_true_eq] at bj;have dh:isG c=false/\isL c=false:=by
    rcases bj with h|⟨rfl,_⟩
    ·rcases jdg h with rfl|rfl|rfl<;>exact⟨rfl,rfl⟩
    ·exact⟨rfl,rfl⟩
   have hp:pl c r=0:=by unfold pl;rw[dh.1,dh.2];rfl
   have c9:jep m c k=beh c:=by
    unfold jep;rw[if_neg hc];rcases hk with rfl|rfl|⟨rfl,_⟩|⟨rfl,_⟩
    ·rfl
    ·rfl
    ·dsimp only;rw[dh.2];rfl
    ·dsimp only;rw[dh.1];rfl
   rcases bj with h|⟨rfl,hd⟩
   ·have hb:beh c=some .want:=if_pos h;refine cu .want hp (c9.trans hb) (fun z=>by rcases jdg h with q|q|q<;>(rw[q] at z;cases z.1)) fun m'=>?_
    rw[show wb [c]=.fac from by unfold wb;rw[if_neg (by rcases jdg h with rfl|rfl|rfl<;>decide),if_pos h]];rfl
   ·refine cu .operand hp (c9.trans (by decide +kernel)) (fun z=>by have:=z.2;omega) fun m'=>?_
    rw[show wb [41]=.beh from by unfold wb;rw[if_neg (by decide),if_neg (by decide +kernel)]];exact .inl rfl
end
end MyLaw
namespace MyLaw
open L2 DL PySem.NumText
section
abbrev scr(ns:List Int):D:=.lst (ns.map .int)
def v_at(ns:List Int)(k:Int)(h0:0<=k)(hk:k<=1000):∃ i,jda [scr ns,.int k]=oK (.int i):=by
 unfold jda;rw[jgv];unfold jnq;obtain⟨k,rfl⟩:=Int.eq_ofNat_of_zero_le h0
 by_cases h:k<ns.length
 ·refine⟨ns[k],?_⟩;have h2:((k:Int)<(ns.length:Int)):=by omega
  simp[h2,DL.atI_get (xs:=ns.map D.int) (j:=k) (v:=.int ns[k]) (by simp[h]),M.p]
 ·refine⟨19*(k:Int)+8,?_⟩;have h2:¬ ((k:Int)<(ns.length:Int)):=by omega
  have e:jci (.int 19) (.int (k:Int))=oI (19*(k:Int)):=jdx (a:=10) (b:=10) (by unfold Bt;decide) (by unfold Bt;omega);simp[h2,e,M.p]
def atF(ns:List Int)(k:Int):Int:=getI (jda [scr ns,.int k])
def w_at{ns:List Int}{k:Int}(h0:0<=k)(hk:k<=1000):jda [scr ns,.int k]=oK (.int (atF ns k)):=let ⟨_,h⟩:=v_at ns k h0 hk;juw h
def jA9{k m:Nat}{n:Int}(h0:0<=n)(h1:n<(m:Int))(h2:m<=2 ^ k):Bt k n:=by
 obtain⟨j,rfl⟩:=Int.eq_ofNat_of_zero_le h0;exact zcx (Int.ofNat_lt.mp h1) h2
def jG5(n p:Int)(h0:0<=p)(hp:p<=1000):∃ r,jb6 [.int n,.int p]=oK (.int r)/\0<=r/\r<2147483648:=by
 unfold jb6;rw[jgv];unfold jk4;have h1:=zcw n (show (2147483629:Int)≠0 by decide);have h2:=zca n (show (0:Int)<2147483629 by decide);have bp:Bt 10 p:=jA9 (m:=1001) h0 (Int.lt_add_one_of_le hp) (by decide);have a1:jci (.int 8) (.int p)=oI (8*p):=jdx (a:=4) (by unfold Bt;decide) bp;have b1:Bt 14 (8*p):=Bt.mul (a:=4) (by unfold Bt;decide) bp;have a2:jci (.int (8*p)) (.int p)=oI (8*p*p):=jdx b1 bp;have b2:Bt 24 (8*p*p):=b1.mul bp;have b3:Bt 25 (8*p*p+48271):=b2.add (by unfold Bt;decide);have b4:Bt 33 (n % 2147483629+p+1):=((jA9 (k:=31) (m:=2147483629) h1 h2 (by decide)).add (bp.mono (by decide))).add (by unfold Bt;decide);have a3:jci (.int (n % 2147483629+p+1)) (.int (8*p*p+48271))=oI ((n % 2147483629+p+1)*(8*p*p+48271)):=jdx b4 b3;generalize hx:(n % 2147483629+p+1)*(8*p*p+48271) % 2147483647=x;have x1:0<=x:=by rw[<- hx];exact zcw _ (by decide)
 have x2:x<2147483647:=by rw[<- hx];exact zca _ (by decide)
 have bx:Bt 32 x:=jA9 (m:=2147483647) x1 x2 (by decide);have a4:jci (.int x) (.int x)=oI (x*x):=jdx bx bx;refine⟨x*x % 2147483587,?_,zcw _ (by decide),Int.lt_trans (zca (x*x) (show (0:Int)<2147483587 by decide)) (by decide)⟩;simp[jby (i:=n) (j:=2147483629) (by decide),a1,a2,a3,jby (i:=(n % 2147483629+p+1)*(8*p*p+48271)) (j:=2147483647) (by decide),hx,a4,jby (i:=x*x) (j:=2147483587) (by decide),List.replicate];rfl
def mixF(n p:Int):Int:=getI (jb6 [.int n,.int p])
def jrg{n p:Int}(h0:0<=p)(hp:p<=1000):jb6 [.int n,.int p]=oK (.int (mixF n p)):=let ⟨_,h,_⟩:=jG5 n p h0 hp;juw h
def jwd{n p:Int}(h0:0<=p)(hp:p<=1000):0<=mixF n p/\mixF n p<2147483648:=by
 obtain⟨r,h,q⟩:=jG5 n p h0 hp;unfold mixF;rw[h];exact q
end
section
def dg(m:Nat):List Nat:=(Nat.toDigits 10 m).map Char.toNat
def jEd(m:Nat):Str.ofString (toString ((m:Nat):Int))=St (dg m):=by
 have:=W.KIN.signs_num m;unfold St dg;rw[<- this]
def jwx(a b:List Nat):St a++St b=St (a++b):=by
 show (⟨_⟩:Str)=_;unfold St;simp
def ji0{a b:List Nat}(h:a.length+b.length<=100000):gCat (sT a) (sT b)=some (sT (a++b)):=by
 rw[jBd (by rw[je6,je6,sizeLine_eq];omega),jwx]
def jrj:Str.ofString "abcdefghijklmnopqrstuvwxyz"=St (List.range' 97 26):=by decide +kernel
def ju8{i:Int}(h0:0<=i)(h1:i<26):∃ c,isL c=true/\gIx (.str "abcdefghijklmnopqrstuvwxyz") (.int i)=some (sT [c]):=by
 obtain⟨j,rfl⟩:=Int.eq_ofNat_of_zero_le h0;have hj:j<26:=by omega
 refine⟨97+j,by unfold isL;simp;omega,?_⟩;rw[jrj];show (if (St (List.range' 97 26)).length<=sizeLine then (atI (St (List.range' 97 26)).cps.toList (j:Int)).map fun c=>D.str ⟨#[c]⟩ else none)=_;have e:(St (List.range' 97 26)).cps.toList=List.range' 97 26:=by unfold St;simp
 rw[if_pos (by rw[je6,sizeLine_eq,List.length_range'];omega),e,DL.atI_get (v:=97+j) (by rw[List.getElem?_range' hj];simp)];rfl
structure Nm(a:List Nat):Prop where
 ne:a≠[]
 al:∀ c∈a,isL c=true
 le:a.length<=10
def jvr(m:Int)(n:Nat)(h:0<(n:Int)):1<=(1+m % (n:Int)).toNat/\(1+m % (n:Int)).toNat<=n:=by
 have h1:=zcw m (Int.ne_of_gt h);have h2:=zca m h;omega
def jCh{m:Int}(h0:0<=m):∃ a,jfn [.int m]=oK (sT a)/\Nm a:=by
 let k:=(1+m % 10).toNat
 have hk:1<=k/\k<=10:=jvr m 10 (by decide);obtain⟨Y',e,a,z,hδ,h1,h2⟩:=jk3 (g:=jfy) (tg:=DL.gName 2) (jcr 0 k) (fun j Y=>∃ a z,Y=[oI m,some (sT a),z]/\a.length=j/\∀ c∈a,isL c=true) (fun j hj Y ⟨a,z,hδ,h1,h2⟩=>by
  subst hδ;have dq:j<k:=by simpa using hj
  have pj:0<=0+((j:Nat):Int)/\0+((j:Nat):Int)<=1000:=by omega
  have w:=jrg (n:=m) (p:=0+(j:Nat)) pj.1 pj.2;generalize mixF m (0+(j:Nat))=mx at w
  let d:=m / 10 % 2
  have hd:d=0\/d=1:=by show m / 10 % 2=0\/m / 10 % 2=1;omega
  let md:Int:=if d=0 then 26 else 2
  have g1:gIx (.lst [.int 26,.int 2]) (.int (m / 10 % 2))=oI md:=by
   rcases hd with hd|hd
   ·show gIx _ (.int d)=oI (if d=0 then 26 else 2);rw[hd];rfl
   ·show gIx _ (.int d)=oI (if d=0 then 26 else 2);rw[hd];rfl
  have hm:0<md/\md<=26:=by show 0<(if d=0 then (26:Int) else 2)/\(if d=0 then (26:Int) else 2)<=26;split<;>decide
  have r1:=zcw mx (Int.ne_of_gt hm.1);have r2:=zca mx hm.1;obtain⟨c,hc,g2⟩:=ju8 (i:=mx % md) r1 (Int.lt_of_lt_of_le r2 hm.2);refine⟨_,rfl,[oI m,some (sT (a++[c])),oI (0+(j:Nat))],.inl ?_,a++[c],_,rfl,by simp[h1],fun b hb=>?_⟩
  ·rw[jj0];unfold jfy;have f1:=jdj (i:=m) (j:=10) (by decide) (by decide);have ft:=jby (i:=m / 10) (j:=2) (by decide);have f3:=jby (i:=mx) (j:=md) hm.1;have f4:=ji0 (a:=a) (b:=[c]) (by show a.length+1<=100000;rw[h1];exact zdx dq (zdx hk.2 (by decide)));simp only[stpA,f1,ft,w,g1,f3,g2,f4];rfl
  ·rcases List.mem_append.mp hb with hb|hb
   ·exact h2 b hb
   ·rw[zcc.mp hb];exact hc) [oI m,some (sT []),none] ⟨[],none,rfl,rfl,fun c hc=>(nomatch hc)⟩
 subst hδ;rw[jj1] at h1;refine⟨a,?_,fun z=>by subst z;exact absurd h1.symm (Nat.ne_of_gt hk.1),h2,by rw[h1];exact hk.2⟩;unfold jfn;rw[ji3];show (jhp [oI m,none,none]).b outD=_;unfold jhp;have e1:gSet 1 (cS "") [oI m,none,none]=nX [oI m,some (sT []),none]:=rfl;have e2:gFor (jha jce (jac (f2 gCat (cI 1) (f2 gMod (vR 0) (cI 10))) fNil)) (DL.gName 2) jfy [oI m,some (sT []),none]=nX [oI m,some (sT a),z]:=by
  have f1:=jby (i:=m) (j:=10) (by decide);simp only[stpA,f1,range1];exact e
 rw[ja8 e1,ja8 e2];rfl
theorem jqm(a:List Nat):∀ aa:LL,inD (sT a) (nmD aa)=decide (a∈aa)
 | []=>by simp[nmD,inD]
 | b::aa=>by
  have:inD (sT a) (nmD (b::aa))=((St b == St a) || inD (sT a) (nmD aa)):=rfl;rw[this,jqm a aa,jfw]
  by_cases q:b=a
  ·subst q;simp
  ·rw[beq_eq_false_iff_ne.mpr q];simp[show ¬ a=b from fun z=>q z.symm]
def jya{m:Int}(h0:0<=m):∃ aa:LL,jgf [.int m,.int 4]=oK (.lst (nmD aa))/\(∀ a∈aa,Nm a)/\aa.Nodup/\1<=aa.length/\aa.length<=4:=by
 let k:=(1+m % 4).toNat
 have hk:1<=k/\k<=4:=jvr m 4 (by decide);obtain⟨Y',e,aa,y,z,hδ,h1,h2,h3,h4⟩:=jk3 (g:=jd6) (tg:=DL.gName 3) (jcr 0 k) (fun j Y=>∃ (aa:LL) (y z:Option D),Y=[oI m,oI 4,oN aa,y,z]/\(∀ a∈aa,Nm a)/\aa.Nodup/\aa.length<=j/\(1<=j->1<=aa.length)) (fun j hj Y ⟨aa,y,z,hδ,h1,h2,h3,h4⟩=>by
  subst hδ;have dq:j<k:=by simpa using hj
  have pj:0<=20+(0+((j:Nat):Int))/\20+(0+((j:Nat):Int))<=1000:=by omega
  have w:=jrg (n:=m) (p:=20+(0+(j:Nat))) pj.1 pj.2;have r:=jwd (n:=m) (p:=20+(0+(j:Nat))) pj.1 pj.2;generalize mixF m (20+(0+(j:Nat)))=mx at w r;obtain⟨a,ea,na⟩:=jCh r.1;have e1:gSet 4 (jau jfn (jac (jau jb6 (jac (vR 0) (jac (f2 gCat (cI 20) (vR 3)) fNil))) fNil)) [oI m,oI 4,oN aa,oI (0+(j:Nat)),z]=nX [oI m,oI 4,oN aa,oI (0+(j:Nat)),some (sT a)]:=by
   simp only[stpA,w,ea];rfl
  have c0:=jqm a aa;have g:ji6 (sT a) (.lst (nmD aa))=some (.bl !decide (a∈aa)):=by
   show (if (true&&(nmD aa).all jkc)=true then some (D.bl !(inD _ (nmD aa))) else none)=_;rw[jmm,if_pos (by decide),c0]
  refine⟨[oI m,oI 4,oN aa,oI (0+(j:Nat)),z],by rw[jj0];rfl,?_⟩
  by_cases q:a∈aa
  ·refine⟨[oI m,oI 4,oN aa,oI (0+(j:Nat)),some (sT a)],.inl ?_,aa,_,_,rfl,h1,h2,Nat.le_succ_of_le h3,fun _=>?_⟩
   ·unfold jd6;rw[ja8 e1];simp only[stpA,g,decide_eq_true q,Bool.not_true];rfl
   ·cases aa with
    | nil=>cases q
    | cons _ _=>simp
  ·refine⟨[oI m,oI 4,oN (aa++[a]),oI (0+(j:Nat)),some (sT a)],.inl ?_,aa++[a],_,_,rfl,fun b hb=>?_,?_,by rw[zcb];exact Nat.succ_le_succ h3,fun _=>by simp⟩
   ·unfold jd6;rw[ja8 e1];have t:DL.t2 ji6 (vR 4) (vR 2) [oI m,oI 4,oN aa,oI (0+(j:Nat)),some (sT a)]=oK true:=by
     simp only[stpA,g,decide_eq_false q,Bool.not_false];rfl
    rw[jel t,if_pos rfl];have:=jA0 (i:=2) (fa:=vR 4) (Y:=[oI m,oI 4,oN aa,oI (0+(j:Nat)),some (sT a)]) (ds:=nmD aa) (d:=sT a) rfl rfl (by unfold nmD;rw[zav,sizeLine_eq];exact Nat.lt_of_le_of_lt h3 (Nat.lt_trans dq (Nat.lt_of_le_of_lt hk.2 (by decide))));rw[this,show nmD aa++[sT a]=_ from jz4 aa [a]];rfl
   ·rcases List.mem_append.mp hb with hb|hb
    ·exact h1 b hb
    ·rw[zcc.mp hb];exact na
   ·rw[List.nodup_append];exact⟨h2,by simp,fun x hx y hy=>by rw[zcc.mp hy];exact fun z=>q (z ▸ hx)⟩) [oI m,oI 4,oN [],none,none] ⟨[],none,none,rfl,fun a ha=>(nomatch ha),by simp,by simp,fun z=>absurd z (by decide)⟩
 subst hδ;rw[jj1] at h3 h4;refine⟨aa,?_,h1,h2,h4 hk.1,zdx h3 hk.2⟩;unfold jgf;rw[jgv];show (jf7 [oI m,oI 4,none,none,none]).b outD=_;unfold jf7;have e1:gSet 2 (fL ja2 fNil) [oI m,oI 4,none,none,none]=nX [oI m,oI 4,oN [],none,none]:=rfl;have e2:gFor (jha jce (jac (f2 gCat (cI 1) (f2 gMod (vR 0) (vR 1))) fNil)) (DL.gName 3) jd6 [oI m,oI 4,oN [],none,none]=nX [oI m,oI 4,oN aa,y,z]:=by
  have f1:=jby (i:=m) (j:=4) (by decide);simp only[stpA,f1,range1];exact e
 rw[ja8 e1,ja8 e2];rfl
end
section
def jr3{L:List Nat}(c0:∀ c∈L,(Builtin.Str.occurrences (St L) (S1 c) 0 L.length 1).isEmpty=false)(hat:∀ i∈List.range L.length,(St L).cps.extract i (i+1)=#[L.getD i 0])(c:Nat):gInS (.str (S1 c)) (sT L)=some (.bl (decide (c∈L))):=by
 show some (D.bl (!(Builtin.Str.occurrences (St L) (S1 c) 0 (St L).length 1).isEmpty))=_;rw[je6]
 by_cases h:c∈L
 ·rw[c0 c h,decide_eq_true h];rfl
 ·rw[jyf fun i hi=>by
   have j9:i+1<=L.length:=hi;unfold Builtin.Str.subAt;show ((St L).cps.extract i (i+1) == #[c])=false;rw[hat i (List.mem_range.mpr (by omega)),beq_eq_false_iff_ne];intro z;have e:L.getD i 0=c:=by simpa using z
   have e2:L.getD i 0=L[i]'(by omega):=by simp[List.getD,zax (show i<L.length by omega)]
   exact h (by rw[<- e,e2];exact List.getElem_mem _),decide_eq_false h]
  rfl
def jzv(c:Nat):gInS (.str (S1 c)) (.str "abcdefghijklmnopqrstuvwxyz")=some (.bl (isL c)):=by
 rw[jrj,jr3 (by decide +kernel) (by decide +kernel)];congr 2;unfold isL;rw[Bool.eq_iff_iff,Bool.and_eq_true,decide_eq_true_eq,decide_eq_true_eq,decide_eq_true_eq,List.mem_range'_1];omega
def jEe:(Str.ofString "0123456789")=St (List.range' 48 10):=by decide +kernel
def jEv(c:Nat):gInS (.str (S1 c)) (.str "0123456789")=some (.bl (isG c)):=by
 rw[jEe,jr3 (by decide +kernel) (by decide +kernel)];congr 2;unfold isG;rw[Bool.eq_iff_iff,Bool.and_eq_true,decide_eq_true_eq,decide_eq_true_eq,decide_eq_true_eq,List.mem_range'_1];omega
def jBg:(Str.ofString "123456789")=St (List.range' 49 9):=by decide +kernel
def jBz(c:Nat):gInS (.str (S1 c)) (.str "123456789")=some (.bl (isG c&&!(c == 48))):=by
 rw[jBg,jr3 (by decide +kernel) (by decide +kernel)];congr 2;unfold isG;rw[Bool.eq_iff_iff,Bool.and_eq_true,Bool.and_eq_true,decide_eq_true_eq,decide_eq_true_eq,decide_eq_true_eq,List.mem_range'_1,Bool.not_eq_true',beq_eq_false_iff_ne];omega
def jF8:(Str.ofString "+-*")=St [43,45,42]:=by decide +kernel
def jEw(c:Nat):gInS (.str (S1 c)) (.str "+-*")=some (.bl (jbl (St [c]))):=by
 rw[jF8,jr3 (by decide +kernel) (by decide +kernel),jlx];congr 2;rw[Bool.eq_iff_iff,decide_eq_true_eq];simp only[List.mem_cons,List.not_mem_nil,Bool.or_eq_true,beq_iff_eq,List.cons.injEq,and_true,Bool.false_eq_true,or_false];omega
def eqS(c z:Nat):(S1 c == St [z])=(c == z):=by
 rw[<- jAq,jfw]
 by_cases h:c=z
 ·rw[h,beq_self_eq_true,beq_self_eq_true]
 ·rw[beq_eq_false_iff_ne.mpr h,beq_eq_false_iff_ne.mpr (fun y=>h (List.cons.inj y).1)]
def lt_0:(Str.ofString "0")=St [48]:=by decide +kernel
def fdS:Option Kd->Str
 | none=>""
 | some k=>kS k
def sv(k:Kd)(m c:Nat):DSt:=[some (.tup [.str (kS k),.int (m:Nat)]),oS (S1 c),oS (kS k),oI (m:Nat)]
section
variable {k:Kd}{m c:Nat}
def m20:jci (.int 2) (.int 0)=oI 0:=jdx (a:=3) (b:=3) (by unfold Bt;decide) (by unfold Bt;decide)
def m21:jci (.int 2) (.int 1)=oI 2:=jdx (a:=3) (b:=3) (by unfold Bt;decide) (by unfold Bt;decide)
def jF7{a b:Str}{f g:DSt->M D}{p q:Bool}{Y:DSt}(hf:f Y=some (.ok (.bl p)))(hg:g Y=some (.ok (.bl q)))(hpq:¬ (p=true/\q=true)):f2 gIx (fL ja2 (jac (cS "") (jac (cS a) (jac (cS b) fNil)))) (f2 gCat (fL kIntT (jac f fNil)) (f2 jci (cI 2) (fL kIntT (jac g fNil)))) Y=oK (.str (if p=true then a else if q=true then b else "")):=by
 have l3:ja2 [D.str "",D.str a,D.str b]=some (.lst [.str "",.str a,.str b]):=rfl;have ja:f Y=M.p (.bl p):=hf;have i9:g Y=M.p (.bl q):=hg
 cases p with
 | true =>
  have hq:q=false:=by cases q with|true=>exact absurd ⟨rfl,rfl⟩ hpq|false=>rfl
  subst hq;simp only[stpA,ja,i9,l3];show M.b (M.o (jci (.int 2) (.int 0))) _=_;rw[m20];rfl
 | false =>
  cases q with
  | true =>
   simp only[stpA,ja,i9,l3];show M.b (M.o (jci (.int 2) (.int 1))) _=_;rw[m21];rfl
  | false =>
   simp only[stpA,ja,i9,l3];show M.b (M.o (jci (.int 2) (.int 0))) _=_;rw[m20];rfl
def jA4:gRet (f2 gIx (fL ja2 (jac (cS "") (jac (cS "want") (jac (cS "operand") fNil)))) (f2 gCat (fL kIntT (jac (f2 gInS (vR 1) (cS "+-*")) fNil)) (f2 jci (cI 2) (fL kIntT (jac (f2 gEq (vR 1) (fC (.str ")"))) fNil))))) (sv k m c)=oK (.rt (.str (fdS (beh c)))):=by
 refine jiu ?_;rw[jF7 (p:=jbl (St [c])) (q:=c == 41) (by unfold sv;simp only[stpA,jEw];rfl) (by unfold sv;simp only[stpA,jbg,jnv,eqS];rfl) (by
  rintro⟨h1,h2⟩;rw[beq_iff_eq] at h2;subst h2;exact absurd h1 (by decide +kernel))]
 unfold beh;congr 3
 cases jbl (St [c]) with
 | true=>rfl
 | false =>
  by_cases q:c=41
  ·rw[if_pos q,beq_iff_eq.mpr q];rfl
  ·rw[if_neg q,beq_eq_false_iff_ne.mpr q];rfl
def kE(a b:Kd):(kS a == kS b)=decide (a=b):=by cases a<;>cases b<;>decide +kernel
def jvx{bg:Bool}(hk:k=if bg=true then .begin else .want):gSeq (gIf (DL.tOr (DL.tAnd (t2 gEq (vR 1) (cS "-")) (t2 gEq (vR 2) (cS "begin"))) (t2 gEq (vR 1) (fC (.str "(")))) (gRet (f2 gIx (fL ja2 (jac (cS "want") (jac (cS "begin") fNil))) (fL kIntT (jac (f2 gEq (vR 1) (fC (.str "("))) fNil)))) gNx)
  (gSeq (gIf (t2 gEq (vR 1) (cS "0")) (gRet (cS "nought")) gNx)
  (gRet (f2 gIx (fL ja2 (jac (cS "") (jac (cS "figures") (jac (cS "name") fNil)))) (f2 gCat (fL kIntT (jac (f2 gInS (vR 1) (cS "123456789")) fNil)) (f2 jci (cI 2) (fL kIntT (jac (f2 gInS (vR 1) (cS "abcdefghijklmnopqrstuvwxyz")) fNil))))))) (sv k m c)=oK (.rt (.str (fdS (opn c bg)))):=by
 have e1:t2 gEq (vR 1) (cS "-") (sv k m c)=oK (c == 45):=by unfold sv;simp only[stpA,jbg,jla,eqS];rfl
 have e2:t2 gEq (vR 2) (cS "begin") (sv k m c)=oK bg:=by
  have:(kS k == kS .begin)=bg:=by rw[kE,hk];cases bg<;>rfl
  unfold sv;simp only[stpA,jbg];show some (Except.ok (kS k == kS .begin))=_;rw[this]
 have e3:t2 gEq (vR 1) (fC (.str "(")) (sv k m c)=oK (c == 40):=by unfold sv;simp only[stpA,jbg,jlb,eqS];rfl
 have t:DL.tOr (DL.tAnd (t2 gEq (vR 1) (cS "-")) (t2 gEq (vR 2) (cS "begin"))) (t2 gEq (vR 1) (fC (.str "("))) (sv k m c)=oK ((c == 45&&bg) || c == 40):=by
  unfold DL.tOr DL.tAnd;rw[e1]
  cases c == 45 with
  | true =>
   rw[M.b_ok,if_pos rfl,e2]
   cases bg with
   | true=>rfl
   | false=>exact e3
  | false=>exact e3
 unfold opn
 cases q:(c == 45&&bg) || c == 40 with
 | true =>
  rw[q] at t;rw[w_rt (by rw[jel t,if_pos rfl];exact jiu (d:=.str (fdS (some (if c=40 then .begin else .want)))) (by
   have l2:ja2 [D.str "want",D.str "begin"]=some (.lst [.str "want",.str "begin"]):=rfl
   by_cases z:c=40
   ·rw[if_pos z];unfold sv;simp only[stpA,jbg,jlb,eqS,beq_iff_eq.mpr z,l2];rfl
   ·rw[if_neg z];unfold sv;simp only[stpA,jbg,jlb,eqS,beq_eq_false_iff_ne.mpr z,l2];rfl))]
  rfl
 | false =>
  rw[q] at t;rw[jdu t,if_neg (by decide)];have t0:t2 gEq (vR 1) (cS "0") (sv k m c)=oK (c == 48):=by unfold sv;simp only[stpA,jbg,lt_0,eqS];rfl
  by_cases z:c=48
  ·rw[beq_iff_eq.mpr z] at t0;rw[w_rt (by rw[jel t0,if_pos rfl];exact jiu rfl),if_pos z];rfl
  ·rw[beq_eq_false_iff_ne.mpr z] at t0;rw[jdu t0,if_neg z];refine jiu ?_;rw[jF7 (p:=isG c&&!(c == 48)) (q:=isL c) (by unfold sv;simp only[stpA,jBz];rfl) (by unfold sv;simp only[stpA,jzv];rfl) (by
    rintro⟨h1,h2⟩;rw[Bool.and_eq_true] at h1;rw[jjb h1.1] at h2;cases h2)]
   rw[beq_eq_false_iff_ne.mpr z,Bool.not_false,Bool.and_true];congr 3
   cases isG c with
   | true=>rfl
   | false=>cases isL c<;>rfl
def jDi:jfo [.tup [.str (kS k),.int (m:Nat)],.str (S1 c)]=oK (.str (fdS (jep m c k))):=by
 unfold jfo;rw[jgv];show (jeq [some (.tup [.str (kS k),.int (m:Nat)]),oS (S1 c),none,none]).b outD=_;have go:∀ r,jeq [some (.tup [.str (kS k),.int (m:Nat)]),oS (S1 c),none,none]=oK (.rt (.str r))->(jeq [some (.tup [.str (kS k),.int (m:Nat)]),oS (S1 c),none,none]).b outD=oK (.str r):=fun r h=>by rw[h];rfl
 refine go _ ?_;unfold jeq;rw[ja8 (Y':=sv k m c) rfl];have d9:t2 gEq (vR 1) (fC (.str " ")) (sv k m c)=oK (c == 32):=by unfold sv;simp only[stpA,jbg,jFc,eqS];rfl
 unfold jep
 by_cases q:c=32
 ·rw[beq_iff_eq.mpr q] at d9;rw[if_pos q,w_rt (by rw[jel d9,if_pos rfl];exact jiu (d:=.str (kS (spc k))) (by cases k<;>rfl))];rfl
 ·rw[beq_eq_false_iff_ne.mpr q] at d9;rw[if_neg q,jdu d9];have dk:t2 gIn (vR 2) (fL jbq (jac (cS "begin") (jac (cS "want") fNil))) (sv k m c)=oK (decide (k=.begin\/k=.want)):=by cases k<;>rfl
  have fin:k≠.begin->k≠.want->∀ pG pL:Bool,t2 gEq (vR 2) (cS "figures") (sv k m c)=oK pG->t2 gEq (vR 2) (cS "name") (sv k m c)=oK pL->gSeq (gIf (DL.tAnd (t2 gEq (vR 2) (cS "figures")) (t2 gInS (vR 1) (cS "0123456789"))) (gRet (cS "figures")) gNx) (gSeq (gIf (DL.tAnd (t2 gEq (vR 2) (cS "name")) (DL.tAnd (t2 gInS (vR 1) (cS "abcdefghijklmnopqrstuvwxyz")) (t2 gLt (vR 3) (cI 10)))) (gRet (cS "name")) gNx) (gRet (f2 gIx (fL ja2 (jac (cS "") (jac (cS "want") (jac (cS "operand") fNil)))) (f2 gCat (fL kIntT (jac (f2 gInS (vR 1) (cS "+-*")) fNil)) (f2 jci (cI 2) (fL kIntT (jac (f2 gEq (vR 1) (fC (.str ")"))) fNil))))))) (sv k m c)=oK (.rt (.str (fdS (if (pG&&isG c)=true then some .figures else if (pL&&(isL c&&decide (m<10)))=true then some .name else beh c)))):=fun _ _ pG pL hG hL=>by
   have g1:t2 gInS (vR 1) (cS "0123456789") (sv k m c)=oK (isG c):=by unfold sv;simp only[stpA,jEv];rfl
   have g2:t2 gInS (vR 1) (cS "abcdefghijklmnopqrstuvwxyz") (sv k m c)=oK (isL c):=by unfold sv;simp only[stpA,jzv];rfl
   have g3:t2 gLt (vR 3) (cI 10) (sv k m c)=oK (decide (m<10)):=by
    unfold sv;simp only[stpA,lt_int]
    rw[show decide ((m:Int)<10)=decide (m<10) from by rw[decide_eq_decide];omega];rfl
   have tG:DL.tAnd (t2 gEq (vR 2) (cS "figures")) (t2 gInS (vR 1) (cS "0123456789")) (sv k m c)=oK (pG&&isG c):=by
    unfold DL.tAnd;rw[hG,M.b_ok]
    cases pG with
    | true=>exact g1
    | false=>rfl
   have tL:DL.tAnd (t2 gEq (vR 2) (cS "name")) (DL.tAnd (t2 gInS (vR 1) (cS "abcdefghijklmnopqrstuvwxyz")) (t2 gLt (vR 3) (cI 10))) (sv k m c)=oK (pL&&(isL c&&decide (m<10))):=by
    unfold DL.tAnd;rw[hL,M.b_ok]
    cases pL with
    | false=>rfl
    | true =>
     rw[if_pos rfl,g2,M.b_ok]
     cases isL c with
     | true=>exact g3
     | false=>rfl
   cases q1:pG&&isG c with
   | true =>
    rw[q1] at tG;rw[w_rt (by rw[jel tG,if_pos rfl];exact jiu rfl)];rfl
   | false =>
    rw[q1] at tG;rw[jdu tG,if_neg (by decide)]
    cases q2:pL&&(isL c&&decide (m<10)) with
    | true =>
     rw[q2] at tL;rw[w_rt (by rw[jel tL,if_pos rfl];exact jiu rfl)];rfl
    | false =>
     rw[q2] at tL;rw[jdu tL,if_neg (by decide)];exact jA4
  cases k with
  | begin=>rw[w_rt (by rw[jel dk];exact jvx (bg:=true) rfl)]
  | want=>rw[w_rt (by rw[jel dk];exact jvx (bg:=false) rfl)]
  | name=>rw[jdu dk,fin (fun z=>nomatch z) (fun z=>nomatch z) false true rfl rfl];rfl
  | figures =>
   rw[jdu dk,fin (fun z=>nomatch z) (fun z=>nomatch z) true false rfl rfl];rfl
  | nought=>rw[jdu dk,fin (fun z=>nomatch z) (fun z=>nomatch z) false false rfl rfl];rfl
  | operand=>rw[jdu dk,fin (fun z=>nomatch z) (fun z=>nomatch z) false false rfl rfl];rfl
end
end
section
def sd(x:Str)(k:Kd)(m d:Nat)(i f:Option D):DSt:=[oS x,oS (kS k),oI (m:Nat),oI (d:Nat),i,f]
def lzD:Option Nat->D
 | none=>.non
 | some e=>.int (e:Nat)
section
variable {x:Str}{k:Kd}{m d:Nat}{i f:Option D}{pre r:List Nat}{c:Nat}
def jH6(k:Kd):(kS k == Str.ofString "")=false:=by cases k<;>decide +kernel
def jwz(h:At x pre (c::r)):jfz (sd x k m d (oI (pre.length:Nat)) f)=(match jep m c k with
  | none=>oK (.rt (.int (pre.length:Nat)))
  | some k'=>if c=41/\d=0 then oK (.rt (.int (pre.length:Nat))) else nX (sd x k' (if k'=k then m+1 else 1) (dN [c] d) (oI (pre.length:Nat)) (oS (kS k')))):=by
 have so:=jDi (k:=k) (m:=m) (c:=c)
 let Y (z:Str):DSt:=sd x k m d (oI (pre.length:Nat)) (oS z)
 have s1:gSet 5 (jau jfo (jac (fL jbq (jac (vR 1) (jac (vR 2) fNil))) (jac (f2 gIx (vR 0) (vR 4)) fNil))) (sd x k m d (oI (pre.length:Nat)) f)=nX (Y (fdS (jep m c k))):=by
  have b9:jbq [D.str (kS k),D.int (m:Nat)]=some (.tup [.str (kS k),.int (m:Nat)]):=rfl;unfold sd;simp only[stpA,b9,h.ix,so];rfl
 have ic:∀ z:Str,f2 gIx (vR 0) (vR 4) (Y z)=M.p (.str (S1 c)):=fun z=>by
  simp only[Y,sd,stpA,h.ix]
 have e1:∀ z:Str,t2 gEq (vR 5) (cS "") (Y z)=oK (z == Str.ofString ""):=fun z=>by simp only[Y,sd,stpA,jbg];rfl
 have e2:∀ z:Str,t2 gEq (f2 gIx (vR 0) (vR 4)) (fC (.str ")")) (Y z)=oK (c == 41):=fun z=>by rw[e_t2,ic];simp only[stpA,jbg,jnv,eqS];rfl
 have e3:∀ z:Str,t2 gEq (vR 3) (cI 0) (Y z)=oK (decide (d=0)):=fun z=>by
  simp only[Y,sd,stpA,jur];rw[show ((d:Int) == 0)=decide (d=0) from by
   by_cases q:d=0
   ·rw[q];rfl
   ·rw[decide_eq_false q,beq_eq_false_iff_ne];omega]
  rfl
 have t:∀ z:Str,DL.tOr (t2 gEq (vR 5) (cS "")) (DL.tAnd (t2 gEq (f2 gIx (vR 0) (vR 4)) (fC (.str ")"))) (t2 gEq (vR 3) (cI 0))) (Y z)=oK ((z == Str.ofString "") || (c == 41&&decide (d=0))):=fun z=>by
  unfold DL.tOr DL.tAnd;rw[e1,M.b_ok]
  cases z == Str.ofString "" with
  | true=>rfl
  | false =>
   rw[if_neg (by decide),e2,M.b_ok]
   cases c == 41 with
   | true=>exact e3 z
   | false=>rfl
 unfold jfz;rw[ja8 s1]
 cases hs:jep m c k with
 | none =>
  have:=t (fdS none);rw[show (fdS none == Str.ofString "")=true from by decide +kernel,Bool.true_or] at this;rw[w_rt (by rw[jel this,if_pos rfl];exact jiu rfl)]
 | some k' =>
  have tt:=t (fdS (some k'));rw[show (fdS (some k') == Str.ofString "")=false from jH6 k',Bool.false_or] at tt
  by_cases q:c=41/\d=0
  ·rw[beq_iff_eq.mpr q.1,decide_eq_true q.2] at tt;rw[w_rt (by rw[jel tt,if_pos (by decide)];exact jiu rfl)];exact (if_pos q).symm
  ·have:(c == 41&&decide (d=0))=false:=by
    rw[Bool.and_eq_false_iff,beq_eq_false_iff_ne,decide_eq_false_iff_not]
    by_cases z:c=41
    ·exact .inr fun w=>q ⟨z,w⟩
    ·exact .inl z
   rw[this] at tt;rw[jdu tt];refine Eq.trans ?_ (if_neg q).symm;have a1:f2 gEq (f2 gIx (vR 0) (vR 4)) (fC (.str "(")) (Y (kS k'))=M.p (.bl (c == 40)):=by rw[e_2,ic];simp only[stpA,jbg,jlb,eqS]
   have a2:f2 gEq (f2 gIx (vR 0) (vR 4)) (fC (.str ")")) (Y (kS k'))=M.p (.bl (c == 41)):=by rw[e_2,ic];simp only[stpA,jbg,jnv,eqS]
   have v3:vR 3 (Y (kS k'))=M.p (.int (d:Nat)):=rfl;have dd:(d:Int)+(if (c == 40)=true then 1 else 0)-(if (c == 41)=true then 1 else 0)=((dN [c] d:Nat):Int):=by
    unfold dN
    by_cases z:c=40
    ·subst z;rw[if_pos (by decide),if_neg (by decide),if_pos rfl];omega
    ·rw[if_neg (by rw[beq_eq_false_iff_ne.mpr z];decide),if_neg (fun w=>z (List.cons.inj w).1)]
     by_cases z1:c=41
     ·subst z1;have:d≠0:=fun w=>q ⟨rfl,w⟩
      rw[if_pos (by decide),if_pos rfl];omega
     ·rw[if_neg (by rw[beq_eq_false_iff_ne.mpr z1];decide),if_neg (fun w=>z1 (List.cons.inj w).1)];omega
   have kb:∀ b:Bool,kIntT [.bl b]=oI (if b=true then 1 else 0):=fun b=>by cases b<;>rfl
   rw[ja8 (Y':=sd x k m (dN [c] d) (oI (pre.length:Nat)) (oS (kS k'))) (by
    rw[jDt 3 (d:=.int ((dN [c] d:Nat):Int)) (by
     have k1:fL kIntT (jac (f2 gEq (f2 gIx (vR 0) (vR 4)) (fC (.str "("))) fNil) (Y (kS k'))=M.p (.int (if (c == 40)=true then 1 else 0)):=by rw[e_L,jrx,a1,M.b_p,jxi,M.b_p,M.b_p,kb];rfl
     have k2:fL kIntT (jac (f2 gEq (f2 gIx (vR 0) (vR 4)) (fC (.str ")"))) fNil) (Y (kS k'))=M.p (.int (if (c == 41)=true then 1 else 0)):=by rw[e_L,jrx,a2,M.b_p,jxi,M.b_p,M.b_p,kb];rfl
     show f2 gSub (f2 gCat (vR 3) (fL kIntT (jac (f2 gEq (f2 gIx (vR 0) (vR 4)) (fC (.str "("))) fNil))) (fL kIntT (jac (f2 gEq (f2 gIx (vR 0) (vR 4)) (fC (.str ")"))) fNil)) (Y (kS k'))=_;rw[e_2,e_2,v3,M.b_p,k1,M.b_p,show gCat (.int (d:Nat)) (.int (if (c == 40)=true then 1 else 0))=oI ((d:Int)+(if (c == 40)=true then 1 else 0)) from rfl,M.o_some,M.b_p,k2,M.b_p,sub_int,dd];rfl)]
    rfl)]
   have mm:f2 gIx (fL ja2 (jac (cI 1) (jac (f2 gCat (vR 2) (cI 1)) fNil))) (fL kIntT (jac (f2 gEq (vR 5) (vR 1)) fNil)) (sd x k m (dN [c] d) (oI (pre.length:Nat)) (oS (kS k')))=oK (.int ((if k'=k then m+1 else 1:Nat):Int)):=by
    have l2:∀ u v:D,ja2 [u,v]=some (.lst [u,v]):=fun u v=>rfl
    unfold sd;simp only[stpA,jbg,kE,l2]
    by_cases z:k'=k
    ·rw[decide_eq_true z,if_pos z];rfl
    ·rw[decide_eq_false z,if_neg z];rfl
   rw[ja8 (jDt 2 mm)];rfl
abbrev jza:DSt->M Out:=gSeq (gIf (DL.tOr (t2 gGt (vR 3) (cI 0)) (t2 gIn (vR 1) (fL jbq (jac (cS "begin") (jac (cS "want") fNil))))) (gRet (fL kLen (jac (vR 0) fNil))) gNx) (gRet (fC .non))
def jzb(hx:x.length<=40000):jza (sd x k m d i f)=oK (.rt (lzD (if (0<d\/k=.begin\/k=.want) then some x.length else none))):=by
 have e1:t2 gGt (vR 3) (cI 0) (sd x k m d i f)=oK (decide (0<d)):=by
  unfold sd;simp only[stpA,gt_int];rw[show decide ((d:Int) > 0)=decide (0<d) from by rw[decide_eq_decide];omega];rfl
 have e2:t2 gIn (vR 1) (fL jbq (jac (cS "begin") (jac (cS "want") fNil))) (sd x k m d i f)=oK (decide (k=.begin\/k=.want)):=by cases k<;>rfl
 have t:DL.tOr (t2 gGt (vR 3) (cI 0)) (t2 gIn (vR 1) (fL jbq (jac (cS "begin") (jac (cS "want") fNil)))) (sd x k m d i f)=oK (decide (0<d\/k=.begin\/k=.want)):=by
  unfold DL.tOr;rw[e1,M.b_ok]
  by_cases q:0<d
  ·rw[decide_eq_true q,if_pos rfl,decide_eq_true (.inl q)];rfl
  ·rw[decide_eq_false q,if_neg (by decide),e2,show decide (k=.begin\/k=.want)=decide (0<d\/k=.begin\/k=.want) from by rw[decide_eq_decide];exact⟨fun z=>.inr z,fun z=>z.resolve_left q⟩]
 by_cases q:0<d\/k=.begin\/k=.want
 ·rw[decide_eq_true q] at t;rw[if_pos q];have ln:=len_str (x:=x) (by omega);exact jsw t (by unfold sd;simp only[stpA,ln];rfl)
 ·rw[decide_eq_false q] at t;rw[if_neg q];unfold jza;rw[jdu t];rfl
theorem jp8(hx:x.length<=40000):∀ (rest pre:List Nat) (k:Kd) (m d:Nat) (i f:Option D),At x pre rest->M.b (forD jfz (DL.gName 4) ((List.range' pre.length rest.length).map fun (j:Nat)=>D.int (j:Nat)) (sd x k m d i f)) (seqO jza)=oK (.rt (lzD (lz rest k m d pre.length)))
 | [],pre,k,m,d,i,f,h=>by
  have hl:=h.len;show M.b (nX (sd x k m d i f)) (seqO jza)=_;rw[M.b_ok,joi,jzb hx];show _=some (Except.ok (Out.rt (lzD (if (0<d\/k=.begin\/k=.want) then some pre.length else none))));rw[show x.length=pre.length from by simpa using hl]
 | c::r,pre,k,m,d,i,f,h=>by
  have st:=jwz (k:=k) (m:=m) (d:=d) (f:=f) h;rw[List.length_cons,List.range'_succ,List.map_cons];have g1:DL.gName 4 (.int (pre.length:Nat)) (sd x k m d i f)=some (sd x k m d (oI (pre.length:Nat)) f):=rfl
  cases hs:jep m c k with
  | none =>
   rw[hs] at st;rw[jzu g1 st,jB6 (.inl hs)];rfl
  | some k' =>
   rw[hs] at st
   by_cases q:c=41/\d=0
   ·rw[jzu g1 (st.trans (if_pos q)),jB6 (.inr q)];rfl
   ·rw[jxm g1 (st.trans (if_neg q)),jpe hs q];have ih:=jp8 hx r (pre++[c]) k' (if k'=k then m+1 else 1) (dN [c] d) (oI (pre.length:Nat)) (oS (kS k')) (At.step (a:=[c]) h);rw[zcb,List.length_singleton] at ih;exact ih
def jDj(hx:x.length<=40000):jfp [.str x]=oK (lzD (lz x.cps.toList .begin 0 0 0)):=by
 have hl:x.cps.toList.length=x.length:=by simp[Str.length]
 have lp:=jp8 hx x.cps.toList [] .begin 0 0 none none ⟨rfl,by omega⟩;unfold jfp;rw[ji3];show (jhq [oS x,none,none,none,none,none]).b outD=_;unfold jhq;rw[ja8 (Y':=[oS x,oS "begin",none,none,none,none]) rfl,ja8 (Y':=[oS x,oS "begin",oI 0,none,none,none]) rfl,ja8 (Y':=sd x .begin 0 0 none none) rfl,jo7];have ln:=len_str (x:=x) (by omega);have er:jcr 0 x.length=(List.range' 0 x.length).map fun (j:Nat)=>D.int (j:Nat):=by
  unfold jcr;rw[List.range_eq_range'];apply List.map_congr_left;intro a _;rw[Int.zero_add]
 rw[jJe (ds:=jcr 0 x.length) (by
  unfold sd;simp only[stpA,ln,range1,Int.toNat_natCast];rfl),er,<- hl]
 exact (congrArg (fun v=>M.b v outD) lp).trans rfl
end
end
section
def DR(N:Nat)(x:List Nat):Prop:=∀ u r v,x=u++(r++v)->(∀ c∈r,isG c=true)->r.length<=N
def DR.tail{N:Nat}{x u y:List Nat}(h:DR N x)(e:x=u++y):DR N y:=fun u' r v q hr=>h (u++u') r v (by rw[e,q,List.append_assoc]) hr
theorem jsm:∀ (k:Nat) (r:List Nat),(∀ c∈r.take (runL k r),isL c=true)/\runL k r<=k
 | 0,r=>⟨fun c hc=>by simp[runL] at hc,zac _⟩
 | k+1,[]=>⟨fun c hc=>by simp[runL] at hc,Nat.zero_le _⟩
 | k+1,c::r=>by
  have ih:=jsm k r;show (∀ x∈(c::r).take (if isL c=true then 1+runL k r else 0),isL x=true)/\(if isL c=true then 1+runL k r else 0)<=k+1
  cases q:isL c with
  | false=>exact⟨fun x hx=>by simp at hx,Nat.zero_le _⟩
  | true =>
   rw[if_pos rfl,Nat.add_comm 1,List.take_succ_cons];refine⟨fun x hx=>?_,by omega⟩;rcases List.mem_cons.mp hx with rfl|hx
   ·exact q
   ·exact ih.1 x hx
theorem jsl:∀ r:List Nat,∀ c∈r.take (runG r),isG c=true
 | []=>fun c hc=>by simp[runG] at hc
 | c::r=>by
  show ∀ x∈(c::r).take (if isG c=true then 1+runG r else 0),isG x=true
  cases q:isG c with
  | false=>exact fun x hx=>by simp at hx
  | true =>
   rw[if_pos rfl,Nat.add_comm 1,List.take_succ_cons];intro x hx;rcases List.mem_cons.mp hx with rfl|hx
   ·exact q
   ·exact jsl r x hx
def jol(c:Nat)(r:List Nat):(c::r.take (pl c r)).length=1+pl c r:=by
 rw[List.length_cons,List.length_take,Nat.min_eq_left (jyo c r),Nat.add_comm]
def jDu{c:Nat}{r:List Nat}(h:isL c=true\/isG c=true)(D40:DR 40 (c::r)):Word (c::r.take (pl c r))/\pl c r<=39:=by
 rcases h with h|h
 ·have hp:pl c r=runL 9 r:=by unfold pl;rw[if_pos h]
  have ha:=jsm 9 r;have tl:=jol c r;rw[hp] at tl |-
  exact⟨.name (fun z=>nomatch z) (fun x hx=>by rcases List.mem_cons.mp hx with rfl|hx;exact h;exact ha.1 x hx) (by omega),by omega⟩
 ·by_cases q:c=48
  ·subst q;exact⟨.zero,by show (0:Nat)<=39;decide⟩
  ·have hp:pl c r=runG r:=by
    unfold pl;rw[if_neg (by rw[jjb h];decide),if_pos (by rw[h,beq_eq_false_iff_ne.mpr q];rfl)]
   have tl:=jol c r;have all:∀ x∈c::r.take (pl c r),isG x=true:=fun x hx=>by
    rcases List.mem_cons.mp hx with rfl|hx
    ·exact h
    ·rw[hp] at hx;exact jsl r x hx
   have:=D40 [] (c::r.take (pl c r)) (r.drop (pl c r)) (by rw[List.nil_append,List.cons_append,List.take_append_drop]) all;exact⟨.num (fun z=>nomatch z) all (fun z=>q (zby z)),by omega⟩
def jDs{w:W3}(h:w≠.beh):(wS w == Str.ofString "behind")=false:=by
 cases w with
 | beh=>exact absurd rfl h
 | _=>decide +kernel
def jIs{rest:List Nat}{w:W3}{d o:Nat}{res:Rs}(S:Sc rest w d o res):DR 40 rest->∀ ts,res=.ok ts->Acc (ts.map (·.1)) (wS w) d/\(∀ q∈ts,1<=q.1.length/\q.1.length<=40)/\tl ts<=rest.length:=by
 induction S with
 | fin w d o =>
  intro _ ts h
  by_cases q:w=.beh/\d=0
  ·rw[if_pos q] at h;cases h;rw[q.1,q.2];exact⟨.done,(fun _ z=>nomatch z),Nat.zero_le _⟩
  ·rw[if_neg q] at h;cases h
 | blank r w d o res _ ih =>
  intro hD ts h;obtain⟨a1,a2,a3⟩:=ih (hD.tail (u:=[32]) rfl) ts h;exact⟨a1,a2,by rw[List.length_cons];omega⟩
 | bad=>intro _ ts h;cases h
 | tok c r w d o res hc hs _ ih =>
  intro hD ts h;have ek:=jol c r;have hD':DR 40 (r.drop (pl c r)):=hD.tail (u:=c::r.take (pl c r)) (by rw[List.cons_append,List.take_append_drop])
  cases res with
  | error k=>cases h
  | ok us =>
   cases h;obtain⟨a1,a2,a3⟩:=ih hD' us rfl;have hple:=jyo c r;have t3:tl ((c::r.take (pl c r),(o:Int))::us)<=(c::r).length:=by
    rw[jit,ek,List.length_cons];rw[List.length_drop] at a3;omega
   have fin:∀ (dm:pl c r<=39),Acc ((c::r.take (pl c r))::us.map (·.1)) (wS w) d->Acc (((c::r.take (pl c r),(o:Int))::us).map (·.1)) (wS w) d/\(∀ q∈((c::r.take (pl c r),(o:Int))::us),1<=q.1.length/\q.1.length<=40)/\tl ((c::r.take (pl c r),(o:Int))::us)<=(c::r).length:=fun dm A=>⟨A,fun q hq=>by
    rcases List.mem_cons.mp hq with rfl|hq
    ·dsimp only;rw[ek];omega
    ·exact a2 q hq,t3⟩
   have word:(isL c=true\/isG c=true)->w≠.beh->_:=fun hw hb=>by
    obtain⟨W,dm⟩:=jDu hw hD;have b8:c≠40:=by rcases hw with h|h;exact (jku h).2.1;exact (jkt h).2.1
    have ci:c≠41:=by rcases hw with h|h;exact (jku h).2.2.1;exact (jkt h).2.2.1
    rw[jw7 _ b8 hw,jd2 _ d b8 ci] at a1;exact fin dm (.word W (jDs hb) a1)
   have one:pl c r=0->(Acc (us.map (·.1)) (wS (wb [c])) (dN [c] d)->Acc ([c]::us.map (·.1)) (wS w) d)->(Acc (((c::r.take (pl c r),(o:Int))::us).map (·.1)) (wS w) d/\(∀ q∈((c::r.take (pl c r),(o:Int))::us),1<=q.1.length/\q.1.length<=40)/\tl ((c::r.take (pl c r),(o:Int))::us)<=(c::r).length):=fun hp hA=>by
    have e:r.take (pl c r)=[]:=by rw[hp];rfl
    refine fin (by omega) ?_;rw[e] at a1 |-
    exact hA a1
   have w40:wb [40]=.beg:=rfl
   cases w with
   | beg =>
    have bj:(c == 45 || (c == 40 || (isL c || isG c)))=true:=hs
    by_cases q45:c=45
    ·subst q45;refine one rfl fun A=>.neg ?_
     rw[show wb [45]=.fac from by unfold wb;rw[if_neg (by decide),<- jla,if_pos jnu],jd2 [] d (by decide) (by decide)] at A;exact A
    ·by_cases q40:c=40
     ·subst q40;exact one rfl fun A=>.opn (jDs (fun z=>nomatch z)) A
     ·rw[beq_eq_false_iff_ne.mpr q45,beq_eq_false_iff_ne.mpr q40,Bool.false_or,Bool.false_or,Bool.or_eq_true] at bj;exact word bj (fun z=>nomatch z)
   | fac =>
    have bj:(!(c == 45)&&(c == 40 || (isL c || isG c)))=true:=hs;rw[Bool.and_eq_true] at bj;have bj:=bj.2
    by_cases q40:c=40
    ·subst q40;exact one rfl fun A=>.opn (jDs (fun z=>nomatch z)) A
    ·rw[beq_eq_false_iff_ne.mpr q40,Bool.false_or,Bool.or_eq_true] at bj;exact word bj (fun z=>nomatch z)
   | beh =>
    have bj:(jbl (St [c]) || (c == 41&&decide (0<d)))=true:=hs;rw[Bool.or_eq_true,Bool.and_eq_true,beq_iff_eq,decide_eq_true_eq] at bj;have dh:isG c=false/\isL c=false:=by
     rcases bj with h|⟨rfl,_⟩
     ·rcases jdg h with rfl|rfl|rfl<;>exact⟨rfl,rfl⟩
     ·exact⟨rfl,rfl⟩
    have hp:pl c r=0:=by unfold pl;rw[dh.1,dh.2];rfl
    rcases bj with h|⟨rfl,hd⟩
    ·refine one hp fun A=>.bin h ?_
     have jc:c≠40/\c≠41:=by rcases jdg h with rfl|rfl|rfl<;>exact⟨by decide,by decide⟩
     rw[show wb [c]=.fac from by unfold wb;rw[if_neg (fun z=>jc.1 (List.cons.inj z).1),if_pos h],jd2 [] d jc.1 jc.2] at A;exact A
    ·obtain⟨d',rfl⟩:∃ d',d=d'+1:=⟨d-1,by omega⟩
     refine one hp fun A=>.cls ?_
     rw[show wb [41]=.beh from by unfold wb;rw[if_neg (by decide),if_neg (by decide +kernel)]] at A;exact A
def jEs{aa:LL}{a:List Nat}(h:Word a):FB aa.length (4*a.length) (frmW aa a):=by
 obtain⟨_,_,_,c,r,rfl,_,hx⟩:=jj5 h;have b1:∀ n:Int,n=0\/n=1->Bt (4*(c::r).length) n:=fun n hn=>by
  have:Bt 4 n:=by unfold Bt;rcases hn with rfl|rfl<;>decide
  exact this.mono (by rw[List.length_cons];omega)
 unfold frmW;dsimp only
 by_cases hc:isL c=true
 ·rw[if_pos hc];exact⟨by simp,fun n hn=>by obtain⟨b,_,rfl⟩:=List.mem_map.mp hn;exact b1 _ (by split;exact .inr rfl;exact .inl rfl),b1 _ (.inl rfl)⟩
 ·rw[if_neg hc];have all:∀ x∈c::r,isG x=true:=by
   cases h with
   | zero=>intro x hx;rw[zcc.mp hx];rfl
   | name h1 h2 h3=>exact absurd (h2 c zaa) hc
   | num h1 h2 h3=>exact h2
  refine⟨by simp,fun n hn=>b1 _ (.inl (List.mem_replicate.mp hn).2),?_⟩;have lt:=jEg (jzj all);have pw:10 ^ (c::r).length<=2 ^ (4*(c::r).length):=by
   rw[Nat.pow_mul];exact Nat.pow_le_pow_left (by decide) _
  show Bt (4*(c::r).length) ((digitsVal (c::r):Nat):Int);unfold Bt;exact zcx lt pw
end
section
def jko{a b:SO}{r:Sto}(Ω:Sto):(Ω++a::b::r)[Ω.length+1]? = some b:=by
 rw[List.getElem?_append_right (Nat.le_succ _),show (List.length Ω).succ-List.length Ω=1 by omega];rfl
def errN(Ω:Sto)(f:Bool)(nm:Str)(o:Int):Sto:=Ω++[.exc "NoName" (some (Ω.length+1),f),.xd [("name",.str nm),("place",.int o)]]
def jxv(Ω:Sto)(nm:Str)(o:Int):jcd [.obj Ω.length,.str nm,.int o] (Ω++[.exc "NoName" (none,true)])=some (.ok .non,errN Ω true nm o):=by
 let Y:DSt:=[some (.obj Ω.length),oS nm,oI o]
 let Ω1:Sto:=Ω++[.exc "NoName" (some (Ω.length+1),true),.xd [("name",.str nm)]]
 unfold jcd mirE;rw[if_pos (show [D.obj Ω.length,D.str nm,D.int o].length=3 from rfl)];refine (MS.b_ok (a:=.nx Y) (Ω1:=errN Ω true nm o) ?_).trans rfl;show jdl Y _=_;unfold jdl;have p1:jjr xcs "name" (lF (vR 0)) (lF (vR 1)) Y (Ω++[.exc "NoName" (none,true)])=some (.ok (.nx Y),Ω1):=by
  unfold jjr;rw[MS.b_ok (a:=.str nm) (Ω1:=Ω++[.exc "NoName" (none,true)]) rfl,MS.b_ok (a:=.obj Ω.length) (Ω1:=Ω++[.exc "NoName" (none,true)]) rfl];refine (MS.b_ok (a:=()) (Ω1:=Ω1) ?_).trans rfl;unfold putX;dsimp only;rw[jg9];dsimp only;rw[if_pos (by decide),List.append_assoc,List.set_append_right _ _ (zac _),Nat.sub_self,zcb];rfl
 rw[eseq p1];unfold jjr;rw[MS.b_ok (a:=.int o) (Ω1:=Ω1) rfl,MS.b_ok (a:=.obj Ω.length) (Ω1:=Ω1) rfl];refine (MS.b_ok (a:=()) (Ω1:=errN Ω true nm o) ?_).trans rfl;unfold putX;dsimp only;rw[show Ω1[Ω.length]? = some (.exc "NoName" (some (Ω.length+1),true)) from jg9 Ω];dsimp only;rw[show Ω1[Ω.length+1]? = some (.xd [("name",.str nm)]) from jko Ω];dsimp only;rw[if_pos (by rw[Bool.and_eq_true];exact⟨by decide,rfl⟩),List.set_append_right _ _ (Nat.le_succ _),show (List.length Ω).succ-List.length Ω=1 by omega];rfl
def jyu{Ω:Sto}{Y:DSt}{nm:Str}{o:Int}{fl:DSt->MS (List D)}(h:fl Y Ω=some (.ok [.str nm,.int o],Ω)):jgu xcs (jfa "NoName" jcd fl) Y Ω=some (.error (xdO Ω.length),errN Ω false nm o):=by
 have mk:jfa "NoName" jcd fl Y Ω=some (.ok (.obj Ω.length),errN Ω true nm o):=by
  unfold jfa;rw[MS.b_ok h];unfold jqt;rw[MS.b_ok (jxv Ω nm o)];rfl
 unfold jgu;rw[MS.b_ok mk];dsimp only;unfold jpu errN;rw[jg9];dsimp only;rw[if_pos (by decide),List.set_append_right _ _ (zac _),Nat.sub_self];rfl
structure Er(Ω:Sto)(n:Nat)(c:Str):Prop where
 ex:∃ j fs,Ω[n]? = some (.exc c (some j,false))/\Ω[j]? = some (.xd fs)
 cs:xcs.contains c=true
def jH2(Ω:Sto)(nm:Str)(o:Int):Er (errN Ω false nm o) Ω.length "NoName":=⟨⟨Ω.length+1,_,jg9 Ω,jko Ω⟩,by decide⟩
def jEq(Ω:Sto){c:Str}(hc:xcs.contains c=true)(o:Int):Er (errs Ω false c o) Ω.length c:=⟨⟨Ω.length+1,_,jg9 Ω,jko Ω⟩,hc⟩
variable {aa:LL}
def jug{a:List Nat}{x pc:Option D}{o:Int}(ha:1<=a.length)(hl:a.length<=40)(Ω:Sto):jck [oN aa,x,pc,some (sT a),oI o] Ω=some (.ok (.nx [oN aa,x,pc,some (sT a),oI o]),Ω)\/jck [oN aa,x,pc,some (sT a),oI o] Ω=some (.error (xdO Ω.length),errN Ω false (St a) o):=by
 cases a with
 | nil=>exact absurd ha (by decide)
 | cons c r =>
  rw[List.length_cons] at hl;have t:∃ b,DL.tAnd (tTru (jau ja5 (jac (f2 gIx (vR 3) (cI 0)) fNil))) (t2 ji6 (vR 3) (vR 0)) [oN aa,x,pc,some (sT (c::r)),oI o]=oK b:=by
   have e1:tTru (jau ja5 (jac (f2 gIx (vR 3) (cI 0)) fNil)) [oN aa,x,pc,some (sT (c::r)),oI o]=oK (isL c):=by
    simp only[stpA,ix0 (c:=c) (a:=r) (by omega),jhc];rfl
   have e2:t2 ji6 (vR 3) (vR 0) [oN aa,x,pc,some (sT (c::r)),oI o]=oK (!decide ((c::r)∈aa)):=by
    have g:ji6 (sT (c::r)) (.lst (nmD aa))=some (.bl !decide ((c::r)∈aa)):=by
     show (if (true&&(nmD aa).all jkc)=true then some (D.bl !(inD _ (nmD aa))) else none)=_;rw[jmm,if_pos (by decide),jqm]
    simp only[stpA,g];rfl
   unfold DL.tAnd;rw[e1,M.b_ok]
   cases isL c with
   | true=>exact⟨_,e2⟩
   | false=>exact⟨false,rfl⟩
  obtain⟨b,t⟩:=t;unfold jck;rw[eif (lft t)]
  cases b with
  | true=>exact .inr (jyu (lft rfl))
  | false=>exact .inl rfl
theorem jo2{x pc:Option D}(Ω:Sto):∀ (ts:List (List Nat×Int)) (y z:Option D),(∀ q∈ts,1<=q.1.length/\q.1.length<=40)->(∃ y' z',forE jck (je7 3 4) (ts.map tkD) [oN aa,x,pc,y,z] Ω=some (.ok (.nx [oN aa,x,pc,y',z']),Ω))\/∃ nm o,forE jck (je7 3 4) (ts.map tkD) [oN aa,x,pc,y,z] Ω=some (.error (xdO Ω.length),errN Ω false nm o)
 | [],y,z,_=>.inl ⟨y,z,rfl⟩
 | (a,o)::ts,y,z,h=>by
  obtain⟨h1,h2⟩:=h (a,o) zaa;rw[List.map_cons];rcases jug (aa:=aa) (x:=x) (pc:=pc) (o:=o) h1 h2 Ω with c|c
  ·rw[jdk (Y1:=[oN aa,x,pc,some (sT a),oI o]) rfl c];exact jo2 (x:=x) (pc:=pc) Ω ts _ _ fun q hq=>h q (zaw _ hq)
  ·exact .inr ⟨_,_,jnn rfl c⟩
def jD5{α β:Type}{m m':MS α}{f:α->MS β}{Ω:Sto}(h:m Ω=m' Ω):m.b f Ω=m'.b f Ω:=by unfold MS.b;rw[h]
inductive Rd(Ω:Sto):Option Nat->Option (Except XD D×Sto)->Prop
 | no (k:Nat):Rd Ω (some k) (some (.error (xdO Ω.length),errs Ω false "NoText" (k:Nat)))
 | yes (d:D) (Ω':Sto):Rd Ω none (some (.ok d,Ω'))
 | other (n:Nat) (Ω':Sto) (c:Str) (h:Er Ω' n c) (hc:(c == Str.ofString "NoText")=false):Rd Ω none (some (.error (xdO n),Ω'))
def jC8{x:Str}(hn:aa.length<=1000)(hx:x.length<=15000)(hD:DR 40 x.cps.toList){res:Rs}(S:Sc x.cps.toList .beg 0 0 res)(Ω:Sto):Rd Ω (rsO res) (jer [.lst (nmD aa),.str x] Ω):=by
 have ps:=jq7 (by omega) S Ω;have mp:∀ v,jc2 [.str x] Ω=v->jds jc2 (lF (jac (vR 1) fNil)) [oN aa,oS x,none,none,none] Ω=v:=fun v hv=>by
  unfold jds;rw[MS.b_ok (a:=[.str x]) (Ω1:=Ω) (lft rfl),hv]
 show Rd Ω (rsO res) (MS.b (jhs [oN aa,oS x,none,none,none]) outE Ω);unfold jhs
 cases res with
 | error k =>
  rw[b_err (jf4 (by unfold eSet;exact b_err (mp _ ps)))];exact .no k
 | ok ts =>
  obtain⟨A,hT,ek⟩:=jIs S hD ts rfl;have hl:x.cps.toList.length=x.length:=by simp[Str.length]
  rw[hl] at ek;have hts:ts.length<=tl ts:=by
   have:∀ us:List (List Nat×Int),(∀ q∈us,1<=q.1.length)->us.length<=tl us:=fun us=>by
    induction us with
    | nil=>intro _;exact Nat.zero_le _
    | cons q us ih =>
     intro h;have:=h q zaa;have:=ih fun q hq=>h q (zaw _ hq)
     rw[jit,List.length_cons];omega
   exact this ts fun q hq=>(hT q hq).1
  have s1:eSet 2 (jds jc2 (lF (jac (vR 1) fNil))) [oN aa,oS x,none,none,none] Ω=some (.ok (.nx [oN aa,oS x,oL (ts.map tkD),none,none]),Ω):=by
   unfold eSet;rw[MS.b_ok (mp _ ps)];rfl
  have hf:∀ v,forE jck (je7 3 4) (ts.map tkD) [oN aa,oS x,oL (ts.map tkD),none,none] Ω=v->eFor (lF (ji8 (vR 2))) (je7 3 4) jck [oN aa,oS x,oL (ts.map tkD),none,none] Ω=v:=fun v hv=>by
   unfold eFor;rw[MS.b_ok (a:=ts.map tkD) (Ω1:=Ω) (lft rfl),hv]
  rcases jo2 (aa:=aa) (x:=oS x) (pc:=oL (ts.map tkD)) Ω ts none none hT with ⟨y,z,c⟩|⟨nm,o,c⟩
  ·obtain⟨res,G⟩:=go_of (aa:=aa) A ts [new 0] 0 rfl (.beg (new 0) [] rfl rfl fun _ h=>nomatch h) ⟨0,0,zac _,LvB.new _ _ _,trivial⟩ (by have:KL=80000:=rfl;omega) fun q hq=>⟨(hT q hq).1,(hT q hq).2,fun w=>jEs w⟩
   have rk:=jq8 hn G (by omega) Ω;have mc:jds jcu (lF (jac (vR 0) (jac (vR 2) fNil))) [oN aa,oS x,oL (ts.map tkD),y,z] Ω=jcu [.lst (nmD aa),.lst (ts.map tkD)] Ω:=by
    unfold jds;rw[MS.b_ok (a:=[.lst (nmD aa),.lst (ts.map tkD)]) (Ω1:=Ω) (lft rfl)]
   have head:MS.b (eSeq (eSet 2 (jds jc2 (lF (jac (vR 1) fNil)))) (eSeq (eFor (lF (ji8 (vR 2))) (je7 3 4) jck) (eRet (jds jcu (lF (jac (vR 0) (jac (vR 2) fNil)))))) [oN aa,oS x,none,none,none]) outE Ω=MS.b (eRet (jds jcu (lF (jac (vR 0) (jac (vR 2) fNil)))) [oN aa,oS x,oL (ts.map tkD),y,z]) outE Ω :=
    jD5 (by rw[eseq s1,eseq (hf _ c)])
   rw[head]
   cases res with
   | ok f =>
    obtain⟨Ω',rk⟩:=rk;have q:eRet (jds jcu (lF (jac (vR 0) (jac (vR 2) fNil)))) [oN aa,oS x,oL (ts.map tkD),y,z] Ω=some (.ok (.rt (fm f)),Ω'):=by
     unfold eRet;rw[MS.b_ok (mc.trans rk)];rfl
    rw[MS.b_ok q];exact .yes _ _
   | error p =>
    obtain⟨Ω',rk⟩:=rk;have q:eRet (jds jcu (lF (jac (vR 0) (jac (vR 2) fNil)))) [oN aa,oS x,oL (ts.map tkD),y,z] Ω=some (.error (xdO Ω'.length),errs Ω' false "NotPlain" p):=by
     unfold eRet;exact b_err (mc.trans rk)
    rw[b_err q];exact .other _ _ "NotPlain" (jEq Ω' (by decide) p) (by decide +kernel)
  ·rw[b_err (by rw[eseq s1];exact jf4 (hf _ c))];exact .other _ _ "NoName" (jH2 Ω nm o) (by decide +kernel)
end
section
variable {aa:LL}{x:Str}
def juf{Ω:Sto}{n:Nat}{c:Str}(h:Er Ω n c)(N T:D):jo1 xcs 3 2 [some N,some T,some .non,none] (xdO n) Ω=some (.ok (.nx [some N,some T,some (.obj n),none]),Ω):=by
 obtain⟨⟨j,fs,h1,h2⟩,hc⟩:=h;unfold jo1 errI xdO;dsimp only;rw[h1];dsimp only;rw[if_pos hc];rfl
def jqq{T:D}{Ω Ω':Sto}{r:Except XD D}{d:D}(h:jer [.lst (nmD aa),T] Ω=some (r,Ω'))(hr:(match r with
  | .ok _=>d=.non
  | .error y=>∃ n c,y=xdO n/\Er Ω' n c/\d=.obj n)):jhv [.lst (nmD aa),T] Ω=some (.ok d,Ω'):=by
 have mc:jds jer (lF (jac (vR 0) (jac (vR 1) fNil))) [oN aa,some T,some .non,none] Ω=some (r,Ω'):=by
  unfold jds;rw[MS.b_ok (a:=[.lst (nmD aa),T]) (Ω1:=Ω) (lft rfl),h]
 show MS.b (jho [oN aa,some T,none,none]) outE Ω=_;refine (MS.b_ok (a:=.rt d) (Ω1:=Ω') ?_).trans rfl;unfold jho;rw[eseq (Y':=[oN aa,some T,some .non,none]) (Ω':=Ω) (lft rfl)]
 cases r with
 | ok z =>
  rw[show d=.non from hr];rw[eseq (Y':=[oN aa,some T,some .non,none]) (Ω':=Ω') (by unfold juq;rw[mc])];rfl
 | error y =>
  obtain⟨n,c,rfl,he,rfl⟩:=hr;rw[eseq (Y':=[oN aa,some T,some (.obj n),none]) (Ω':=Ω') (by unfold juq;rw[mc];exact juf he _ _)];rfl
section
variable {Ω:Sto}{Y:DSt}{fa:DSt->MS D}{n:Nat}{c:Str}
def jEy{g:Str->Bool}(H:Er Ω n c)(h:fa Y Ω=some (.ok (.obj n),Ω)):mIsX xcs g fa Y Ω=some (.ok (.bl (g c)),Ω):=by
 obtain⟨⟨j,fs,h1,h2⟩,hc⟩:=H;unfold mIsX;rw[MS.b_ok h];unfold isX;dsimp only;rw[h1];dsimp only;rw[h2];dsimp only;rw[if_pos hc]
def jEx{g:Str->Bool}(H:Er Ω n c)(h:fa Y Ω=some (.ok (.obj n),Ω)):mIsN xcs g fa Y Ω=some (.ok (.bl (g c)),Ω):=by
 have:=jEy (g:=g) H h;unfold mIsX at this;rw[MS.b_ok h] at this;unfold mIsN;rw[MS.b_ok h];exact this
end
def jyx(hn:aa.length<=1000)(hx:x.length<=15000)(hD:DR 40 x.cps.toList)(Ω:Sto):∃ Ω',jco [.lst (nmD aa),.str x] Ω=some (.ok (.bl true),Ω'):=by
 obtain⟨res,S⟩:=jDc x.cps.toList.length x.cps.toList .beg 0 0 (zac _);have st:=jDj (x:=x) (by omega);rw[jy5 S .begin 0 rfl] at st;have rd:=jC8 (aa:=aa) hn hx hD S Ω;generalize hv:jer [.lst (nmD aa),.str x] Ω=v at rd
 let Y (pl k:Option D):DSt:=[oN aa,oS x,pl,k]
 have s1:lF (gSet 2 (jau jfp (jac (vR 1) fNil))) (Y none none) Ω=some (.ok (.nx (Y (some (lzD (rsO res))) none)),Ω):=lft (by simp only[Y,stpA,st];rfl);have go:∀ (d:D) (Ω':Sto) (b:D) (Ω2:Sto),jhv [.lst (nmD aa),.str x] Ω=some (.ok d,Ω')->(eSeq (eIf (lF (t2 gIs (vR 2) (fC .non))) (eRet (jx3 (mIsN xcs (fun c=>c == "NoText") (lF (vR 3))))) eNx)
  (eSeq (eIf (mOr (mNot (mTru (mIsN xcs (fun c=>c == "NoText") (lF (vR 3))))) (mNot (mTru (mIsX xcs (fun _=>true) (lF (vR 3)))))) (lF (gRet (fC (.bl false)))) eNx)
  (eSeq (eIf (mTru (mIsX xcs (fun c=>(["Broken","Folded","NoBook","NoDeed","NoLine","NoName","NoPaper","NoRule"]:List Str).contains c) (lF (vR 3)))) (lF (gRet (fC (.bl false)))) eNx)
  (eSeq (eIf (mTru (mIsX xcs (fun c=>(["NotPlain","OutOfRange","ShortShare"]:List Str).contains c) (lF (vR 3)))) (lF (gRet (fC (.bl false)))) eNx)
  (eRet (jx2 (jlc je1 (jhd (jnw xcs "place" (lF (vR 3))) (lF fNil))) (m2 gEq (jnw xcs "place" (lF (vR 3))) (lF (vR 2))))))))) (Y (some (lzD (rsO res))) (some d)) Ω'=some (.ok (.rt b),Ω2)->jco [.lst (nmD aa),.str x] Ω=some (.ok b,Ω2):=fun d Ω' b Ω2 hk h=>by
  show MS.b (jf9 (Y none none)) outE Ω=_;refine (MS.b_ok (a:=.rt b) (Ω1:=Ω2) ?_).trans rfl;unfold jf9;rw[eseq s1,eseq (Y':=Y (some (lzD (rsO res))) (some d)) (Ω':=Ω') (by
   unfold eSet jds;rw[MS.b_ok (a:=d) (Ω1:=Ω') (by rw[MS.b_ok (a:=[.lst (nmD aa),.str x]) (Ω1:=Ω) (lft rfl),hk])];rfl)]
  exact h
 cases res with
 | ok ts =>
  cases rd with
  | yes d Ω' =>
   refine⟨Ω',go .non Ω' (.bl true) Ω' (jqq hv rfl) (jnj ?_)⟩;rw[eif (c:=true) (Ω':=Ω') (lft rfl),if_pos rfl];rfl
  | other n Ω' c he hc =>
   refine⟨Ω',go (.obj n) Ω' (.bl true) Ω' (jqq hv ⟨n,c,rfl,he,rfl⟩) (jnj ?_)⟩;rw[eif (c:=true) (Ω':=Ω') (lft rfl),if_pos rfl];have i:=jEx (g:=fun c=>c == Str.ofString "NoText") he (show lF (vR 3) (Y (some (lzD (rsO (.ok ts)))) (some (.obj n))) Ω'=some (.ok (.obj n),Ω') from rfl);unfold eRet jx3;refine (MS.b_ok (a:=.bl true) (Ω1:=Ω') ?_).trans rfl;rw[MS.b_ok i,hc];rfl
 | error k =>
  cases rd with
  | no k =>
   have he:Er (errs Ω false "NoText" (k:Nat)) Ω.length "NoText":=jEq Ω (by decide) _;refine⟨errs Ω false "NoText" (k:Nat),go (.obj Ω.length) (errs Ω false "NoText" (k:Nat)) (.bl true) (errs Ω false "NoText" (k:Nat)) (jqq hv ⟨_,_,rfl,he,rfl⟩) ?_⟩
   let Y':DSt:=Y (oI (k:Nat)) (some (.obj Ω.length))
   have v0:lF (vR 3) Y' (errs Ω false "NoText" (k:Nat))=some (.ok (.obj Ω.length),errs Ω false "NoText" (k:Nat)):=rfl;have tr:∀ g:Str->Bool,mTru (mIsX xcs g (lF (vR 3))) Y' (errs Ω false "NoText" (k:Nat))=some (.ok (g "NoText"),errs Ω false "NoText" (k:Nat)):=fun g=>by
    unfold mTru;rw[MS.b_ok (jEy (g:=g) he v0)];rfl
   have trN:∀ g:Str->Bool,mTru (mIsN xcs g (lF (vR 3))) Y' (errs Ω false "NoText" (k:Nat))=some (.ok (g "NoText"),errs Ω false "NoText" (k:Nat)):=fun g=>by
    unfold mTru;rw[MS.b_ok (jEx (g:=g) he v0)];rfl
   have n2:jnw xcs "place" (lF (vR 3)) Y' (errs Ω false "NoText" (k:Nat))=some (.ok (.int (k:Nat)),errs Ω false "NoText" (k:Nat)):=by
    unfold jnw;rw[MS.b_ok v0];unfold getX;dsimp only;rw[show (errs Ω false "NoText" (k:Nat))[Ω.length]? = some (.exc "NoText" (some (Ω.length+1),false)) from jg9 Ω];dsimp only;rw[show (errs Ω false "NoText" (k:Nat))[Ω.length+1]? = some (.xd [("place",.int (k:Nat))]) from jko Ω];dsimp only;rw[if_pos (by decide)];rfl
   rw[eseq (Y':=Y') (Ω':=errs Ω false "NoText" (k:Nat)) (by rw[eif (c:=false) (Ω':=errs Ω false "NoText" (k:Nat)) (lft rfl)];rfl)];rw[eseq (Y':=Y') (Ω':=errs Ω false "NoText" (k:Nat)) (by
    rw[eif (c:=false) (Ω':=errs Ω false "NoText" (k:Nat)) (by
     unfold mOr mNot;rw[MS.b_ok (a:=false) (Ω1:=errs Ω false "NoText" (k:Nat)) (by rw[MS.b_ok (trN _)];rfl),if_neg (by decide),MS.b_ok (tr _)];rfl),if_neg (by decide)]
    rfl)]
   rw[eseq (Y':=Y') (Ω':=errs Ω false "NoText" (k:Nat)) (by rw[eif (c:=false) (Ω':=errs Ω false "NoText" (k:Nat)) (tr _),if_neg (by decide)];rfl)];rw[eseq (Y':=Y') (Ω':=errs Ω false "NoText" (k:Nat)) (by rw[eif (c:=false) (Ω':=errs Ω false "NoText" (k:Nat)) (tr _),if_neg (by decide)];rfl)];have wh:je1 [.int (k:Nat)]=oK (.bl true):=rfl;unfold eRet jx2;refine (MS.b_ok (a:=.bl true) (Ω1:=errs Ω false "NoText" (k:Nat)) ?_).trans rfl;have a1:jhd (jnw xcs "place" (lF (vR 3))) (lF fNil) Y' (errs Ω false "NoText" (k:Nat))=some (.ok [.int (k:Nat)],errs Ω false "NoText" (k:Nat)):=by
    unfold jhd;rw[MS.b_ok n2,MS.b_ok (a:=[]) (Ω1:=errs Ω false "NoText" (k:Nat)) rfl];rfl
   have a2:jlc je1 (jhd (jnw xcs "place" (lF (vR 3))) (lF fNil)) Y' (errs Ω false "NoText" (k:Nat))=some (.ok (.bl true),errs Ω false "NoText" (k:Nat)):=by
    rw[jwo,s_b,a1,jis,wh];rfl
   rw[MS.b_ok a2];dsimp only;rw[s_2,MS.b_ok n2,MS.b_ok (a:=.int (k:Nat)) (Ω1:=errs Ω false "NoText" (k:Nat)) rfl,jur,beq_self_eq_true];rfl
end
section
def rp:List (Nat×List Nat)->List Nat
 | []=>[]
 | (k,a)::s=>List.replicate k 32++(a++rp s)
def jwh(s t:List (Nat×List Nat)):rp (s++t)=rp s++rp t:=by
 induction s with
 | nil=>rfl
 | cons q s ih=>obtain⟨k,a⟩:=q;simp[rp,ih,List.append_assoc]
def DR.nil(N:Nat):DR N []:=fun u r v h _=>by
 have:=congrArg List.length h;simp at this;omega
def DR.len{N:Nat}{x:List Nat}(h:x.length<=N):DR N x:=fun u r v e _=>by
 have:=congrArg List.length e;simp at this;omega
def DR.mono{N M:Nat}{x:List Nat}(h:DR N x)(hm:N<=M):DR M x:=fun u r v e hr=>zdx (h u r v e hr) hm
def DR.join{N M:Nat}{x y:List Nat}(hx:DR N x)(hy:DR M y):DR (N+M) (x++y):=fun u r v e hr=>by
 rcases List.append_eq_append_iff.mp e with ⟨w,e1,e2⟩|⟨w,e1,e2⟩
 ·exact zdx (hy w r v e2 hr) (Nat.le_add_left _ _)
 ·rcases List.append_eq_append_iff.mp e2.symm with ⟨w',e3,e4⟩|⟨w',e3,e4⟩
  ·have h1:=hx u w [] (by rw[e1,List.append_nil]) fun c hc=>hr c (by rw[e3];exact List.mem_append_left _ hc)
   have h2:=hy [] w' v (by rw[List.nil_append,e4]) fun c hc=>hr c (by rw[e3];exact zcy _ hc)
   rw[e3,zcb];omega
  ·have h1:=hx u r w' (by rw[e1,e3]) hr;exact zdx h1 (Nat.le_add_right _ _)
def DR.sep{N:Nat}{x y:List Nat}{c:Nat}(hc:isG c=false)(hx:DR N x)(hy:DR N y):DR N (x++c::y):=fun u r v e hr=>by
 rcases List.append_eq_append_iff.mp e with ⟨w,e1,e2⟩|⟨w,e1,e2⟩
 ·cases w with
  | nil =>
   cases r with
   | nil=>exact Nat.zero_le _
   | cons z r =>
    rw[List.nil_append,List.cons_append] at e2;have:=hr z zaa;rw[<- (List.cons.inj e2).1,hc] at this;cases this
  | cons z w=>exact hy w r v (List.cons.inj e2).2 hr
 ·rcases List.append_eq_append_iff.mp e2.symm with ⟨w',e3,e4⟩|⟨w',e3,e4⟩
  ·cases w' with
   | nil=>exact hx u r [] (by rw[e1,e3,List.append_nil,List.append_nil]) hr
   | cons z w' =>
    have:=hr z (by rw[e3];exact zcy _ zaa);rw[<- (List.cons.inj e4).1,hc] at this;cases this
  ·exact hx u r w' (by rw[e1,e3]) hr
theorem DR.blanks{N:Nat}{y:List Nat}(hy:DR N y):∀ k:Nat,DR N (List.replicate k 32++y)
 | 0=>hy
 | k+1=>by
  rw[List.replicate_succ,List.cons_append];exact DR.sep (x:=[]) rfl (DR.nil N) (DR.blanks hy k)
def RDs(ts:LL):Prop:=∀ ao:List (Nat×List Nat),ao.map (·.2)=ts->DR 14 (rp ao)
def RDs.one{a:List Nat}(h:a.length<=14):RDs [a]:=fun ao e=>by
 obtain⟨q,s,rfl⟩:∃ q s,ao=q::s:=by cases ao with|nil=>cases e|cons q s=>exact⟨q,s,rfl⟩
 obtain⟨k,b⟩:=q;simp only[List.map_cons,List.cons.injEq,List.map_eq_nil_iff] at e;obtain⟨rfl,rfl⟩:=e;exact DR.blanks (by simp only[rp,List.append_nil];exact DR.len h) k
def RDs.nil:RDs []:=fun ao e=>by rw[List.map_eq_nil_iff.mp e];exact DR.nil _
def RDs.sep{ts us:LL}{c:Nat}(hc:isG c=false)(h:RDs ts)(k:RDs us):RDs (ts++[c]::us):=fun ao e=>by
 obtain⟨s1,s2,rfl,e1,e2⟩:=List.map_eq_append_iff.mp e;obtain⟨q,s3,rfl⟩:∃ q s,s2=q::s:=by cases s2 with|nil=>cases e2|cons q s=>exact⟨q,s,rfl⟩
 obtain⟨j,b⟩:=q;simp only[List.map_cons,List.cons.injEq] at e2;obtain⟨rfl,e3⟩:=e2;rw[jwh];have h2:=k s3 e3;have h1:=h s1 e1;show DR 14 (rp s1++(List.replicate j 32++([c]++rp s3)));have:∀ j,DR 14 (rp s1++(List.replicate j 32++([c]++rp s3))):=fun j=>by
  cases j with
  | zero=>exact DR.sep hc h1 h2
  | succ j =>
   rw[List.replicate_succ,List.cons_append];exact DR.sep rfl h1 (DR.blanks (DR.sep (x:=[]) hc (DR.nil _) h2) j)
 exact this j
structure Sm(aa:LL)(ts:LL)(f:Fm)(b:Nat):Prop where
 rd:RDs ts
 toks:∀ a∈ts,a.length<=14
 len:f.1.length=aa.length
 bf:BF b f
abbrev Fc:=Sm
abbrev Tm:=Sm
section
variable {aa ts us:LL}{f g:Fm}{b c:Nat}
def jmy{x:Nat}(h:∀ a∈ts,a.length<=14)(k:∀ a∈us,a.length<=14):∀ a∈ts++[x]::us,a.length<=14:=fun a ha=>by
 rcases List.mem_append.mp ha with ha|ha
 ·exact h a ha
 ·rcases List.mem_cons.mp ha with rfl|ha
  ·show 1<=14;decide
  ·exact k a ha
def Fc.paren(h:Sm aa ts f b):Fc aa ([40]::ts++[[41]]) f b:=by
 have h1:=RDs.sep (c:=41) rfl (RDs.sep (ts:=[]) (c:=40) rfl RDs.nil h.rd) RDs.nil;exact⟨h1,jmy (us:=[]) (jmy (ts:=[]) (fun _ z=>nomatch z) h.toks) (fun _ z=>nomatch z),h.len,h.bf⟩
def Sm.tm(h:Fc aa ts f b)(hb:b<=KB):Tm aa ts f b:=h
def jyq(hf:f.1.length=aa.length)(hg:g.1.length=aa.length):(jfs f g).1.length=aa.length:=by
 unfold jfs
 split
 ·rw[jgi];exact hf
 ·rw[jgi];exact hg
def jCy(hf:BF b f)(hg:BF c g):BF (b+c) (jfs f g):=by
 unfold jfs
 split
 ·exact hf.mul hg.2
 ·rw[Nat.add_comm];exact hg.mul hf.2
def Sm.mul(h:Tm aa ts f b)(k:Fc aa us g c)(hb:b<=KB)(hc:c<=KB)(hp:jcb f=true\/jcb g=true):Tm aa (ts++[42]::us) (jfs f g) (b+c):=⟨h.rd.sep rfl k.rd,jmy h.toks k.toks,jyq h.len k.len,jCy h.bf k.bf⟩
def Sm.sm(h:Tm aa ts f b)(hb:b<=KB):Sm aa ts f b:=h
def Sm.neg(h:Tm aa ts f b)(hb:b<=KB):Sm aa ([45]::ts) (mulF f (-1)) b:=⟨RDs.sep (ts:=[]) rfl RDs.nil h.rd,jmy (ts:=[]) (fun _ z=>nomatch z) h.toks,by rw[jgi];exact h.len,h.bf.neg⟩
def Sm.add(h:Sm aa ts f b)(k:Tm aa us g b)(hb:b<=KB):Sm aa (ts++[43]::us) (addF f g) (b+1):=⟨h.rd.sep rfl k.rd,jmy h.toks k.toks,by rw[jm1 (by rw[h.len,k.len])];exact h.len,h.bf.add k.bf⟩
def Sm.sub(h:Sm aa ts f b)(k:Tm aa us g b)(hb:b<=KB):Sm aa (ts++[45]::us) (addF f (mulF g (-1))) (b+1):=⟨h.rd.sep rfl k.rd,jmy h.toks k.toks,by rw[jm1 (by rw[h.len,jgi,k.len])];exact h.len,h.bf.add k.bf.neg⟩
def Sm.mono(h:Sm aa ts f b)(hc:b<=c):Sm aa ts f c:=⟨h.rd,h.toks,h.len,h.bf.mono hc⟩
end
def plF(n:Nat)(v:Nat):Fm:=(List.replicate n 0,(v:Int))
def job(n v:Nat):jcb (plF n v)=true:=by unfold jcb plF;simp
def jxh{m:Nat}(h:m<10 ^ 14):(dg m).length<=14:=by
 unfold dg;rw[zav];have e:=(Nat.length_repr_le_iff (n:=m) (by decide:0<14)).mpr h
 rwa [<- String.length_toList,Nat.toList_repr] at e
def jvo{aa:LL}(hn:aa.length<=1000){v:Nat}(hv:v<10 ^ 14):Fc aa [dg v] (plF aa.length v) 110:=by
 have hl:=jxh hv;refine⟨RDs.one hl,fun a ha=>by rw[zcc.mp ha];exact hl,by simp[plF],fun c hc=>?_,?_⟩
 ·have:c=0:=(List.mem_replicate.mp (show c∈List.replicate aa.length (0:Int) from hc)).2;rw[this];unfold Bt;decide
 ·show Bt 110 ((v:Nat):Int);unfold Bt;rw[Int.natAbs_natCast];exact Nat.lt_trans hv (by decide)
def hotF(n i:Nat):Fm:=((List.range n).map fun k=>if k=i then 1 else 0,0)
def jCg{aa:LL}(hn:aa.length<=1000)(hN:∀ a∈aa,Nm a)(hd:aa.Nodup){i:Nat}(hi:i<aa.length):Fc aa [aa[i]] (hotF aa.length i) 110:=by
 have na:=hN _ (List.getElem_mem hi);have hl:aa[i].length<=14:=zdx na.le (by decide);refine⟨RDs.one hl,fun a ha=>by rw[zcc.mp ha];exact hl,by simp[hotF],fun c hc=>?_,by show Bt 110 0;unfold Bt;decide⟩;obtain⟨k,_,rfl⟩:=List.mem_map.mp hc;unfold Bt
 split<;>decide
end
section
def p1014:gPow (.int 10) (.int 14)=oI 100000000000000:=by rw[jCx (by decide)];rfl
def jhl{k l:Nat}{a:Fm}{n:Int}(ha:BF k a)(hn:Bt l n)(hk:k<=100000)(hl:l<=100000)(h:a.1.length<=1000):jbe [fm a,.int n]=oK (fm (mulF a n)):=by
 have e:=ji1 (c:=[oI n]) (fe:=jf1) (K:=D.int) (F:=fun c=>.int (c*n)) a.1 none (fun c hc=>by
  unfold jf1;simp only[stpA,jdx hn (ha.1 c hc) hl hk];rw[Int.mul_comm];rfl)
 unfold jbe;rw[jgv];unfold jg8 fm mulF;simp only[stpA,e,jdx hn ha.2 hl hk,jk9 (ds:=List.map (fun c=>D.int (c*n)) a.1) (by rw[zav];assumption)];rw[List.map_map,Int.mul_comm];rfl
def jjc(a b:Fm)(h:a.1.length<=1000):jb8 [fm a,fm b]=oK (fm (addF a b)):=by
 have e:=jo4 (c:=[]) (fe:=jg1) (K:=fun p:Int×Int=>(D.int p.1,D.int p.2)) (F:=fun p=>.int (p.1+p.2)) (a.1.zip b.1) none none (fun p hp=>by unfold jg1;simp only[stpA];rfl);unfold jb8;rw[jgv];unfold jin fm addF;simp only[stpA,e,jk9 (ds:=List.map (fun p:Int×Int=>D.int (p.1+p.2)) (a.1.zip b.1)) (by rw[zav,List.length_zip];omega)];rw[List.map_map];rfl
section
variable {aa:LL}
def jmr:(nmD aa).length=aa.length:=by simp[nmD]
def jAr{v:Nat}(h:v<10 ^ 31):kStr [.int (v:Nat)]=some (sT (dg v)):=by
 have hl:((v:Nat):Int).natAbs.log2<1920:=by
  rw[Int.natAbs_natCast]
  by_cases q:v=0
  ·subst q;decide
  ·exact Nat.lt_trans ((Nat.log2_lt q).mpr (Nat.lt_trans h (by decide:10 ^ 31<2 ^ 200))) (by decide)
 show (if ((v:Nat):Int).natAbs.log2<1920 then some (D.str (Str.ofString (toString ((v:Nat):Int)))) else none)=_;rw[if_pos hl,jEd]
def jvb{num ac:Int}(h1:1<=aa.length)(h4:aa.length<=4)(h0:0<=num):∃ v:Nat,v<10 ^ 14/\je0 [.lst (nmD aa),.int num,.int ac]=oK (.tup [.lst (nmD [dg v]),fm (plF aa.length v)]):=by
 have ik:∃ v:Nat,v<10 ^ 14/\∃ Y1,gSet 3 (f2 gMod (f2 jev (vR 1) (cI 8)) (cI 4)) [oN aa,oI num,oI ac,none]=nX Y1 /\
   gIf (DL.t2 gEq (f2 gMod (vR 1) (cI 4)) (cI 0)) (gSet 3 (f2 gMod (vR 2) (f2 gIx (fL ja2 (jac (cI 100) (jac (f2 gPow (cI 10) (cI 14)) fNil))) (f2 jev (f2 gMod (f2 jev (vR 1) (cI 32)) (cI 4)) (cI 3))))) gNx Y1=nX [oN aa,oI num,oI ac,oI (v:Nat)]:=by
  have f1:=jdj (i:=num) (j:=8) (by decide) (by decide);have ft:=jby (i:=num / 8) (j:=4) (by decide);have f3:=jby (i:=num) (j:=4) (by decide);have f4:=jdj (i:=num) (j:=32) (by decide) (by decide);have f5:=jby (i:=num / 32) (j:=4) (by decide);have f6:=jdj (i:=num / 32 % 4) (j:=3) (by decide) (by decide)
  by_cases q:num % 4=0
  ·have hd:num / 32 % 4 / 3=0\/num / 32 % 4 / 3=1:=by omega
   obtain⟨md,hm,hm2,g⟩:∃ md:Int,0<md/\md<=10 ^ 14/\gIx (.lst [.int 100,.int 100000000000000]) (.int (num / 32 % 4 / 3))=oI md:=by
    rcases hd with hd|hd
    ·exact⟨100,by decide,by decide,by rw[hd];rfl⟩
    ·exact⟨100000000000000,by decide,by decide,by rw[hd];rfl⟩
   have r1:=zcw ac (show md≠0 by exact Int.ne_of_gt (by assumption));have r2:=zca ac hm;have f7:=jby (i:=ac) (j:=md) hm;refine⟨(ac % md).toNat,by omega,[oN aa,oI num,oI ac,oI (num / 8 % 4)],by simp only[stpA,f1,ft];rfl,?_⟩;have t:DL.t2 gEq (f2 gMod (vR 1) (cI 4)) (cI 0) [oN aa,oI num,oI ac,oI (num / 8 % 4)]=oK true:=by
    simp only[stpA,f3,q];rfl
   rw[jel t,if_pos rfl,Int.toNat_of_nonneg r1];simp only[stpA,p1014,f4,f5,f6,g,f7];rfl
  ·refine⟨(num / 8 % 4).toNat,by omega,[oN aa,oI num,oI ac,oI (num / 8 % 4)],by simp only[stpA,f1,ft];rfl,?_⟩;have t:DL.t2 gEq (f2 gMod (vR 1) (cI 4)) (cI 0) [oN aa,oI num,oI ac,oI (num / 8 % 4)]=oK false:=by
    simp only[stpA,f3,beq_eq_false_iff_ne.mpr q];rfl
   rw[jel t,if_neg (by decide),Int.toNat_of_nonneg (by omega)];rfl
 obtain⟨v,hv,Y1,e1,e2⟩:=ik;refine⟨v,hv,?_⟩;unfold je0;rw[jry];show (jf8 [oN aa,oI num,oI ac,none]).b outD=_;unfold jf8;rw[ja8 e1,ja8 e2];have s:=jAr (v:=v) (by exact zdx (by assumption) (by decide));have m:=jx9 (x:=.int 0) (n:=aa.length) h1 (by exact zdx (by assumption) (by decide));have t1:jbq [.int 0]=some (.tup [.int 0]):=rfl;have b9:ja2 [D.str (St (dg v))]=some (.lst [sT (dg v)]):=rfl;simp only[stpA,s,jpc,jmr,m,t1,b9];unfold fm plF;rw[List.map_replicate];rfl
def jva{num:Int}(h1:1<=aa.length)(h4:aa.length<=4)(h0:0<=num):∃ (i:Nat) (hi:i<aa.length),jez [.lst (nmD aa),.int num]=oK (.tup [.lst (nmD [aa[i]]),fm (hotF aa.length i)]):=by
 have hp:(0:Int)<(aa.length:Nat):=Int.natCast_pos.mpr h1;have r1:=zcw num (show ((aa.length:Nat):Int)≠0 by exact Int.ne_of_gt (by assumption));have r2:=zca num hp;obtain⟨i,hi⟩:=Int.eq_ofNat_of_zero_le r1;have c0:i<aa.length:=by omega
 refine⟨i,c0,?_⟩;have f1:=jby (i:=num) (j:=(aa.length:Nat)) hp;rw[hi] at f1;have e:=jHv (c:=[oI (i:Nat)]) (fe:=jg2) (F:=fun k=>.int (if k=i then 1 else 0)) aa.length none (fun j hj=>by
  unfold jg2;have q:(((j:Nat):Int) == (i:Nat))=decide (j=i):=by
   by_cases z:j=i
   ·subst z;simp
   ·rw[decide_eq_false z];exact beq_eq_false_iff_ne.mpr (by omega)
  simp only[stpA,q,ju2]
  by_cases z:j=i
  ·rw[decide_eq_true z,if_pos z];rfl
  ·rw[decide_eq_false z,if_neg z];rfl)
 have ix:gIx (.lst (nmD aa)) (.int (i:Nat))=some (sT aa[i]):=by
  rw[ix_l];exact DL.atI_get (by simp[nmD,c0])
 unfold jez;rw[jgv];show (jf6 [oN aa,oI num,none]).b outD=_;unfold jf6;have e1:gSet 2 (f2 gMod (vR 1) (fL kLen (jac (vR 0) fNil))) [oN aa,oI num,none]=nX [oN aa,oI num,oI (i:Nat)]:=by
  simp only[stpA,jpc,jmr,f1];rfl
 rw[ja8 e1];have t0:(((aa.length:Nat):Int)).toNat=aa.length:=Int.toNat_natCast _;have b9:ja2 [D.str (St aa[i])]=some (.lst [sT aa[i]]):=rfl;simp only[stpA,jpc,jmr,ix,range1,t0,e,b9,jk9 (ds:=(List.range aa.length).map fun k=>D.int (if k=i then 1 else 0)) (by rw[zav,List.length_range];exact zdx (by assumption) (by decide))];unfold fm hotF;rw[List.map_map];rfl
end
end
section
def jdm{t:DSt->M Bool}{g1 g2:DSt->M Out}{Y:DSt}(h:t Y=some (.ok false)):gSeq (gIf t g1 gNx) g2 Y=g2 Y:=ja8 (by rw[jel h,if_neg (by decide)];rfl)
def jdn{t:DSt->M Bool}{fa:DSt->M D}{g2:DSt->M Out}{Y:DSt}{d:D}(h:t Y=some (.ok true))(hd:fa Y=some (.ok d)):gSeq (gIf t (gRet fa) gNx) g2 Y=oK (.rt d):=by
 rw[jo7,jel h,if_pos rfl,jta,hd,M.b_ok];rfl
def catT{ts us:LL}(h:ts.length+us.length<=100000):gCat (.lst (nmD ts)) (.lst (nmD us))=oN (ts++us):=by
 rw[jBc (by rw[jmr,jmr,sizeLine_eq];omega),jz4]
def catL{ts us:LL}{p q:Nat}(h1:ts.length<=p)(h2:us.length<=q)(h:p+q<=100000:=by decide):gCat (.lst (nmD ts)) (.lst (nmD us))=oN (ts++us):=catT (zdx (Nat.add_le_add h1 h2) h)
def la{a b:LL}{p q:Nat}(ha:a.length<=p)(hb:b.length<=q):(a++b).length<=p+q:=by rw[zcb];exact Nat.add_le_add ha hb
def lar{a b:LL}{p q:Nat}(ha:a.length<=p)(hb:b.length<=q):(a++b).length<=q+p:=by rw[Nat.add_comm];exact la ha hb
def l_op:ja2 [D.str "("]=oN [[40]]:=by rw[jlb];rfl
def l_cl:ja2 [D.str ")"]=oN [[41]]:=by rw[jnv];rfl
def l_mi:ja2 [D.str "-"]=oN [[45]]:=by rw[jla];rfl
def l_pl:ja2 [D.str "+"]=oN [[43]]:=by rw[jx1];rfl
def l_st:ja2 [D.str "*"]=oN [[42]]:=by rw[jqs];rfl
def l_cs:ja2 [D.str ")",D.str "*"]=oL (nmD [[41],[42]]):=by rw[jnv,jqs];rfl
def lt_2:Str.ofString "2"=St [50]:=by decide +kernel
def l_s2:ja2 [D.str "*",D.str "2",D.str "*"]=oL (nmD [[42],[50],[42]]):=by rw[jqs,lt_2];rfl
def fm1(f:Fm):gIx (fm f) (.int 1)=oI f.2:=by unfold fm;simp
def jD8{n:Nat}{h p:Fm}(h1:h.1.length=n)(h2:p.1.length=n):addF (addF h (mulF h (-1))) p=p:=by
 obtain⟨hs,a⟩:=h;obtain⟨ps,b⟩:=p;unfold addF mulF;dsimp only at *;refine Prod.ext ?_ (by show a+a*-1+b=b;omega);show List.map (fun p:Int×Int=>p.1+p.2) ((List.map (fun p:Int×Int=>p.1+p.2) (hs.zip (hs.map (·*-1)))).zip ps)=ps;subst h1
 clear a b
 induction hs generalizing ps with
 | nil=>simp at h2;subst h2;rfl
 | cons x hs ih =>
  cases ps with
  | nil=>simp at h2
  | cons y ps =>
   simp only[List.map_cons,List.zip_cons_cons];rw[ih ps (by simpa using h2)];congr 1;omega
section
variable {aa:LL}
def jr5{num ac:Int}(hN:∀ a∈aa,Nm a)(hd:aa.Nodup)(h1:1<=aa.length)(h4:aa.length<=4)(h0:0<=num) :
  ∃ ts f,jdw [.lst (nmD aa),.int num,.int ac]=oK (.tup [.lst (nmD ts),fm f])/\Tm aa ts f 400/\ts.length<=9:=by
 obtain⟨v,hv,e3⟩:=jvb (aa:=aa) (num:=num / 8) (ac:=ac) h1 h4 (Int.ediv_nonneg h0 (by decide));obtain⟨i,hi,e4⟩:=jva (aa:=aa) (num:=num / 64) h1 h4 (Int.ediv_nonneg h0 (by decide));have hn:aa.length<=1000:=zdx h4 (by decide);have FP:=jvo hn (v:=v) (by omega);have FH:=jCg hn hN hd hi;have F2:Fc aa [[50]] (plF aa.length 2) 110:=jvo hn (v:=2) (by decide);have pP:=job aa.length v;have p2:=job aa.length 2;generalize dg v=A at e3 FP;generalize aa[i]=B at e4 FH;have lP:(plF aa.length v).1.length=aa.length:=FP.len;have vP:(plF aa.length v).2=(v:Int):=rfl;have v2:(plF aa.length 2).2=2:=rfl;generalize plF aa.length v=P at e3 FP pP lP vP;generalize plF aa.length 2=T at F2 p2 v2;generalize hotF aa.length i=H at e4 FH;have k1:(110:Nat)<=KB:=by decide
 have bv:Bt 110 (v:Int):=by rw[<- vP];exact FP.bf.2
 have e6:=jhl (n:=(v:Int)) FH.bf bv (by decide) (by decide) (by rw[FH.len];exact hn);have e7:=jjc H P (by rw[FH.len];exact hn);have j3:Sm aa ([B]++[43]::[A]) (addF H P) 111:=(FH.tm k1).sm k1 |>.add (FP.tm k1) k1
 have FS:=Fc.paren j3;have BS:BF 111 (addF H P):=j3.bf;have b2v:Bt 115 (2*(v:Int)):=(Bt.mul (a:=3) (b:=110) (by unfold Bt;decide) bv).mono (by decide);have e8:=jhl (n:=2*(v:Int)) BS b2v (by decide) (by decide) (by rw[j3.len];exact hn);have m2v:jci (.int 2) (.int (v:Int))=oI (2*(v:Int)):=jdx (a:=3) (b:=110) (by unfold Bt;decide) bv;have f8:=jdj (i:=num) (j:=8) (by decide) (by decide);have jd:=jdj (i:=num) (j:=64) (by decide) (by decide);have kq:=jby (i:=num) (j:=8) (by decide);have iz:0<=num % 8:=zcw _ (by decide);have iw:num % 8<8:=zca _ (by decide);generalize num % 8=W at kq iz iw;have LH:H.1.length=aa.length:=FH.len;have a1:([A]:LL).length=1:=rfl;have o0:gIx (D.tup [.lst (nmD [A]),fm P]) (.int 0)=oN [A]:=at0 _ _;have o1:gIx (D.tup [.lst (nmD [A]),fm P]) (.int 1)=of P:=at1 _ _ _;have q0:gIx (D.tup [.lst (nmD [B]),fm H]) (.int 0)=oN [B]:=at0 _ _;have q1:gIx (D.tup [.lst (nmD [B]),fm H]) (.int 1)=of H:=at1 _ _ _;generalize D.lst (nmD aa)=N at e3 e4 |-
 generalize i6:D.tup [.lst (nmD [A]),fm P]=one at e3 o0 o1;generalize i5:D.tup [.lst (nmD [B]),fm H]=oth at e4 q0 q1;have s3:gSet 3 (jau je0 (jac (vR 0) (jac (f2 jev (vR 1) (cI 8)) (jac (vR 2) fNil)))) [some N,oI num,oI ac,none,none,none,none,none,none]=nX [some N,oI num,oI ac,some one,none,none,none,none,none]:=by
  simp only[stpA,f8,e3];rfl
 have s4:gSet 4 (jau jez (jac (vR 0) (jac (f2 jev (vR 1) (cI 64)) fNil))) [some N,oI num,oI ac,some one,none,none,none,none,none]=nX [some N,oI num,oI ac,some one,some oth,none,none,none,none]:=by
  simp only[stpA,jd,e4];rfl
 have s5:gSet 5 (f2 gIx (f2 gIx (vR 3) (cI 1)) (cI 1)) [some N,oI num,oI ac,some one,some oth,none,none,none,none]=nX [some N,oI num,oI ac,some one,some oth,oI v,none,none,none]:=by
  simp only[stpA,o1,fm1,vP];rfl
 have s6:gSet 6 (jau jbe (jac (f2 gIx (vR 4) (cI 1)) (jac (vR 5) fNil))) [some N,oI num,oI ac,some one,some oth,oI v,none,none,none]=nX [some N,oI num,oI ac,some one,some oth,oI v,of (mulF H v),none,none]:=by
  simp only[stpA,q1,e6];rfl
 have s7:gSet 7 (f2 gMod (vR 1) (cI 8)) [some N,oI num,oI ac,some one,some oth,oI v,of (mulF H v),none,none]=nX [some N,oI num,oI ac,some one,some oth,oI v,of (mulF H v),oI W,none]:=by
  simp only[stpA,kq];rfl
 unfold jdw;rw[jry]
 suffices h:∃ ts f,jfj [some N,oI num,oI ac,none,none,none,none,none,none]=oK (.rt (.tup [.lst (nmD ts),fm f]))/\Tm aa ts f 400/\ts.length<=9 by
  obtain⟨ts,f,e,h2,h3⟩:=h;refine⟨ts,f,?_,h2,h3⟩;show (jfj [some N,oI num,oI ac,none,none,none,none,none,none]).b outD=_;rw[e,M.b_ok];rfl
 unfold jfj;rw[ja8 s3,ja8 s4,ja8 s5,ja8 s6,ja8 s7];have tq:∀ (k:Int) (x y:Option D),DL.t2 gEq (vR 7) (cI k) [some N,oI num,oI ac,some one,some oth,oI v,x,oI W,y]=oK (W == k):=fun k x y=>by simp only[stpA];rfl
 have tl:∀ (x y:Option D),DL.t2 gLt (vR 7) (cI 3) [some N,oI num,oI ac,some one,some oth,oI v,x,oI W,y]=oK (decide (W<3)):=fun x y=>by simp only[stpA,lt_int];rfl
 have fz:=FH.tm k1;have j4:=FP.tm k1
 by_cases w0:W=0
 ·subst w0;refine⟨[A],P,?_,j4.mono (by decide),Nat.le_of_ble_eq_true rfl⟩;rw[jdn (tq 0 _ _) (show vR 3 _=oK one from rfl),i6]
 rw[jdm (by rw[tq,beq_eq_false_iff_ne.mpr w0])]
 by_cases w3:W<3
 ·refine⟨[B],H,?_,fz.mono (by decide),Nat.le_of_ble_eq_true rfl⟩;rw[jdn (by rw[tl,decide_eq_true w3]) (show vR 4 _=oK oth from rfl),i5]
 rw[jdm (by rw[tl,decide_eq_false w3])]
 by_cases w3':W=3
 ·subst w3';have t:=j4.mul FH k1 k1 (.inl pP);rw[jlp pP (by rw[lP,LH]),vP] at t;refine⟨[A]++[42]::[B],mulF H v,?_,t.mono (by decide),Nat.le_of_ble_eq_true rfl⟩;have c1:=catT (ts:=[A]) (us:=[[42]]) (Nat.le_of_ble_eq_true rfl);have c2:=catT (ts:=[A]++[[42]]) (us:=[B]) (Nat.le_of_ble_eq_true rfl);exact jdn (tq 3 _ _) (by simp only[stpA,o0,q0,l_st,c1,c2];rfl)
 rw[jdm (by rw[tq,beq_eq_false_iff_ne.mpr w3'])]
 by_cases w4:W=4
 ·subst w4;have t:=fz.mul FP k1 k1 (.inr pP);rw[jhy pP,vP] at t;refine⟨[B]++[42]::[A],mulF H v,?_,t.mono (by decide),Nat.le_of_ble_eq_true rfl⟩;have c1:=catT (ts:=[B]) (us:=[[42]]) (Nat.le_of_ble_eq_true rfl);have c2:=catT (ts:=[B]++[[42]]) (us:=[A]) (Nat.le_of_ble_eq_true rfl);exact jdn (tq 4 _ _) (by simp only[stpA,o0,q0,l_st,c1,c2];rfl)
 rw[jdm (by rw[tq,beq_eq_false_iff_ne.mpr w4])]
 by_cases w5:W=5
 ·subst w5;have s1:=((fz.sm k1).sub fz k1).add (j4.mono (by decide:110<=111)) (by decide);have pc:=jD8 (n:=aa.length) LH lP;rw[pc] at s1;have t:=((Fc.paren s1).tm (by decide)).mul FH (by decide) k1 (.inl pP);rw[jlp pP (by rw[lP,LH]),vP] at t;refine⟨[[40],B,[45],B,[43],A,[41],[42],B],mulF H v,?_,t.mono (by decide),Nat.le_of_ble_eq_true rfl⟩;have c1:=catT (ts:=[[40]]) (us:=[B]) (Nat.le_of_ble_eq_true rfl);have c2:=catT (ts:=[[40],B]) (us:=[[45]]) (Nat.le_of_ble_eq_true rfl);have c3:=catT (ts:=[[40],B,[45]]) (us:=[B]) (Nat.le_of_ble_eq_true rfl);have c4:=catT (ts:=[[40],B,[45],B]) (us:=[[43]]) (Nat.le_of_ble_eq_true rfl);have c5:=catT (ts:=[[40],B,[45],B,[43]]) (us:=[A]) (Nat.le_of_ble_eq_true rfl);have c6:=catT (ts:=[[40],B,[45],B,[43],A]) (us:=[[41],[42]]) (Nat.le_of_ble_eq_true rfl);have c7:=catT (ts:=[[40],B,[45],B,[43],A,[41],[42]]) (us:=[B]) (Nat.le_of_ble_eq_true rfl);simp only[List.cons_append,List.nil_append] at c1 c2 c3 c4 c5 c6 c7;exact jdn (tq 5 _ _) (by simp only[stpA,o0,q0,l_op,l_mi,l_pl,l_cs,c1,c2,c3,c4,c5,c6,c7];rfl)
 rw[jdm (by rw[tq,beq_eq_false_iff_ne.mpr w5])];have c1:=catT (ts:=[[40]]) (us:=[B]) (Nat.le_of_ble_eq_true rfl);have c2:=catT (ts:=[[40],B]) (us:=[[43]]) (Nat.le_of_ble_eq_true rfl);have c3:=catT (ts:=[[40],B,[43]]) (us:=[A]) (Nat.le_of_ble_eq_true rfl);have c4:=catT (ts:=[[40],B,[43],A]) (us:=[[41]]) (Nat.le_of_ble_eq_true rfl);have c5:=catT (ts:=[[40],B,[43],A,[41]]) (us:=[[42],[50],[42]]) (Nat.le_of_ble_eq_true rfl);have c6:=catT (ts:=[[40],B,[43],A,[41],[42],[50],[42]]) (us:=[A]) (Nat.le_of_ble_eq_true rfl);simp only[List.cons_append,List.nil_append] at c1 c2 c3 c4 c5 c6;have s8:gSet 8 (f2 gCat (f2 gCat (f2 gCat (f2 gCat (fL ja2 (jac (fC (.str "(")) fNil)) (f2 gIx (vR 4) (cI 0))) (fL ja2 (jac (cS "+") fNil))) (f2 gIx (vR 3) (cI 0))) (fL ja2 (jac (fC (.str ")")) fNil))) [some N,oI num,oI ac,some one,some oth,oI v,of (mulF H v),oI W,none]=nX [some N,oI num,oI ac,some one,some oth,oI v,of (mulF H v),oI W,oL (nmD [[40],B,[43],A,[41]])]:=by
  simp only[stpA,o0,q0,l_op,l_pl,l_cl,c1,c2,c3,c4];rfl
 have s9:gSet 6 (jau jb8 (jac (f2 gIx (vR 4) (cI 1)) (jac (f2 gIx (vR 3) (cI 1)) fNil))) [some N,oI num,oI ac,some one,some oth,oI v,of (mulF H v),oI W,oL (nmD [[40],B,[43],A,[41]])]=nX [some N,oI num,oI ac,some one,some oth,oI v,of (addF H P),oI W,oL (nmD [[40],B,[43],A,[41]])]:=by
  simp only[stpA,o1,q1,e7];rfl
 rw[ja8 s8,ja8 s9]
 by_cases w6:W=6
 ·subst w6;refine⟨[[40],B,[43],A,[41]],addF H P,?_,(FS.tm (by decide)).mono (by decide),Nat.le_of_ble_eq_true rfl⟩;exact jdn (tq 6 _ _) (by simp only[stpA];rfl)
 rw[jdm (by rw[tq,beq_eq_false_iff_ne.mpr w6])];have t:=((FS.tm (by decide)).mul F2 (by decide) k1 (.inr p2)).mul FP (by decide) k1 (.inr pP);rw[jhy pP,jhy p2,v2,vP,jkq] at t;refine⟨[[40],B,[43],A,[41],[42],[50],[42],A],mulF (addF H P) (2*v),?_,t.mono (by decide),Nat.le_of_ble_eq_true rfl⟩;simp only[stpA,o0,l_s2,c5,c6,m2v,e8];rfl
end
end
section
theorem js1:∀ (xs ys:List Int),(xs.zip ys).map (fun p=>p.1+p.2)=(ys.zip xs).map (fun p=>p.1+p.2)
 | [],ys=>by simp
 | _::_,[]=>by simp
 | x::xs,y::ys=>by
  rw[List.zip_cons_cons,List.zip_cons_cons,List.map_cons,List.map_cons,js1 xs ys,Int.add_comm]
def joq(a b:Fm):addF a b=addF b a:=Prod.ext (js1 _ _) (Int.add_comm _ _)
def k_op:D.lst [D.str "("]=.lst (nmD [[40]]):=by rw[jlb];rfl
def k_cl:D.lst [D.str ")"]=.lst (nmD [[41]]):=by rw[jnv];rfl
def k_mi:D.lst [D.str "-"]=.lst (nmD [[45]]):=by rw[jla];rfl
def k_pl:D.lst [D.str "+"]=.lst (nmD [[43]]):=by rw[jx1];rfl
def k_ss{a:List Nat}:D.lst [D.str "*",D.str (St a)]=.lst (nmD [[42],a]):=by rw[jqs];rfl
def k_as{a:List Nat}:D.lst [D.str (St a),D.str "*"]=.lst (nmD [a,[42]]):=by rw[jqs];rfl
section
variable {aa:LL}
def jxs{num ac dp:Int}{ts:LL}{f:Fm}{b:Nat}(hN:∀ a∈aa,Nm a)(hd:aa.Nodup)(h1:1<=aa.length)(h4:aa.length<=4)(h0:0<=num)(S:Sm aa ts f b)(hb:400<=b)(kg:b+111<=KB)(ht:ts.length<=1000) :
  ∃ ts' f' dp',jge [.tup [.lst (nmD ts),fm f,.int dp],.lst (nmD aa),.int num,.int ac]=oK (.tup [.lst (nmD ts'),fm f',.int dp'])/\Sm aa ts' f' (b+111)/\ts'.length<=ts.length+13:=by
 obtain⟨us,g,et,T,hu⟩:=jr5 (aa:=aa) (num:=num / 16) (ac:=ac) hN hd h1 h4 (Int.ediv_nonneg h0 (by decide));have hn:aa.length<=1000:=zdx h4 (by decide);have Tb:=T.mono hb;have cc:b<=KB:=zdx (Nat.le_add_right b 111) kg;have cw:∀ k,k<=111->b+k<=b+111:=fun k hk=>Nat.add_le_add_left hk b
 have cz:∀ k,k<=13->ts.length+k<=ts.length+13:=fun k hk=>Nat.add_le_add_left hk ts.length
 have da:b+110<=KB:=zdx (cw 110 (by decide)) kg;have kb:KB<=100000:=by decide
 have lf:=S.len;have lg:=T.len;have IN:Fc aa ([40]::ts++[[41]]) f b:=Fc.paren S;have ks:=IN.tm cc;have hm0:0<=num / 16 % 4:=zcw _ (by decide);have hm4:num / 16 % 4<4:=zca _ (by decide);have kr:=jdj (i:=num) (j:=16) (by decide) (by decide);have m4:=jby (i:=num / 16) (j:=4) (by decide);have j6:=jby (i:=num) (j:=16) (by decide);obtain⟨v,hv⟩:=Int.eq_ofNat_of_zero_le hm0;rw[hv] at m4;have j8:v<4:=by omega
 have FV:=jvo hn (v:=v) (Nat.lt_trans j8 (by decide));have sv:=jAr (v:=v) (Nat.lt_trans j8 (by decide));have pV:=job aa.length v;have vV:(plF aa.length v).2=(v:Int):=rfl;have lV:(plF aa.length v).1.length=aa.length:=FV.len;generalize dg v=A at FV sv;generalize plF aa.length v=P at FV pV vV lV;have bv:Bt 110 (v:Int):=by rw[<- vV];exact FV.bf.2
 have bm:Bt 110 (-1):=by unfold Bt;decide
 have x1:=jjc f g (by rw[lf];exact hn);have x2:=jhl (n:=-1) T.bf bm (by decide) (by decide) (by rw[lg];exact hn);have x3:=jjc f (mulF g (-1)) (by rw[lf];exact hn);have x4:=jhl (n:=(v:Int)) S.bf bv (zdx cc kb) (by decide) (by rw[lf];exact hn);have x5:=jhl (n:=-1) S.bf bm (zdx cc kb) (by decide) (by rw[lf];exact hn);have x6:=jjc g (mulF f (-1)) (by rw[lg];exact hn);have sb:gSub (.int 0) (.int 1)=oI (-1):=rfl;have iz:0<=num % 16:=zcw _ (by decide);have iw:num % 16<16:=zca _ (by decide);generalize num % 16=W at j6 iz iw;generalize D.lst (nmD aa)=N at et |-
 have df:(110:Nat)<=KB:=by decide
 generalize htr:D.tup [.lst (nmD ts),fm f,.int dp]=tr
 let tl (a b c d:Option D):DSt:=[some tr,some N,oI num,oI ac,oN ts,of f,oI dp,a,b,c,d,none]
 have s1:gAsg (juv 4 5 6) (vR 0) [some tr,some N,oI num,oI ac,none,none,none,none,none,none,none,none]=nX [some tr,some N,oI num,oI ac,oN ts,of f,oI dp,none,none,none,none,none]:=by
  subst htr;rfl
 have s2:gAsg (je7 7 8) (jau jdw (jac (vR 1) (jac (f2 jev (vR 2) (cI 16)) (jac (vR 3) fNil)))) [some tr,some N,oI num,oI ac,oN ts,of f,oI dp,none,none,none,none,none]=nX [some tr,some N,oI num,oI ac,oN ts,of f,oI dp,oN us,of g,none,none,none]:=by
  rw[jEh];simp only[stpA,kr,et];rfl
 have s3:gSet 9 (f2 gMod (vR 2) (cI 16)) [some tr,some N,oI num,oI ac,oN ts,of f,oI dp,oN us,of g,none,none,none]=nX [some tr,some N,oI num,oI ac,oN ts,of f,oI dp,oN us,of g,oI W,none,none]:=by
  simp only[stpA,j6];rfl
 have s4:gSet 10 (f2 gMod (f2 jev (vR 2) (cI 16)) (cI 4)) [some tr,some N,oI num,oI ac,oN ts,of f,oI dp,oN us,of g,oI W,none,none]=nX [some tr,some N,oI num,oI ac,oN ts,of f,oI dp,oN us,of g,oI W,oI v,none]:=by
  simp only[stpA,kr,m4];rfl
 unfold jge
 suffices h:∃ ts' f' dp',jex [some tr,some N,oI num,oI ac,none,none,none,none,none,none,none,none]=oK (.rt (.tup [.lst (nmD ts'),fm f',.int dp']))/\Sm aa ts' f' (b+111)/\ts'.length<=ts.length+13 by
  obtain⟨ts',f',dp',e,h2,h3⟩:=h;refine⟨ts',f',dp',?_,h2,h3⟩;rw[jzs];show (jex [some tr,some N,oI num,oI ac,none,none,none,none,none,none,none,none]).b outD=_;rw[e,M.b_ok];rfl
 unfold jex;rw[ja8 s1,ja8 s2,ja8 s3,ja8 s4];have tq:∀ (k:Int) (y:Option D),DL.t2 gEq (vR 9) (cI k) [some tr,some N,oI num,oI ac,oN ts,of f,oI dp,oN us,of g,oI W,oI v,y]=oK (W == k):=fun k y=>by simp only[stpA];rfl
 have j5:∀ (y:Option D),DL.t2 gLt (vR 9) (cI 9) [some tr,some N,oI num,oI ac,oN ts,of f,oI dp,oN us,of g,oI W,oI v,y]=oK (decide (W<9)):=fun y=>by simp only[stpA,lt_int];rfl
 have eh:DL.tOr (DL.t2 gLt (vR 9) (cI 6)) (DL.t2 gGt (vR 6) (cI 8)) [some tr,some N,oI num,oI ac,oN ts,of f,oI dp,oN us,of g,oI W,oI v,none]=oK (decide (W<6) || decide (8<dp)):=by
  simp only[stpA,lt_int,gt_int]
  by_cases q:W<6
  ·rw[decide_eq_true q];rfl
  ·rw[decide_eq_false q];rfl
 have c1:=fun z=>catL (us:=[z]) ht (zac 1)
 have c2:=fun z=>catL (ts:=ts++[z]) (la ht (zac 1)) hu
 by_cases w:(decide (W<6) || decide (8<dp))=true
 ·refine⟨ts++[43]::us,addF f g,dp,?_,(S.add Tb cc).mono (cw 1 (by decide)),zdx (la (zac _) (Nat.succ_le_succ hu)) (cz 10 (by decide))⟩;rw[w] at eh;exact jdn eh (by simp only[stpA,k_pl,c1,c2,x1,List.append_assoc];rfl)
 rw[Bool.not_eq_true] at w;rw[w] at eh;rw[jdm eh]
 by_cases w9:W<9
 ·refine⟨ts++[45]::us,addF f (mulF g (-1)),dp,?_,(S.sub Tb cc).mono (cw 1 (by decide)),zdx (la (zac _) (Nat.succ_le_succ hu)) (cz 10 (by decide))⟩;exact jdn (by rw[j5,decide_eq_true w9]) (by simp only[stpA,k_mi,c1,c2,sb,x2,x3,List.append_assoc];rfl)
 rw[jdm (by rw[j5,decide_eq_false w9])];have d1:=catL (ts:=[[40]]) (us:=ts) (zac 1) ht;have d2:=catL (ts:=[[40]]++ts) (us:=[[41]]) (la (zac 1) ht) (zac 1)
 let I:=[40]::ts++[[41]]
 have hI:I.length=ts.length+2:=by show ([40]::ts++[[41]]).length=_;simp
 have kj:[[40]]++ts++[[41]]=I:=rfl;rw[kj] at d2;have s11:gSet 11 (f2 gCat (f2 gCat (fL ja2 (jac (fC (.str "(")) fNil)) (vR 4)) (fL ja2 (jac (fC (.str ")")) fNil))) [some tr,some N,oI num,oI ac,oN ts,of f,oI dp,oN us,of g,oI W,oI v,none]=nX [some tr,some N,oI num,oI ac,oN ts,of f,oI dp,oN us,of g,oI W,oI v,oN I]:=by
  rw[jxk,e_2,e_2];simp only[stpA,k_op,k_cl];rw[d1,M.o_some,M.b_p,d2];rfl
 rw[ja8 s11];have kh:Fc aa I f b:=IN;have ce:Tm aa I f b:=ks
 clear IN ks kj d1 d2
 generalize I=Jq at kh ce hI |-
 have db:Jq.length<=ts.length+2:=Nat.le_of_eq hI;have hJ:Jq.length<=1002:=zdx db (Nat.add_le_add_right ht 2)
 by_cases w':W=9
 ·subst w';have t:=ce.mul FV cc df (.inr pV);rw[jhy pV,vV] at t;refine⟨Jq++[42]::[A],mulF f v,dp+1,?_,(t.sm da).mono (cw 110 (by decide)),zdx (la (b:=[[42],A]) db (zac 2)) (cz 4 (by decide))⟩;have q1:=catL (ts:=Jq) (us:=[[42],A]) hJ (zac 2);exact jdn (tq 9 _) (by simp only[stpA,sv,k_ss,q1,x4];rfl)
 rw[jdm (by rw[tq,beq_eq_false_iff_ne.mpr w'])]
 by_cases w':W=10
 ·subst w';have t:=(FV.tm df).mul kh df cc (.inl pV);rw[jlp pV (by rw[lV,lf]),vV,Nat.add_comm] at t;refine⟨[A]++[42]::Jq,mulF f v,dp+1,?_,(t.sm da).mono (cw 110 (by decide)),zdx (lar (a:=[A]) (zac 1) (Nat.succ_le_succ db)) (cz 4 (by decide))⟩;have q1:=catL (ts:=[A,[42]]) (us:=Jq) (zac 2) hJ;exact jdn (tq 10 _) (by simp only[stpA,sv,k_as,q1,x4];rfl)
 rw[jdm (by rw[tq,beq_eq_false_iff_ne.mpr w'])]
 by_cases w':W=11
 ·subst w';refine⟨[45]::Jq,mulF f (-1),dp+1,?_,(ce.neg cc).mono (cw 0 (by decide)),zdx (Nat.succ_le_succ db) (cz 3 (by decide))⟩;have q1:=catL (ts:=[[45]]) (us:=Jq) (zac 1) hJ;exact jdn (tq 11 _) (by simp only[stpA,k_mi,q1,sb,x5];rfl)
 rw[jdm (by rw[tq,beq_eq_false_iff_ne.mpr w'])]
 by_cases w':W=12
 ·subst w';have t:=(Tb.neg cc).add ce cc;rw[joq] at t;refine⟨([45]::us)++[43]::Jq,addF f (mulF g (-1)),dp+1,?_,t.mono (cw 1 (by decide)),zdx (lar (a:=[45]::us) (Nat.succ_le_succ hu) (Nat.succ_le_succ db)) (cz 13 (by decide))⟩;have q1:=catL (ts:=[[45]]) (us:=us) (zac 1) hu;have q2:=catL (ts:=[[45]]++us) (us:=[[43]]) (la (zac 1) hu) (zac 1);have q3:=catL (ts:=[[45]]++us++[[43]]) (us:=Jq) (la (la (zac 1) hu) (zac 1)) hJ;simp only[List.cons_append,List.nil_append,List.append_assoc] at q1 q2 q3;exact jdn (tq 12 _) (by simp only[stpA,k_mi,k_pl,q1,q2,q3,sb,x2,x3];rfl)
 rw[jdm (by rw[tq,beq_eq_false_iff_ne.mpr w'])]
 by_cases w':W=13
 ·subst w';have t:=(Tb.sm cc).sub ce cc;refine⟨us++[45]::Jq,addF g (mulF f (-1)),dp+1,?_,t.mono (cw 1 (by decide)),zdx (lar hu (Nat.succ_le_succ db)) (cz 12 (by decide))⟩;have q1:=catL (ts:=us) (us:=[[45]]) hu (zac 1);have q2:=catL (ts:=us++[[45]]) (us:=Jq) (la hu (zac 1)) hJ;simp only[List.cons_append,List.nil_append,List.append_assoc] at q1 q2;exact jdn (tq 13 _) (by simp only[stpA,k_mi,q1,q2,sb,x5,x6];rfl)
 rw[jdm (by rw[tq,beq_eq_false_iff_ne.mpr w'])]
 by_cases w':W=14
 ·subst w';refine⟨Jq,f,dp+1,?_,(ce.sm cc).mono (cw 0 (by decide)),zdx db (cz 2 (by decide))⟩;exact jdn (tq 14 _) (by simp only[stpA];rfl)
 rw[jdm (by rw[tq,beq_eq_false_iff_ne.mpr w'])];have t:=(Tb.sm cc).add ce cc;rw[joq] at t;refine⟨us++[43]::Jq,addF f g,dp+1,?_,t.mono (cw 1 (by decide)),zdx (lar hu (Nat.succ_le_succ db)) (cz 12 (by decide))⟩;have q1:=catL (ts:=us) (us:=[[43]]) hu (zac 1);have q2:=catL (ts:=us++[[43]]) (us:=Jq) (la hu (zac 1)) hJ;simp only[List.cons_append,List.nil_append,List.append_assoc] at q1 q2;simp only[stpA,k_pl,q1,q2,x1];rfl
end
end
section
section
variable {aa:LL}
def jDo{ns:List Int}(hN:∀ a∈aa,Nm a)(hd:aa.Nodup)(h1:1<=aa.length)(h4:aa.length<=4) :
  ∃ ts f dp b,jhw [scr ns,.lst (nmD aa),.int 2,.int 32]=oK (.tup [.lst (nmD ts),fm f,.int dp])/\Sm aa ts f b/\ts.length<=480/\b<=10000:=by
 have w1:=w_at (ns:=ns) (k:=1) (by decide) (by decide);generalize atF ns 1=x1 at w1;have w2:=jrg (n:=x1) (p:=3) (by decide) (by decide);have r2:=jwd (n:=x1) (p:=3) (by decide) (by decide);generalize mixF x1 3=x2 at w2 r2;obtain⟨us,g,et,T,hu⟩:=jr5 (aa:=aa) (num:=x2) (ac:=x1) hN hd h1 h4 r2.1
 let ms:=cutL ns (some 2) (some 32)
 have hms:ms.length<=36:=by
  show (cutL ns (some 2) (some 32)).length<=36;unfold cutL;rw[List.length_take];have:HT.sIx ns.length 0 (some 2)=min 2 ns.length:=rfl;have:HT.sIx ns.length ns.length (some 32)=min 32 ns.length:=rfl;omega
 have dr:cutD (scr ns) (some 2) (some 32)=oL (ms.map .int):=by
  show some (D.lst (cutL (ns.map D.int) (some 2) (some 32)))=_;show some (D.lst (cutL (ns.map D.int) (some 2) (some 32)))=some (D.lst ((cutL ns (some 2) (some 32)).map D.int));unfold cutL;rw[zav,List.map_take,List.map_drop]
 generalize ms=de at hms dr;obtain⟨Y',e,ts,f,dp,z,hδ,S,hl⟩:=jk3 (g:=jf0) (tg:=DL.gName 7) (de.map D.int) (fun j Y=>∃ ts f dp z,Y=[some (scr ns),oN aa,oI 2,oI 32,oN us,of g,some (.tup [.lst (nmD ts),fm f,.int dp]),z]/\Sm aa ts f (400+111*j)/\ts.length<=9+13*j) (fun j hj Y ⟨ts,f,dp,z,hδ,S,hl⟩=>by
  subst hδ;have em:j<de.length:=by simpa using hj
  have w3:=jrg (n:=de[j]) (p:=4) (by decide) (by decide);have r3:=jwd (n:=de[j]) (p:=4) (by decide) (by decide);have hg:(de.map D.int)[j]=.int de[j]:=by simp
  rw[hg];generalize de[j]=y at w3 r3;generalize mixF y 4=x4 at w3 r3;have kb:KB=90000:=rfl;obtain⟨ts',f',dp',eg,S',hl'⟩:=jxs (ac:=y) (dp:=dp) hN hd h1 h4 r3.1 S (by exact Nat.le_add_right _ _) (by omega) (by omega);refine⟨_,rfl,[some (scr ns),oN aa,oI 2,oI 32,oN us,of g,some (.tup [.lst (nmD ts'),fm f',.int dp']),oI y],.inl ?_,ts',f',dp',_,rfl,S'.mono (by exact zac _),by omega⟩;unfold jf0;simp only[stpA,w3,eg];rfl) [some (scr ns),oN aa,oI 2,oI 32,oN us,of g,some (.tup [.lst (nmD us),fm g,.int 1]),none] ⟨us,g,1,none,rfl,(T.sm (by decide)),by assumption⟩
 subst hδ;rw[zav] at S hl;refine⟨ts,f,dp,_,?_,S,by omega,by omega⟩;have s1:gAsg (je7 4 5) (jau jdw (jac (vR 1) (jac (jau jb6 (jac (jau jda (jac (vR 0) (jac (cI 1) fNil))) (jac (cI 3) fNil))) (jac (jau jda (jac (vR 0) (jac (cI 1) fNil))) fNil)))) [some (scr ns),oN aa,oI 2,oI 32,none,none,none,none]=nX [some (scr ns),oN aa,oI 2,oI 32,oN us,of g,none,none]:=by
  rw[jEh];simp only[stpA,w1,w2,et];rfl
 have s2:gSet 6 (fL jbq (jac (vR 4) (jac (vR 5) (jac (cI 1) fNil)))) [some (scr ns),oN aa,oI 2,oI 32,oN us,of g,none,none]=nX [some (scr ns),oN aa,oI 2,oI 32,oN us,of g,some (.tup [.lst (nmD us),fm g,.int 1]),none]:=by
  simp only[stpA];rfl
 have s3:gFor (ji8 (fSl (vR 0) (jcj (vR 2)) (jcj (vR 3)))) (DL.gName 7) jf0 [some (scr ns),oN aa,oI 2,oI 32,oN us,of g,some (.tup [.lst (nmD us),fm g,.int 1]),none]=nX [some (scr ns),oN aa,oI 2,oI 32,oN us,of g,some (.tup [.lst (nmD ts),fm f,.int dp]),z]:=by
  have sl:=jrf (fa:=vR 0) (fl:=jcj (vR 2)) (fh:=jcj (vR 3)) (Y:=[some (scr ns),oN aa,oI 2,oI 32,oN us,of g,some (.tup [.lst (nmD us),fm g,.int 1]),none]) rfl rfl rfl dr;rw[jBl,jzr,sl,M.b_p,jGq,M.o_some,M.b_p,e]
 unfold jhw;rw[jzs];show (jhr [some (scr ns),oN aa,oI 2,oI 32,none,none,none,none]).b outD=_;unfold jhr;rw[ja8 s1,ja8 s2,ja8 s3];rfl
def jAp{n:Int}(h:n=0\/n=1\/n=2):jci (.str " ") (.int n)=some (sT (List.replicate n.toNat 32)):=by
 have e:jci (.str " ") (.int n)=oS (Txt.mul (Str.ofString " ") n):=by
  show (if (Str.ofString " ").length<=4096/\-4096<=n/\n<=4096 then some (D.str (Txt.mul (Str.ofString " ") n)) else none)=_;rw[if_pos ⟨by decide +kernel,by omega,by omega⟩]
 rw[e];rcases h with rfl|rfl|rfl<;>congr 2<;>decide +kernel
def jt0{ts:LL}{num:Int}(hl:ts.length<=490)(ht:∀ a∈ts,a.length<=14)(hR:RDs ts)(h0:0<=num) :
  ∃ a:List Nat,jem [.lst (nmD ts),.int num]=oK (sT a)/\DR 14 a/\a.length<=8000:=by
 obtain⟨Y',e,ao,z,hδ,h1,h2⟩:=jk3 (g:=jd1) (tg:=DL.gName 3) (jcr 0 ts.length) (fun j Y=>∃ (ao:List (Nat×List Nat)) (z:Option D),Y=[oN ts,oI num,some (sT (rp ao)),z]/\ao.map (·.2)=ts.take j/\(rp ao).length<=16*j) (fun j hj Y ⟨ao,z,hδ,h1,h2⟩=>by
  subst hδ;have em:j<ts.length:=by simpa using hj
  have w:=jrg (n:=num) (p:=0+(j:Nat)) (by exact Int.natCast_nonneg _) (by omega);generalize mixF num (0+(j:Nat))=mx at w;have m6:=jby (i:=mx) (j:=6) (by decide);have r1:=zcw mx (show (6:Int)≠0 by decide);have r2:=zca mx (show (0:Int)<6 by decide);obtain⟨n,hn,g⟩:∃ n:Int,(n=0\/n=1\/n=2)/\gIx (.lst [.int 0,.int 0,.int 1,.int 1,.int 0,.int 2]) (.int (mx % 6))=oI n:=by
   generalize mx % 6=q at r1 r2;have:q=0\/q=1\/q=2\/q=3\/q=4\/q=5:=by omega
   rcases this with rfl|rfl|rfl|rfl|rfl|rfl
   ·exact⟨0,.inl rfl,rfl⟩
   ·exact⟨0,.inl rfl,rfl⟩
   ·exact⟨1,.inr (.inl rfl),rfl⟩
   ·exact⟨1,.inr (.inl rfl),rfl⟩
   ·exact⟨0,.inl rfl,rfl⟩
   ·exact⟨2,.inr (.inr rfl),rfl⟩
  have sm:=jAp hn;have i8:n.toNat<=2:=by rcases hn with rfl|rfl|rfl<;>decide
  have lr:(rp ao).length<=7840:=by omega
  generalize n.toNat=k at sm i8;have ha:=ht _ (List.getElem_mem em);have ix:gIx (.lst (nmD ts)) (.int (0+(j:Nat)))=some (sT ts[j]):=by
   rw[ix_l,Int.zero_add];exact DL.atI_get (by simp[nmD,em])
  have c1:=ji0 (a:=rp ao) (b:=List.replicate k 32) (by rw[List.length_replicate];exact zdx (Nat.add_le_add lr i8) (by decide));have c2:=ji0 (a:=rp ao++List.replicate k 32) (b:=ts[j]) (by rw[zcb,List.length_replicate];exact zdx (Nat.add_le_add (Nat.add_le_add lr i8) ha) (by decide));have l6:ja2 [D.int 0,D.int 0,D.int 1,D.int 1,D.int 0,D.int 2]=some (.lst [.int 0,.int 0,.int 1,.int 1,.int 0,.int 2]):=rfl;refine⟨[oN ts,oI num,some (sT (rp ao)),oI (0+(j:Nat))],by rw[jj0];rfl,[oN ts,oI num,some (sT (rp (ao++[(k,ts[j])]))),oI (0+(j:Nat))],.inl ?_,ao++[(k,ts[j])],_,rfl,?_,?_⟩
  ·unfold jd1;have:rp (ao++[(k,ts[j])])=rp ao++List.replicate k 32++ts[j]:=by rw[jwh];simp[rp]
   rw[this];generalize ts[j]=tj at ix c2;simp only[stpA,w,m6,l6,g,sm,c1,ix,c2];rfl
  ·rw[List.map_append,h1,List.take_succ,zax em];rfl
  ·rw[jwh];simp[rp];omega) [oN ts,oI num,some (sT (rp [])),none] ⟨[],none,rfl,by simp,by simp[rp]⟩
 subst hδ;rw[jj1] at h1 h2;rw[List.take_length] at h1;have m7:=jby (i:=num) (j:=7) (by decide);have d5:=jdj (i:=num % 7) (j:=5) (by decide) (by decide);have r1:=zcw num (show (7:Int)≠0 by decide);have r2:=zca num (show (0:Int)<7 by decide);have hp:num % 7 / 5=0\/num % 7 / 5=1\/num % 7 / 5=2:=by omega
 have sm:=jAp hp;have hp2:(num % 7 / 5).toNat<=2:=by rcases hp with h|h|h<;>rw[h]<;>decide
 have lr:(rp ao).length+(num % 7 / 5).toNat<=7842:=by omega
 refine⟨rp ao++List.replicate (num % 7 / 5).toNat 32,?_,?_,by rw[zcb,List.length_replicate];exact zdx lr (by decide)⟩
 rotate_left
 ·have en:=hR ao h1
  cases (num % 7 / 5).toNat with
  | zero=>rw[List.replicate_zero,List.append_nil];exact en
  | succ k=>rw[List.replicate_succ];exact DR.sep rfl en (by have:=DR.blanks (DR.nil 14) k;rw[List.append_nil] at this;exact this)
 have c1:=ji0 (a:=rp ao) (b:=List.replicate (num % 7 / 5).toNat 32) (by rw[List.length_replicate];exact zdx lr (by decide));unfold jem;rw[jgv];show (jek [oN ts,oI num,none,none]).b outD=_;unfold jek;have s1:gSet 2 (cS "") [oN ts,oI num,none,none]=nX [oN ts,oI num,some (sT (rp [])),none]:=rfl;have s2:gFor (jha jce (jac (fL kLen (jac (vR 0) fNil)) fNil)) (DL.gName 3) jd1 [oN ts,oI num,some (sT (rp [])),none]=nX [oN ts,oI num,some (sT (rp ao)),z]:=by
  have t0:(((ts.length:Nat):Int)).toNat=ts.length:=Int.toNat_natCast _;simp only[stpA,jpc,jmr,range1,t0];exact e
 rw[ja8 s1,ja8 s2];simp only[stpA,m7,d5,sm,c1];rfl
end
end
section
def jy6(x:Str)(i:Nat):Txt.slice x (some (i:Nat)) none=Txt.slice x (some ((min i x.length:Nat):Int)) (some (x.length:Nat)):=by
 unfold Txt.slice;have:Builtin.Str.strSliceIndices (some (i:Nat)) none 1 x.length=Builtin.Str.strSliceIndices (some ((min i x.length:Nat):Int)) (some (x.length:Nat)) 1 x.length:=by
  unfold Builtin.Str.strSliceIndices sliceRange;have z1:¬ ((i:Int)<0):=by omega
  have z2:¬ (((min i x.length:Nat):Int)<0):=by omega
  have z3:¬ (((x.length:Nat):Int)<0):=by omega
  have z4:max 0 (min (x.length:Int) (x.length:Int))=(x.length:Int):=by omega
  have z5:max 0 (min ((min i x.length:Nat):Int) (x.length:Int))=max 0 (min (i:Int) (x.length:Int)):=by omega
  simp[z1,z2,z3,z4,z5]
 rw[this]
section
variable {a:List Nat}{i:Nat}
def jEb(ha:a.length<=40000)(hi:i<=a.length):cutD (sT a) none (some (i:Nat))=some (sT (a.take i)):=by
 have h:At (St a) [] (a.take i++a.drop i):=⟨by rw[List.take_append_drop];simp[St],by rw[je6];omega⟩
 have c:=h.cut;rw[List.length_nil,Nat.zero_add,List.length_take,Nat.min_eq_left hi] at c;show (if (St a).length<=sizeLine then some (D.str (Txt.slice (St a) none (some (i:Nat)))) else none)=_;rw[jmx];exact c
def jrr(ha:a.length<=40000):cutD (sT a) (some (i:Nat)) none=some (sT (a.drop i)):=by
 let j:=min i a.length
 have h:At (St a) (a.take j) (a.drop j++[]):=⟨by rw[List.append_nil,List.take_append_drop];simp[St],by rw[je6];omega⟩
 have c:=h.cut;have lj:(a.take j).length=j:=by rw[List.length_take];show min (min i a.length) a.length=min i a.length;omega
 rw[lj,List.length_drop,show j+(a.length-j)=a.length by show min i a.length+(a.length-min i a.length)=a.length;omega] at c;have dj:a.drop j=a.drop i:=by
  show a.drop (min i a.length)=a.drop i
  by_cases q:i<=a.length
  ·rw[Nat.min_eq_left q]
  ·rw[Nat.min_eq_right (by omega),List.drop_length,List.drop_of_length_le (by omega)]
 rw[dj] at c;show (if (St a).length<=sizeLine then some (D.str (Txt.slice (St a) (some (i:Nat)) none)) else none)=_;rw[jy6,je6];exact c
end
def DR.take{N:Nat}{a:List Nat}(h:DR N a)(i:Nat):DR N (a.take i):=fun u r v e hr=>h u r (v++a.drop i) (by rw[<- List.append_assoc r,<- List.append_assoc,<- e,List.take_append_drop]) hr
def DR.drop{N:Nat}{a:List Nat}(h:DR N a)(i:Nat):DR N (a.drop i):=h.tail (u:=a.take i) (List.take_append_drop i a).symm
def jz6{L:List Nat}{i:Int}(h0:0<=i)(hi:i<(L.length:Nat))(hl:L.length<=40000):∃ c:Nat,gIx (sT L) (.int i)=some (sT [c]):=by
 obtain⟨j,rfl⟩:=Int.eq_ofNat_of_zero_le h0;have hj:j<L.length:=by omega
 refine⟨L[j],?_⟩;show (if (St L).length<=sizeLine then (L2.atI (St L).cps.toList (j:Int)).map fun c=>D.str ⟨#[c]⟩ else none)=_;have e:(St L).cps.toList=L:=by unfold St;simp
 rw[if_pos (by rw[je6,sizeLine_eq];omega),e,DL.atI_get (v:=L[j]) (by simp[hj])];rfl
def l1:List Nat:=[32,33,34,35,36,38,39,40,41,42,43,44,45,46,47]++List.range' 48 49
def l2:List Nat:=List.range' 97 30
def jIw:(Str.ofString " !\"#$&'()*+,-./0123456789:;<=>?@ABCDEFGHIJKLMNOPQRSTUVWXYZ[\\]^_`")=St l1:=by decide +kernel
def jIx:(Str.ofString "abcdefghijklmnopqrstuvwxyz{|}~")=St l2:=by decide +kernel
def l3:List Nat:=[97,98,48,49,57,43,45,42,40,41,32]
def jIy:(Str.ofString "ab019+-*() ")=St l3:=by decide +kernel
def bn(a:List Nat)(n ac:Int)(s m i w:Option D):DSt:=[some (sT a),oI n,oI ac,s,m,i,w]
def jA5{a:List Nat}{n ac:Int}(h0:0<=n)(hD:DR 14 a)(hl:a.length<=8000):∃ b,jhu [sT a,.int n,.int ac]=oK (sT b)/\DR 40 b/\b.length<=8001:=by
 have ll:(l1++l2).length=94:=by decide
 have m94:=jby (i:=ac) (j:=94) (by decide);have r94:=zcw ac (show (94:Int)≠0 by decide);have q94:=zca ac (show (0:Int)<94 by decide);obtain⟨c1,e1⟩:=jz6 (L:=l1++l2) r94 (by rw[ll];exact q94) (by rw[ll];decide);have f4:=jdj (i:=n) (j:=4) (by decide) (by decide);have mf:=jby (i:=n) (j:=4) (by decide);have m11:=jby (i:=n / 4) (j:=11) (by decide);obtain⟨c2,e2⟩:=jz6 (L:=l3) (i:=n / 4 % 11) (zcw _ (by decide)) (zca _ (by decide)) (by decide);have jd:=jdj (i:=n) (j:=64) (by decide) (by decide);have fw:=jdj (i:=n) (j:=131072) (by decide) (by decide);have mw:=jby (i:=n / 131072) (j:=4) (by decide);have mi:=jby (i:=n / 64) (j:=((a.length:Nat):Int)+1) (by omega);have ri:=zcw (n / 64) (show ((a.length:Nat):Int)+1≠0 by omega);have qi:=zca (n / 64) (show (0:Int)<((a.length:Nat):Int)+1 by omega);obtain⟨i,hi⟩:=Int.eq_ofNat_of_zero_le ri;rw[hi] at mi qi;have j9:i<=a.length:=by omega
 have rw4:=zcw (n / 131072) (show (4:Int)≠0 by decide);have qw4:=zca (n / 131072) (show (0:Int)<4 by decide);generalize n / 131072 % 4=W at mw rw4 qw4;have ln:kLen [sT a]=oI (a.length:Nat):=by rw[len_str (by rw[je6];omega),je6]
 have d8:=ji0 (a:=l1) (b:=l2) (by decide);unfold jhu;rw[jry];show ∃ b,(jhn (bn a n ac none none none none)).b outD=_/\_;unfold jhn;rw[ja8 (Y':=bn a n ac (some (sT l1)) none none none) (by rw[jIw];rfl)];rw[ja8 (Y':=bn a n ac (some (sT (l1++l2))) none none none) (by rw[jIx];unfold bn;simp only[stpA,d8];rfl)];rw[ja8 (Y':=bn a n ac (some (sT (l1++l2))) (some (sT [c1])) none none) (by unfold bn;simp only[stpA,m94,e1];rfl)];obtain⟨c,ec⟩:∃ c:Nat,gIf (t2 gGt (f2 gMod (vR 1) (cI 4)) (cI 0)) (gSet 4 (f2 gIx (fC (.str "ab019+-*() ")) (f2 gMod (f2 jev (vR 1) (cI 4)) (cI 11)))) gNx (bn a n ac (some (sT (l1++l2))) (some (sT [c1])) none none)=nX (bn a n ac (some (sT (l1++l2))) (some (sT [c])) none none):=by
  have t:t2 gGt (f2 gMod (vR 1) (cI 4)) (cI 0) (bn a n ac (some (sT (l1++l2))) (some (sT [c1])) none none)=oK (decide (n % 4 > 0)):=by unfold bn;simp only[stpA,mf,gt_int];rfl
  cases q:decide (n % 4 > 0) with
  | true =>
   rw[q] at t;refine⟨c2,?_⟩;rw[jel t,if_pos rfl,jIy];unfold bn;simp only[stpA,f4,m11,e2];rfl
  | false =>
   rw[q] at t;exact⟨c1,by rw[jel t];rfl⟩
 rw[ja8 ec]
 let Y:DSt:=bn a n ac (some (sT (l1++l2))) (some (sT [c])) (oI (i:Nat)) (oI W)
 rw[ja8 (Y':=bn a n ac (some (sT (l1++l2))) (some (sT [c])) (oI (i:Nat)) none) (by unfold bn;simp only[stpA,jd,ln,mi];rfl)];rw[ja8 (Y':=Y) (by unfold bn;simp only[stpA,fw,mw];rfl)];have tq:∀ k:Int,t2 gEq (vR 6) (cI k) Y=oK (W == k):=fun k=>by simp only[Y,bn,stpA];rfl
 have s1:fSl (vR 0) jir (jcj (vR 5)) Y=M.p (sT (a.take i)):=jrf rfl rfl (show jcj (vR 5) Y=M.p (some ((i:Nat):Int)) from rfl) (jEb (by omega) j9);have s2:fSl (vR 0) (jcj (vR 5)) jir Y=M.p (sT (a.drop i)):=jrf rfl (show jcj (vR 5) Y=M.p (some ((i:Nat):Int)) from rfl) rfl (jrr (by omega));have s3:fSl (vR 0) (jcj (f2 gCat (vR 5) (cI 1))) jir Y=M.p (sT (a.drop (i+1))):=jrf rfl (show jcj (f2 gCat (vR 5) (cI 1)) Y=M.p (some ((i+1:Nat):Int)) from rfl) rfl (jrr (by omega));have v4:vR 4 Y=M.p (sT [c]):=rfl;have lt:=List.length_take (i:=i) (l:=a);have ld:=List.length_drop (i:=i) (l:=a);have ej:=List.length_drop (i:=i+1) (l:=a);have fin:∀ b,(g:M Out)->g=oK (.rt (sT b))->DR 40 b->b.length<=8001->∃ b,g.b outD=oK (sT b)/\DR 40 b/\b.length<=8001:=fun b g hg h1 h2=>⟨b,by rw[hg];rfl,h1,h2⟩
 have k1:=ji0 (a:=a.take i) (b:=[c]) (by rw[lt];show _+1<=_;omega);have k2:=ji0 (a:=a.take i++[c]) (b:=a.drop i) (by rw[zcb,lt,ld];show _+1+_<=_;omega);have k3:=ji0 (a:=a.take i++[c]) (b:=a.drop (i+1)) (by rw[zcb,lt,ej];show _+1+_<=_;omega);have k4:=ji0 (a:=a.take i) (b:=a.drop (i+1)) (by rw[lt,ej];omega);have d1:=hD.take i;have dc:DR 1 [c]:=DR.len (zac _)
 by_cases w0:W=0
 ·subst w0;exact fin (a.take i) _ (jsw (tq 0) s1) (d1.mono (by decide)) (by rw[lt];omega)
 rw[jdu (by rw[tq,beq_eq_false_iff_ne.mpr w0])]
 by_cases w1:W=1
 ·subst w1;exact fin (a.take i++[c]++a.drop i) _ (jsw (tq 1) (by rw[e_2,e_2,s1,M.b_p,v4,M.b_p,k1,M.o_some,M.b_p,s2,M.b_p,k2];rfl)) (((d1.join dc).join (hD.drop i)).mono (by decide)) (by rw[zcb,zcb,lt,ld];show _+1+_<=_;omega)
 rw[jdu (by rw[tq,beq_eq_false_iff_ne.mpr w1])]
 by_cases w2:W=2
 ·subst w2;exact fin (a.take i++[c]++a.drop (i+1)) _ (jsw (tq 2) (by rw[e_2,e_2,s1,M.b_p,v4,M.b_p,k1,M.o_some,M.b_p,s3,M.b_p,k3];rfl)) (((d1.join dc).join (hD.drop (i+1))).mono (by decide)) (by rw[zcb,zcb,lt,ej];show _+1+_<=_;omega)
 rw[jdu (by rw[tq,beq_eq_false_iff_ne.mpr w2])];exact fin (a.take i++a.drop (i+1)) _ (jiu (by rw[e_2,s1,M.b_p,s3,M.b_p,k4];rfl)) ((d1.join (hD.drop (i+1))).mono (by decide)) (by rw[zcb,lt,ej];omega)
end
section
def jDh(a:List Nat):(St a).cps.toList=a:=by unfold St;simp
def jog{aa:LL}(hn:aa.length<=1000){b:List Nat}(hD:DR 40 b)(hl:b.length<=8001)(Ω:Sto):∃ Ω',jco [.lst (nmD aa),sT b] Ω=some (.ok (.bl true),Ω') :=
 jyx hn (by rw[je6];omega) (by rw[jDh];exact hD) Ω
def jli{aa:LL}{T:D}{fl:DSt->MS (List D)}{Y:DSt}{Ω Ω':Sto}(h:jco [.lst (nmD aa),T] Ω=some (.ok (.bl true),Ω'))(hf:fl Y Ω=some (.ok [.lst (nmD aa),T],Ω)):mNot (mTru (jds jco fl)) Y Ω=some (.ok false,Ω'):=by
 unfold mNot mTru jds;rw[MS.b_ok (a:=true) (Ω1:=Ω') (by rw[MS.b_ok (a:=.bl true) (Ω1:=Ω') (by rw[MS.b_ok hf,h])];rfl)];rfl
def law_true(ns:List Int)(hns:ns.length<=63):∃ Ω,jx4 [.lst (ns.map .int)] []=some (.ok (.bl true),Ω):=by
 have w0:=w_at (ns:=ns) (k:=0) (by decide) (by decide);generalize atF ns 0=x0 at w0;have w1:=jrg (n:=x0) (p:=1) (by decide) (by decide);have r1:=jwd (n:=x0) (p:=1) (by decide) (by decide);generalize mixF x0 1=x1 at w1 r1;obtain⟨aa,e2,hN,hd,h1,h4⟩:=jya r1.1;obtain⟨ts,f,dp,b,e3,S,hl,hb⟩:=jDo (aa:=aa) (ns:=ns) hN hd h1 h4;obtain⟨a,e4,hD,ha⟩:=jt0 (num:=x1) (ts:=ts) (by omega) S.toks S.rd r1.1;have hn:aa.length<=1000:=by omega
 let Y (k b:Option D):DSt:=[some (scr ns),oI x1,oN aa,some (sT a),k,b]
 have s1:jAh [some (scr ns),none,none,none,none,none] []=some (.ok (.nx [some (scr ns),oI x1,none,none,none,none]),[]):=lft (by simp only[stpA,w0,w1];rfl);have s2:jAi [some (scr ns),oI x1,none,none,none,none] []=some (.ok (.nx [some (scr ns),oI x1,oN aa,none,none,none]),[]):=lft (by simp only[stpA,e2];rfl);have i0:gIx (.tup [.lst (nmD ts),fm f,.int dp]) (.int 0)=oN ts:=at0 _ _;have s3:jAj [some (scr ns),oI x1,oN aa,none,none,none] []=some (.ok (.nx (Y none none)),[]):=lft (by simp only[stpA,e3,i0,e4];rfl);obtain⟨Ω1,e5⟩:=jog (aa:=aa) hn (hD.mono (by decide)) (by omega) [];have s4:jwm (Y none none) []=some (.ok (.nx (Y none none)),Ω1):=by
  unfold jwm;rw[eif (jli e5 (lft rfl)),if_neg (by decide)];rfl
 have b5:∀ (k:Nat) (y:Option D) (Ω:Sto),k<=2->∃ y' Ω',jt7 (Y (oI (k:Nat)) y) Ω=some (.ok (.nx (Y (oI (k:Nat)) y')),Ω'):=fun k y Ω hk=>by
  have wk:=w_at (ns:=ns) (k:=(k:Nat)) (by omega) (by omega);generalize atF ns (k:Nat)=z at wk;have m5:=jrg (n:=z) (p:=5) (by decide) (by decide);have r5:=jwd (n:=z) (p:=5) (by decide) (by decide);generalize mixF z 5=x5 at m5 r5;obtain⟨c,eb,hc,lc⟩:=jA5 (a:=a) (n:=x5) (ac:=z) r5.1 hD ha;obtain⟨Ω2,e6⟩:=jog (aa:=aa) hn hc lc Ω;obtain⟨Ω3,e7⟩:=jog (aa:=aa) hn hc lc Ω2;refine⟨some (sT c),Ω3,?_⟩;unfold jt7;rw[eseq (Y':=Y (oI (k:Nat)) (some (sT c))) (Ω':=Ω) (lft (by simp only[Y,stpA,wk,m5,eb];rfl))];rw[eif (c:=false) (Ω':=Ω3) (by
   unfold mOr;rw[MS.b_ok (jli e6 (lft rfl)),if_neg (by decide)];exact jli e7 (lft rfl)),if_neg (by decide)]
  rfl
 obtain⟨y1,Ω2,f1⟩:=b5 0 none Ω1 (by decide);obtain⟨y2,Ω3,f2⟩:=b5 1 y1 Ω2 (by decide);obtain⟨y3,Ω4,f3⟩:=b5 2 y2 Ω3 (by decide);have s6:jwn (Y none none) Ω1=some (.ok (.nx (Y (oI ((2:Nat):Int)) y3)),Ω4):=by
  unfold jwn eFor;rw[MS.b_ok (a:=[.int ((0:Nat):Int),.int ((1:Nat):Int),.int ((2:Nat):Int)]) (Ω1:=Ω1) (lft rfl)];rw[jdk (Y1:=Y (oI ((0:Nat):Int)) none) rfl f1,jdk (Y1:=Y (oI ((1:Nat):Int)) y1) rfl f2,jdk (Y1:=Y (oI ((2:Nat):Int)) y2) rfl f3];rfl
 refine⟨Ω4,?_⟩;show MS.b (jxn [some (scr ns),none,none,none,none,none]) outE []=_;refine (MS.b_ok (a:=.rt (.bl true)) (Ω1:=Ω4) ?_).trans rfl;unfold jxn;rw[eseq s1,eseq s2,eseq s3,eseq s4,eseq s6];rfl
end
end MyLaw
end
set_option maxRecDepth 100000 in
set_option maxHeartbeats 0 in
theorem PySem.Challenge.cw_apartbook_k02_no_sums_holds : PySem.Challenge.rw_apartbook_k02_no_sums.Holds := by
 w_on;o_law;z_head;(case hw=>w_witness2)
 k_fill
 refine MyLaw.walkZ (l:=PySem.Challenge.rw_apartbook_k02_no_sums) (fun P=>rfl) rfl rfl ?F MyLaw.law_true
 case F =>
  intro w mg fa h KX G hmg
  refine' ⟨?T,hmg⟩
  case T =>
   refine' MyLaw.txt_mk KX G ?ca_OpenSum ?cp_OpenSum ?cq_OpenSum ?cr_OpenSum ?cs_OpenSum ?cf0_OpenSum ?cf1_OpenSum ?cf2_OpenSum ?cf3_OpenSum ?ca_BookError ?ca_Broken ?ca_Folded ?ca_NoBook ?ca_NoDeed ?ca_NoLine ?ca_NoName ?ca_NoPaper ?ca_NoRule ?ca_NoText ?ca_NotPlain ?ca_OutOfRange ?ca_ShortShare ?tab ?tab2 ?tab3 ?h0 ?h1 ?h2 ?h3 ?h4 ?h5 ?h6 ?h7 ?h8 ?h9 ?h10 ?h11 ?h12 ?h13 ?h14 ?h15 ?h16 ?h17 ?a18 ?b18 ?l18 ?c18 ?k18 ?h19 ?h20 ?h21 ?a22 ?b22 ?l22 ?c22 ?k22 ?a23 ?b23 ?i23 ?j23 ?l23 ?c23 ?k23 ?h24 ?h25 ?a26 ?b26 ?l26 ?c26 ?k26 ?h27 ?a28 ?b28 ?l28 ?c28 ?k28 ?h29 ?a30 ?b30 ?l30 ?c30 ?k30 ?a31 ?b31 ?l31 ?c31 ?k31 ?h32 ?h33 ?h34 ?h35 ?h36 ?h37 ?h38 ?h39 ?h40 ?h41 ?y0 ?y1 ?y2 ?y3 ?y4 ?y5 ?z0 ?z1 ?z2 ?z3 ?z4 ?z5 ?z6 ?z7 ?z8 ?z9
   (case ca_OpenSum=>k_is);(case cp_OpenSum=>k_is);(case cq_OpenSum=>k_is);(case cr_OpenSum=>k_is);(case cs_OpenSum=>k_is);(case cf0_OpenSum=>k_is);(case cf1_OpenSum=>k_is);(case cf2_OpenSum=>k_is)
   (case cf3_OpenSum=>k_is);(case ca_BookError=>k_is);(case ca_Broken=>k_is);(case ca_Folded=>k_is);(case ca_NoBook=>k_is);(case ca_NoDeed=>k_is);(case ca_NoLine=>k_is);(case ca_NoName=>k_is)
   (case ca_NoPaper=>k_is);(case ca_NoRule=>k_is);(case ca_NoText=>k_is);(case ca_NotPlain=>k_is);(case ca_OutOfRange=>k_is);(case ca_ShortShare=>k_is);(case tab=>kernel_rfl);(case tab2=>kernel_rfl)
   (case tab3=>kernel_rfl);(case a18=>k_is);(case b18=>k_is);(case l18=>k_is);(case c18=>k_is);(case k18=>k_is);(case a22=>k_is);(case b22=>k_is)
   (case l22=>k_is);(case c22=>k_is);(case k22=>k_is);(case a23=>k_is);(case b23=>k_is);(case i23=>k_is);(case j23=>k_is);(case l23=>k_is)
   (case c23=>k_is);(case k23=>k_is);(case a26=>k_is);(case b26=>k_is);(case l26=>k_is);(case c26=>k_is);(case k26=>k_is);(case a28=>k_is)
   (case b28=>k_is);(case l28=>k_is);(case c28=>k_is);(case k28=>k_is);(case a30=>k_is);(case b30=>k_is);(case l30=>k_is);(case c30=>k_is)
   (case k30=>k_is);(case a31=>k_is);(case b31=>k_is);(case l31=>k_is);(case c31=>k_is);(case k31=>k_is);(case y0=>k_is);(case y1=>k_is)
   (case y2=>k_is);(case y3=>k_is);(case y4=>k_is);(case y5=>k_is);(case z0=>k_is);(case z1=>k_is);(case z2=>k_is);(case z3=>k_is)
   (case z4=>k_is);(case z5=>k_is);(case z6=>k_is);(case z7=>k_is);(case z8=>k_is);(case z9=>k_is)
   all_goals (refine' .mk ?a ?l ?c ?k;(case a=>k_is);(case l=>k_is);(case c=>k_is);(case k=>k_is))