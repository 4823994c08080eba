
import Derived.Test.YtapfankgdkdkgaaGreatDoorMc19
import Derived.Test.YtapfankgdkdkgaaGreatDoorMc20
namespace Go.Proofs.YtapfankgdkdkgaaGreatDoor.AM
open Go.RowKit
set_option linter.unusedVariables false
set_option maxRecDepth 20000
def qms (n:Nat):List LC:=[]
def q3l (n:Nat) (a1:List UInt8):Option (((List UInt8)×((List UInt8)×((List (List UInt8×((Int)×((Int)×((Int)×(List UInt8×(List UInt8)))))))×((List (List UInt8×(List UInt8)))×((List (List UInt8×((Int)×((Int)×((Int)×(List UInt8×(List UInt8)))))))×(List ((Int)×((Int)×((Int)×(List UInt8×(List UInt8×((Int)×((Int)×((Int)×(List UInt8×(List UInt8))))))))))))))))×(Int×(Int))) :=
 qmg (q8y n a1) (fun (r1:(Unit×(IV))×(((List UInt8)×((List UInt8)×(Unit×(Unit×(Unit×(Unit×(Int×(Int×((List UInt8)×(Unit×(Unit)))))))))))×((List (List UInt8×(List (List UInt8)×((Bool)×(IV)))))×((List ((List UInt8×(List UInt8×((Int)×((Int)×((Int)×(List UInt8×(List UInt8)))))))×((Int)×(Int))))×(Unit))))×((List (List UInt8×((Int)×((Int)×((Int)×(List UInt8×(List UInt8)))))))×((List (List UInt8×(List UInt8)))×((List (List UInt8×((Int)×((Int)×((Int)×(List UInt8×(List UInt8)))))))×((List ((Int)×((Int)×((Int)×(List UInt8×(List UInt8×((Int)×((Int)×((Int)×(List UInt8×(List UInt8)))))))))))×(Unit))))))=>(q2x (Subtype.val r1.1.2)).bind fun (hb2:Bool)=>(bif !hb2 then (qrk r1.1.2).bind fun (r3:Int×(Int))=>some ((([]:List UInt8),(([]:List UInt8),([],([],([],[]))))),r3) else some ((r1.2.1.1.1,(r1.2.1.1.2.1,(r1.2.2.1,(r1.2.2.2.1,(r1.2.2.2.2.1,r1.2.2.2.2.2.1))))),(r1.2.1.1.2.2.2.2.2.2.1,(0:Int))))) ((qcg n a1).bind fun (r4:IV×(IV))=>(q2x (Subtype.val r4.2)).bind fun (hb5:Bool)=>(bif !hb5 then (qrk r4.2).bind fun (r6:Int×(Int))=>some ((([]:List UInt8),(([]:List UInt8),([],([],([],[]))))),r6) else none))
def q4f (n:Nat):FC:={ f:=16,args:=[.one (.c (.d .str))],res:=.tup [.agg [.d .str,.d .str,.d (.lst (.prod .str (.prod (.int .i64) (.prod (.int .i64) (.prod (.int .i64) (.prod .str .str)))))),.d (.lst (.prod .str .str)),.d (.lst (.prod .str (.prod (.int .i64) (.prod (.int .i64) (.prod (.int .i64) (.prod .str .str)))))),.d (.lst (.prod (.int .i64) (.prod (.int .i64) (.prod (.int .i64) (.prod .str (.prod .str (.prod (.int .i64) (.prod (.int .i64) (.prod (.int .i64) (.prod .str .str))))))))))],.c (.d (.int .i64)),.c (.d (.int .i64))],F:=fun p=>q3l n p }
def qsd (n:Nat):List FC:=[j0q (q1w n) [] [(44,11),(1044,1011),(2044,2011),(3044,3011)] [(29,11),(26,1011),(27,2011)],j25,q5k n]
theorem qxc (n:Nat) {G:World->Prop} (hG:Know Inv G) : ∀c∈qsd n,q18 Tryz.prog G c/\q09 c.args=true:=List.forall_mem_cons.2 ⟨j3b (qnd n G hG),List.forall_mem_cons.2 ⟨jcg G hG,List.forall_mem_cons.2 ⟨qwp n G hG,(fun _ h=>by cases h)⟩⟩⟩
def qvn:q08:=[(5,[⟨28334198897235051184128,2^72,0⟩,⟨13469017440257*2^34,2^75,1⟩,⟨107752139522049*2^34,2^78,3⟩,⟨862017116176385*2^34,2^81,7⟩,⟨116056878683004417951694848,2^84,0⟩,⟨55169095435288577*2^34,2^87,16⟩,⟨441352763482308609*2^34,2^90,48⟩,⟨3530822107858468865*2^34,2^93,112⟩,⟨63975078001172785699595083761656459625154462486552420152755668189454205310145231665361909728988203846127464659584632570591882863147988612686098388825205459952577415643361923577194176540294441230030204330554816361762580036855539214046979042325413363925334353010373052454148503153882388735634505632984823914257227860927385419819545690843044525663354377814301668391133744615720844253665637376428345383085805882352021463613448566615853155714661322016337867450806562938145655069565680061966678409365314206017397805514718192935986593406391324337309512466383195727130788302946512340244429621911298897954896825665961532052337379856960518872276773097627748011167723302515212826264489956188759331178405026965916060520460010675700491799418752566584212753114833955042623952495244446606691991286833485170775938613069576516635512464114091057369147037248478858510924793020482280934356656627542436445151545759530299686486874566919193340452192166397152647131286179499825736482847408367404442387092685458094123574769780442370636570635186748030706898742036218878368049810931042713657238527157684785650646588984110156142607753344014264965311306895995445871126701092255179379452262992958430755870350944801606234644772930007415765758727811336074316555096701945325116458828129664619723992579897789605312484334322215157666843607578793756371580130920214739434093409529372723099281400835550219551118344498052710376393548457573821733829868970366279183608651366990059185723245772591829078895289395480089452627631551848570139613168342000649128549142914647579858599058426593711659660114293554671553345697623569953373402756383904396699819934755063209258219985046632890132163094516253799540889779712458662518126035170975059443979520809580398357678880052443106687024664064053298265031552090599964126695733730172391253125913919661980921284841465816997953139127005393825708689362230605955623354801402692345866845887237289181488062488781954609689126408130295766596393869390434411592695853114403934956877843818801462825714440271603816339076012480983577321878710139385107146932348864306974253321189501249421224461187792674631231308095129495683639475398606215788535894605407471870420883857091208036746525653757999344034426463921356486661732436055374422719246551646470150051551038948545812619424376099243902843857446806039479306179861353096289952016886050986935705636897246065879281119692154342240075006643032671968842572441423024216979651629730437770184092748500658724415741277097505364551909406178898760450852224071881519788310640830300635308982002732587773381496087038957290339791930679123606405727191795367237488684160822662807581390954065273399160134750470192531808209176994051395371460370223618158210615140839448487454387038131805806747260304611107406016,128,15⟩,⟨9903520314283042199192996864,512,511⟩,⟨24576,4096,1023⟩])]
theorem j87:drB qvn (q00 Tryz.f16)=true:=by kernel_rfl
theorem j8h (n:Nat) : ∀a,(q4f n).F a=main Tryz.prog 32 (qsd n) (qms n) qvn (q00 Tryz.f16) [.cell 2 35,.tmp 3,.tmp 4] (q4f n).args (q4f n).res a:=by intro a;kernel_rfl
theorem qj6 (n:Nat):q0d Inv Tryz.prog (q4f n):=fun G hG=>⟨⟨by kernel_rfl,fun a r h=>q04 (c:=q00 Tryz.f16) Tryz.func16 (by kernel_rfl) (by kernel_rfl) (Nat.le_of_ble_eq_true (by kernel_rfl)) hG.st (by kernel_rfl) (rs:=[.cell 2 35,.tmp 3,.tmp 4]) (by kernel_rfl) (qxc n hG) (lts:=qms n) (fun F hF hFG=>have hK:Know Inv F.G:=hFG ▸ hG;(q03 fun j L h1 h2 h3=>absurd h2 (Nat.not_lt.2 (Nat.le_trans (by decide +kernel) h1)))) j87 ((j8h n a).symm.trans h)⟩,rfl⟩
def qo1 (n:Nat):List LC:=[]
def qqi (n:Nat) (a1:List UInt8) (a2:List UInt8):Option (Int×(Int×(Bool))) :=
 qmg (q8y n a1) (fun (r1:(Unit×(IV))×(((List UInt8)×((List UInt8)×(Unit×(Unit×(Unit×(Unit×(Int×(Int×((List UInt8)×(Unit×(Unit)))))))))))×((List (List UInt8×(List (List UInt8)×((Bool)×(IV)))))×((List ((List UInt8×(List UInt8×((Int)×((Int)×((Int)×(List UInt8×(List UInt8)))))))×((Int)×(Int))))×(Unit))))×((List (List UInt8×((Int)×((Int)×((Int)×(List UInt8×(List UInt8)))))))×((List (List UInt8×(List UInt8)))×((List (List UInt8×((Int)×((Int)×((Int)×(List UInt8×(List UInt8)))))))×((List ((Int)×((Int)×((Int)×(List UInt8×(List UInt8×((Int)×((Int)×((Int)×(List UInt8×(List UInt8)))))))))))×(Unit))))))=>(q2x (Subtype.val r1.1.2)).bind fun (hb2:Bool)=>(bif !hb2 then some ((0:Int),((0:Int),false)) else j7m (q0a (.prod .str (.prod .str (.prod (.int .i64) (.prod (.int .i64) (.prod (.int .i64) (.prod .str .str)))))) (([114,101,113,117,105,114,101]:List UInt8),(a2,((0:Int),((0:Int),((0:Int),(([]:List UInt8),([]:List UInt8))))))) r1.2.1.2.2.1) ((0:Int),(0:Int)) fun (y3:(Int)×(Int)) (hb4:Bool)=>some (y3.1,(y3.2,hb4)))) ((qcg n a1).bind fun (r5:IV×(IV))=>(q2x (Subtype.val r5.2)).bind fun (hb6:Bool)=>(bif !hb6 then some ((0:Int),((0:Int),false)) else none))
def q7q (n:Nat):FC:={ f:=19,args:=[.one (.c (.d .str)),.one (.c (.d .str))],res:=.tup [.c (.d (.int .i64)),.c (.d (.int .i64)),.c (.d .bool)],F:=fun p=>qqi n p.1 p.2 }
def qva (n:Nat):List FC:=[j0q (q1w n) [] [(44,13),(1044,1013),(2044,2013),(3044,3013)] [(29,13),(26,1013),(27,2013)],q5k n]
theorem qz6 (n:Nat) {G:World->Prop} (hG:Know Inv G) : ∀c∈qva n,q18 Tryz.prog G c/\q09 c.args=true:=List.forall_mem_cons.2 ⟨j3b (qnd n G hG),List.forall_mem_cons.2 ⟨qwp n G hG,(fun _ h=>by cases h)⟩⟩
def qu2:q08:=[(5,[⟨864691128455135235*2^27,2^84,0⟩,⟨3530822107858468865*2^28,2^87,1⟩,⟨55340232221128654851*2^27,2^90,0⟩,⟨225972614902942007297*2^28,2^93,4⟩,⟨442721857769029238785*2^30,2^96,0⟩,⟨154742504910672534362415104,4096,3⟩,⟨9903520314283042199193190400,32768,47⟩,⟨79228162514264337593545523200,2^18,127⟩])]
theorem jam:drB qu2 (q00 Tryz.f19)=true:=by kernel_rfl
theorem j8d (n:Nat) : ∀a,(q7q n).F a=main Tryz.prog 33 (qva n) (qo1 n) qu2 (q00 Tryz.f19) [.tmp 4,.tmp 5,.tmp 6] (q7q n).args (q7q n).res a:=by intro a;kernel_rfl
theorem j6g (n:Nat):q0d Inv Tryz.prog (q7q n):=fun G hG=>⟨⟨by kernel_rfl,fun a r h=>q04 (c:=q00 Tryz.f19) Tryz.func19 (by kernel_rfl) (by kernel_rfl) (Nat.le_of_ble_eq_true (by kernel_rfl)) hG.st (by kernel_rfl) (rs:=[.tmp 4,.tmp 5,.tmp 6]) (by kernel_rfl) (qz6 n hG) (lts:=qo1 n) (fun F hF hFG=>have hK:Know Inv F.G:=hFG ▸ hG;(q03 fun j L h1 h2 h3=>absurd h2 (Nat.not_lt.2 (Nat.le_trans (by decide +kernel) h1)))) jam ((j8d n a).symm.trans h)⟩,rfl⟩
def qtw (n:Nat):List LC:=[]
def qad (n:Nat) (a1:List (List UInt8)):Option (List UInt8) :=
 (q9g a1 ([32]:List UInt8)).bind fun (r1:List UInt8)=>(qlt r1 ([10]:List UInt8)).bind fun (s2:List UInt8)=>some s2
def qb9 (n:Nat):FC:={ f:=59,args:=[.one (.c (.d (.lst .str)))],res:=.one (.c (.d .str)),F:=fun p=>qad n p }
def j08 (n:Nat):List FC:=[qor]
theorem j3o (n:Nat) {G:World->Prop} (hG:Know Inv G) : ∀c∈j08 n,q18 Tryz.prog G c/\q09 c.args=true:=List.forall_mem_cons.2 ⟨qym G hG,(fun _ h=>by cases h)⟩
def j2w:q08:=[]
theorem jd9:drB j2w (q00 Tryz.f59)=true:=by kernel_rfl
theorem jdg (n:Nat) : ∀a,(qb9 n).F a=main Tryz.prog 6 (j08 n) (qtw n) j2w (q00 Tryz.f59) [.tmp 2] (qb9 n).args (qb9 n).res a:=by intro a;kernel_rfl
theorem jcy (n:Nat):q0d Inv Tryz.prog (qb9 n):=fun G hG=>⟨⟨by kernel_rfl,fun a r h=>q04 (c:=q00 Tryz.f59) Tryz.func59 (by kernel_rfl) (by kernel_rfl) (Nat.le_of_ble_eq_true (by kernel_rfl)) hG.st (by kernel_rfl) (rs:=[.tmp 2]) (by kernel_rfl) (j3o n hG) (lts:=qtw n) (fun F hF hFG=>have hK:Know Inv F.G:=hFG ▸ hG;(q03 fun j L h1 h2 h3=>absurd h2 (Nat.not_lt.2 (Nat.le_trans (by decide +kernel) h1)))) jd9 ((jdg n a).symm.trans h)⟩,rfl⟩
def qn5 (n:Nat):List LC:=[]
def j1a (n:Nat) (a1:Int×(Int×(Int×((List UInt8)×((List UInt8)×(Int×(Int×(Int×((List UInt8)×(List UInt8)))))))))):Option (List UInt8) :=
 (bif (decide (a1.1=a1.2.2.2.2.2.1)&&(decide (a1.2.1=a1.2.2.2.2.2.2.1)&&(decide (a1.2.2.1=a1.2.2.2.2.2.2.2.1)&&(decide (a1.2.2.2.1=a1.2.2.2.2.2.2.2.2.1)&&(decide (a1.2.2.2.2.1=a1.2.2.2.2.2.2.2.2.2)&&true))))) then (q6r n (a1.1,(a1.2.1,(a1.2.2.1,(a1.2.2.2.1,a1.2.2.2.2.1))))).bind fun (r1:List UInt8)=>some r1 else (q6r n (a1.1,(a1.2.1,(a1.2.2.1,(a1.2.2.2.1,a1.2.2.2.2.1))))).bind fun (r2:List UInt8)=>(qlt ([91]:List UInt8) r2).bind fun (s3:List UInt8)=>(qlt s3 ([44,32]:List UInt8)).bind fun (s4:List UInt8)=>(q6r n a1.2.2.2.2.2).bind fun (r5:List UInt8)=>(qlt s4 r5).bind fun (s6:List UInt8)=>(qlt s6 ([93]:List UInt8)).bind fun (s7:List UInt8)=>some s7)
def q7n (n:Nat):FC:={ f:=60,args:=[.one (.agg [.d (.int .i64),.d (.int .i64),.d (.int .i64),.d .str,.d .str,.d (.int .i64),.d (.int .i64),.d (.int .i64),.d .str,.d .str])],res:=.one (.c (.d .str)),F:=fun p=>j1a n p }
def qwn (n:Nat):List FC:=[q6o n]
theorem qxg (n:Nat) {G:World->Prop} (hG:Know Inv G) : ∀c∈qwn n,q18 Tryz.prog G c/\q09 c.args=true:=List.forall_mem_cons.2 ⟨qrd n G hG,(fun _ h=>by cases h)⟩
def qs4:q08:=[(3,[⟨51539607576,2^33,0⟩,⟨420906795024,2^36,1⟩,⟨49*2^36,2^39,3⟩,⟨49*2^39,2^42,7⟩,⟨49*2^42,2^45,15⟩,⟨1688849860263960,2^48,0⟩,⟨13792273858822160,2^51,32⟩,⟨49*2^51,2^54,103⟩,⟨25089*2^45,2^57,255⟩,⟨49*2^57,2^60,511⟩,⟨1152921504606847360,64,1023⟩]),(1000003,[])]
theorem jc1:drB qs4 (q00 Tryz.f60)=true:=by kernel_rfl
theorem j74 (n:Nat) : ∀a,(q7n n).F a=main Tryz.prog 21 (qwn n) (qn5 n) qs4 (q00 Tryz.f60) [.tmp 2] (q7n n).args (q7n n).res a:=by intro a;kernel_rfl
theorem j75 (n:Nat):q0d Inv Tryz.prog (q7n n):=fun G hG=>⟨⟨by kernel_rfl,fun a r h=>q04 (c:=q00 Tryz.f60) Tryz.func60 (by kernel_rfl) (by kernel_rfl) (Nat.le_of_ble_eq_true (by kernel_rfl)) hG.st (by kernel_rfl) (rs:=[.tmp 2]) (by kernel_rfl) (qxg n hG) (lts:=qn5 n) (fun F hF hFG=>have hK:Know Inv F.G:=hFG ▸ hG;(q03 fun j L h1 h2 h3=>absurd h2 (Nat.not_lt.2 (Nat.le_trans (by decide +kernel) h1)))) jc1 ((j74 n a).symm.trans h)⟩,rfl⟩
@[reducible] def qg8:SSt:=⟨[(3,.one (.c (.row 16))),(81,.one (.c (.d (.lst (.prod (.int .i64) (.prod (.int .i64) (.prod (.int .i64) (.prod .str (.prod .str (.prod (.int .i64) (.prod (.int .i64) (.prod (.int .i64) (.prod .str .str))))))))))))),(82,.one (.c (.d (.int .i64)))),(83,.one (.c (.d (.int .i64))))],[],[(16,⟨9,false,.str⟩)]⟩
@[reducible] def q8i:List (Exit×SSt):=[(.exit 6,⟨[(3,.one (.c (.row 16)))],[],[(16,⟨9,false,.str⟩)]⟩)]
def ji5 (n:Nat) (rec:(List ((Int)×((Int)×((Int)×(List UInt8×(List UInt8×((Int)×((Int)×((Int)×(List UInt8×(List UInt8)))))))))))->Int->Int->(List (List UInt8))->Option ((Unit×(Unit))×(Unit)×((List (List UInt8))×(Unit)))) (a1:List ((Int)×((Int)×((Int)×(List UInt8×(List UInt8×((Int)×((Int)×((Int)×(List UInt8×(List UInt8))))))))))) (a2:Int) (a3:Int) (a4:List (List UInt8)):Option ((Unit×(Unit))×(Unit)×((List (List UInt8))×(Unit))) :=
 (bif decide (a3<a2) then (q1h a1 a3).bind fun (x21:(Int)×((Int)×((Int)×(List UInt8×(List UInt8×((Int)×((Int)×((Int)×(List UInt8×(List UInt8))))))))))=>(j1a n x21).bind fun (r22:List UInt8)=>(qad n ([([114,101,116,114,97,99,116]:List UInt8),r22]:List (List UInt8))).bind fun (r23:List UInt8)=>(q4t 16 a4 ([r23]:List (List UInt8))).bind fun (l24:List (List UInt8))=>q0e (IntKind.wrap .i64 (a3+(1:Int))) fun (n25:Int)=>rec a1 a2 n25 l24 else some ((((),()),((),(a4,())))))
def qz1 (n:Nat) (rec:pSt qg8->Option (q0q q8i)) (p:pSt qg8):Option (q0q q8i):=ji5 n (fun a1 a2 a3 a4=>rec (((),(a1,(a2,(a3,())))),((),(a4,())))) p.1.2.1 p.1.2.2.1 p.1.2.2.2.1 p.2.2.1
def qo5 (n m:Nat) (a1:List ((Int)×((Int)×((Int)×(List UInt8×(List UInt8×((Int)×((Int)×((Int)×(List UInt8×(List UInt8))))))))))) (a2:Int) (a3:Int) (a4:List (List UInt8)):Option ((Unit×(Unit))×(Unit)×((List (List UInt8))×(Unit))):=q0t (qz1 n) m (((),(a1,(a2,(a3,())))),((),(a4,())))
def j9f (n:Nat):LC:={ sh:=qg8,outs:=q8i,F:=q0t (qz1 n) n }
@[reducible] def qg5:SSt:=⟨[(1,.one (.c (.box 1 0))),(3,.one (.c (.row 16))),(63,.one (.c (.d (.lst (.prod .str (.prod (.int .i64) (.prod (.int .i64) (.prod (.int .i64) (.prod .str .str))))))))),(64,.one (.c (.d (.int .i64)))),(65,.one (.c (.d (.int .i64))))],[(1,(35,[.d .str,.d .str,.d (.lst (.prod .str (.prod (.int .i64) (.prod (.int .i64) (.prod (.int .i64) (.prod .str .str)))))),.d (.lst (.prod .str .str)),.d (.lst (.prod .str (.prod (.int .i64) (.prod (.int .i64) (.prod (.int .i64) (.prod .str .str)))))),.d (.lst (.prod (.int .i64) (.prod (.int .i64) (.prod (.int .i64) (.prod .str (.prod .str (.prod (.int .i64) (.prod (.int .i64) (.prod (.int .i64) (.prod .str .str))))))))))]))],[(16,⟨9,false,.str⟩)]⟩
@[reducible] def q92:List (Exit×SSt):=[(.exit 4,⟨[(1,.one (.c (.box 1 0))),(3,.one (.c (.row 16)))],[(1,(35,[.d .str,.d .str,.d (.lst (.prod .str (.prod (.int .i64) (.prod (.int .i64) (.prod (.int .i64) (.prod .str .str)))))),.d (.lst (.prod .str .str)),.d (.lst (.prod .str (.prod (.int .i64) (.prod (.int .i64) (.prod (.int .i64) (.prod .str .str)))))),.d (.lst (.prod (.int .i64) (.prod (.int .i64) (.prod (.int .i64) (.prod .str (.prod .str (.prod (.int .i64) (.prod (.int .i64) (.prod (.int .i64) (.prod .str .str))))))))))]))],[(16,⟨9,false,.str⟩)]⟩)]
def jia (n:Nat) (rec:(List (List UInt8×((Int)×((Int)×((Int)×(List UInt8×(List UInt8)))))))->Int->Int->(List UInt8)->(List UInt8)->(List (List UInt8×((Int)×((Int)×((Int)×(List UInt8×(List UInt8)))))))->(List (List UInt8×(List UInt8)))->(List (List UInt8×((Int)×((Int)×((Int)×(List UInt8×(List UInt8)))))))->(List ((Int)×((Int)×((Int)×(List UInt8×(List UInt8×((Int)×((Int)×((Int)×(List UInt8×(List UInt8)))))))))))->(List (List UInt8))->Option ((Unit×(Unit×(Unit)))×(((List UInt8)×((List UInt8)×((List (List UInt8×((Int)×((Int)×((Int)×(List UInt8×(List UInt8)))))))×((List (List UInt8×(List UInt8)))×((List (List UInt8×((Int)×((Int)×((Int)×(List UInt8×(List UInt8)))))))×(List ((Int)×((Int)×((Int)×(List UInt8×(List UInt8×((Int)×((Int)×((Int)×(List UInt8×(List UInt8))))))))))))))))×(Unit))×((List (List UInt8))×(Unit)))) (a1:List (List UInt8×((Int)×((Int)×((Int)×(List UInt8×(List UInt8))))))) (a2:Int) (a3:Int) (a4:List UInt8) (a5:List UInt8) (a6:List (List UInt8×((Int)×((Int)×((Int)×(List UInt8×(List UInt8))))))) (a7:List (List UInt8×(List UInt8))) (a8:List (List UInt8×((Int)×((Int)×((Int)×(List UInt8×(List UInt8))))))) (a9:List ((Int)×((Int)×((Int)×(List UInt8×(List UInt8×((Int)×((Int)×((Int)×(List UInt8×(List UInt8))))))))))) (a10:List (List UInt8)):Option ((Unit×(Unit×(Unit)))×(((List UInt8)×((List UInt8)×((List (List UInt8×((Int)×((Int)×((Int)×(List UInt8×(List UInt8)))))))×((List (List UInt8×(List UInt8)))×((List (List UInt8×((Int)×((Int)×((Int)×(List UInt8×(List UInt8)))))))×(List ((Int)×((Int)×((Int)×(List UInt8×(List UInt8×((Int)×((Int)×((Int)×(List UInt8×(List UInt8))))))))))))))))×(Unit))×((List (List UInt8))×(Unit))) :=
 (bif decide (a3<a2) then (q1h a1 a3).bind fun (x15:List UInt8×((Int)×((Int)×((Int)×(List UInt8×(List UInt8))))))=>(q6r n x15.2).bind fun (r16:List UInt8)=>(qad n ([([101,120,99,108,117,100,101]:List UInt8),x15.1,r16]:List (List UInt8))).bind fun (r17:List UInt8)=>(q4t 16 a10 ([r17]:List (List UInt8))).bind fun (l18:List (List UInt8))=>q0e (IntKind.wrap .i64 (a3+(1:Int))) fun (n19:Int)=>rec a1 a2 n19 a4 a5 a6 a7 a8 a9 l18 else some ((((),((),())),(((a4,(a5,(a6,(a7,(a8,a9))))),()),(a10,())))))
def qxv (n:Nat) (rec:pSt qg5->Option (q0q q92)) (p:pSt qg5):Option (q0q q92):=jia n (fun a1 a2 a3 a4 a5 a6 a7 a8 a9 a10=>rec (((),((),(a1,(a2,(a3,()))))),(((a4,(a5,(a6,(a7,(a8,a9))))),()),(a10,())))) p.1.2.2.1 p.1.2.2.2.1 p.1.2.2.2.2.1 p.2.1.1.1 p.2.1.1.2.1 p.2.1.1.2.2.1 p.2.1.1.2.2.2.1 p.2.1.1.2.2.2.2.1 p.2.1.1.2.2.2.2.2 p.2.2.1
def qni (n m:Nat) (a1:List (List UInt8×((Int)×((Int)×((Int)×(List UInt8×(List UInt8))))))) (a2:Int) (a3:Int) (a4:List UInt8) (a5:List UInt8) (a6:List (List UInt8×((Int)×((Int)×((Int)×(List UInt8×(List UInt8))))))) (a7:List (List UInt8×(List UInt8))) (a8:List (List UInt8×((Int)×((Int)×((Int)×(List UInt8×(List UInt8))))))) (a9:List ((Int)×((Int)×((Int)×(List UInt8×(List UInt8×((Int)×((Int)×((Int)×(List UInt8×(List UInt8))))))))))) (a10:List (List UInt8)):Option ((Unit×(Unit×(Unit)))×(((List UInt8)×((List UInt8)×((List (List UInt8×((Int)×((Int)×((Int)×(List UInt8×(List UInt8)))))))×((List (List UInt8×(List UInt8)))×((List (List UInt8×((Int)×((Int)×((Int)×(List UInt8×(List UInt8)))))))×(List ((Int)×((Int)×((Int)×(List UInt8×(List UInt8×((Int)×((Int)×((Int)×(List UInt8×(List UInt8))))))))))))))))×(Unit))×((List (List UInt8))×(Unit))):=q0t (qxv n) m (((),((),(a1,(a2,(a3,()))))),(((a4,(a5,(a6,(a7,(a8,a9))))),()),(a10,())))
def j77 (n:Nat):LC:={ sh:=qg5,outs:=q92,F:=q0t (qxv n) n }
@[reducible] def qfp:SSt:=⟨[(1,.one (.c (.box 1 0))),(3,.one (.c (.row 16))),(46,.one (.c (.d (.lst (.prod .str .str))))),(47,.one (.c (.d (.int .i64)))),(48,.one (.c (.d (.int .i64))))],[(1,(35,[.d .str,.d .str,.d (.lst (.prod .str (.prod (.int .i64) (.prod (.int .i64) (.prod (.int .i64) (.prod .str .str)))))),.d (.lst (.prod .str .str)),.d (.lst (.prod .str (.prod (.int .i64) (.prod (.int .i64) (.prod (.int .i64) (.prod .str .str)))))),.d (.lst (.prod (.int .i64) (.prod (.int .i64) (.prod (.int .i64) (.prod .str (.prod .str (.prod (.int .i64) (.prod (.int .i64) (.prod (.int .i64) (.prod .str .str))))))))))]))],[(16,⟨9,false,.str⟩)]⟩
@[reducible] def q8k:List (Exit×SSt):=[(.exit 2,⟨[(1,.one (.c (.box 1 0))),(3,.one (.c (.row 16)))],[(1,(35,[.d .str,.d .str,.d (.lst (.prod .str (.prod (.int .i64) (.prod (.int .i64) (.prod (.int .i64) (.prod .str .str)))))),.d (.lst (.prod .str .str)),.d (.lst (.prod .str (.prod (.int .i64) (.prod (.int .i64) (.prod (.int .i64) (.prod .str .str)))))),.d (.lst (.prod (.int .i64) (.prod (.int .i64) (.prod (.int .i64) (.prod .str (.prod .str (.prod (.int .i64) (.prod (.int .i64) (.prod (.int .i64) (.prod .str .str))))))))))]))],[(16,⟨9,false,.str⟩)]⟩)]
def jj4 (n:Nat) (rec:(List (List UInt8×(List UInt8)))->Int->Int->(List UInt8)->(List UInt8)->(List (List UInt8×((Int)×((Int)×((Int)×(List UInt8×(List UInt8)))))))->(List (List UInt8×(List UInt8)))->(List (List UInt8×((Int)×((Int)×((Int)×(List UInt8×(List UInt8)))))))->(List ((Int)×((Int)×((Int)×(List UInt8×(List UInt8×((Int)×((Int)×((Int)×(List UInt8×(List UInt8)))))))))))->(List (List UInt8))->Option ((Unit×(Unit×(Unit)))×(((List UInt8)×((List UInt8)×((List (List UInt8×((Int)×((Int)×((Int)×(List UInt8×(List UInt8)))))))×((List (List UInt8×(List UInt8)))×((List (List UInt8×((Int)×((Int)×((Int)×(List UInt8×(List UInt8)))))))×(List ((Int)×((Int)×((Int)×(List UInt8×(List UInt8×((Int)×((Int)×((Int)×(List UInt8×(List UInt8))))))))))))))))×(Unit))×((List (List UInt8))×(Unit)))) (a1:List (List UInt8×(List UInt8))) (a2:Int) (a3:Int) (a4:List UInt8) (a5:List UInt8) (a6:List (List UInt8×((Int)×((Int)×((Int)×(List UInt8×(List UInt8))))))) (a7:List (List UInt8×(List UInt8))) (a8:List (List UInt8×((Int)×((Int)×((Int)×(List UInt8×(List UInt8))))))) (a9:List ((Int)×((Int)×((Int)×(List UInt8×(List UInt8×((Int)×((Int)×((Int)×(List UInt8×(List UInt8))))))))))) (a10:List (List UInt8)):Option ((Unit×(Unit×(Unit)))×(((List UInt8)×((List UInt8)×((List (List UInt8×((Int)×((Int)×((Int)×(List UInt8×(List UInt8)))))))×((List (List UInt8×(List UInt8)))×((List (List UInt8×((Int)×((Int)×((Int)×(List UInt8×(List UInt8)))))))×(List ((Int)×((Int)×((Int)×(List UInt8×(List UInt8×((Int)×((Int)×((Int)×(List UInt8×(List UInt8))))))))))))))))×(Unit))×((List (List UInt8))×(Unit))) :=
 (bif decide (a3<a2) then (q1h a1 a3).bind fun (x10:List UInt8×(List UInt8))=>(qad n ([([114,101,112,108,97,99,101]:List UInt8),x10.1,([61,62]:List UInt8),x10.2]:List (List UInt8))).bind fun (r11:List UInt8)=>(q4t 16 a10 ([r11]:List (List UInt8))).bind fun (l12:List (List UInt8))=>q0e (IntKind.wrap .i64 (a3+(1:Int))) fun (n13:Int)=>rec a1 a2 n13 a4 a5 a6 a7 a8 a9 l12 else some ((((),((),())),(((a4,(a5,(a6,(a7,(a8,a9))))),()),(a10,())))))
def qzs (n:Nat) (rec:pSt qfp->Option (q0q q8k)) (p:pSt qfp):Option (q0q q8k):=jj4 n (fun a1 a2 a3 a4 a5 a6 a7 a8 a9 a10=>rec (((),((),(a1,(a2,(a3,()))))),(((a4,(a5,(a6,(a7,(a8,a9))))),()),(a10,())))) p.1.2.2.1 p.1.2.2.2.1 p.1.2.2.2.2.1 p.2.1.1.1 p.2.1.1.2.1 p.2.1.1.2.2.1 p.2.1.1.2.2.2.1 p.2.1.1.2.2.2.2.1 p.2.1.1.2.2.2.2.2 p.2.2.1
def qnj (n m:Nat) (a1:List (List UInt8×(List UInt8))) (a2:Int) (a3:Int) (a4:List UInt8) (a5:List UInt8) (a6:List (List UInt8×((Int)×((Int)×((Int)×(List UInt8×(List UInt8))))))) (a7:List (List UInt8×(List UInt8))) (a8:List (List UInt8×((Int)×((Int)×((Int)×(List UInt8×(List UInt8))))))) (a9:List ((Int)×((Int)×((Int)×(List UInt8×(List UInt8×((Int)×((Int)×((Int)×(List UInt8×(List UInt8))))))))))) (a10:List (List UInt8)):Option ((Unit×(Unit×(Unit)))×(((List UInt8)×((List UInt8)×((List (List UInt8×((Int)×((Int)×((Int)×(List UInt8×(List UInt8)))))))×((List (List UInt8×(List UInt8)))×((List (List UInt8×((Int)×((Int)×((Int)×(List UInt8×(List UInt8)))))))×(List ((Int)×((Int)×((Int)×(List UInt8×(List UInt8×((Int)×((Int)×((Int)×(List UInt8×(List UInt8))))))))))))))))×(Unit))×((List (List UInt8))×(Unit))):=q0t (qzs n) m (((),((),(a1,(a2,(a3,()))))),(((a4,(a5,(a6,(a7,(a8,a9))))),()),(a10,())))
def j6b (n:Nat):LC:={ sh:=qfp,outs:=q8k,F:=q0t (qzs n) n }
@[reducible] def qfj:SSt:=⟨[(1,.one (.c (.box 1 0))),(3,.one (.c (.row 16))),(28,.one (.c (.d (.lst (.prod .str (.prod (.int .i64) (.prod (.int .i64) (.prod (.int .i64) (.prod .str .str))))))))),(29,.one (.c (.d (.int .i64)))),(30,.one (.c (.d (.int .i64))))],[(1,(35,[.d .str,.d .str,.d (.lst (.prod .str (.prod (.int .i64) (.prod (.int .i64) (.prod (.int .i64) (.prod .str .str)))))),.d (.lst (.prod .str .str)),.d (.lst (.prod .str (.prod (.int .i64) (.prod (.int .i64) (.prod (.int .i64) (.prod .str .str)))))),.d (.lst (.prod (.int .i64) (.prod (.int .i64) (.prod (.int .i64) (.prod .str (.prod .str (.prod (.int .i64) (.prod (.int .i64) (.prod (.int .i64) (.prod .str .str))))))))))]))],[(16,⟨9,false,.str⟩)]⟩
@[reducible] def q8o:List (Exit×SSt):=[(.exit 0,⟨[(1,.one (.c (.box 1 0))),(3,.one (.c (.row 16)))],[(1,(35,[.d .str,.d .str,.d (.lst (.prod .str (.prod (.int .i64) (.prod (.int .i64) (.prod (.int .i64) (.prod .str .str)))))),.d (.lst (.prod .str .str)),.d (.lst (.prod .str (.prod (.int .i64) (.prod (.int .i64) (.prod (.int .i64) (.prod .str .str)))))),.d (.lst (.prod (.int .i64) (.prod (.int .i64) (.prod (.int .i64) (.prod .str (.prod .str (.prod (.int .i64) (.prod (.int .i64) (.prod (.int .i64) (.prod .str .str))))))))))]))],[(16,⟨9,false,.str⟩)]⟩)]
def jgw (n:Nat) (rec:(List (List UInt8×((Int)×((Int)×((Int)×(List UInt8×(List UInt8)))))))->Int->Int->(List UInt8)->(List UInt8)->(List (List UInt8×((Int)×((Int)×((Int)×(List UInt8×(List UInt8)))))))->(List (List UInt8×(List UInt8)))->(List (List UInt8×((Int)×((Int)×((Int)×(List UInt8×(List UInt8)))))))->(List ((Int)×((Int)×((Int)×(List UInt8×(List UInt8×((Int)×((Int)×((Int)×(List UInt8×(List UInt8)))))))))))->(List (List UInt8))->Option ((Unit×(Unit×(Unit)))×(((List UInt8)×((List UInt8)×((List (List UInt8×((Int)×((Int)×((Int)×(List UInt8×(List UInt8)))))))×((List (List UInt8×(List UInt8)))×((List (List UInt8×((Int)×((Int)×((Int)×(List UInt8×(List UInt8)))))))×(List ((Int)×((Int)×((Int)×(List UInt8×(List UInt8×((Int)×((Int)×((Int)×(List UInt8×(List UInt8))))))))))))))))×(Unit))×((List (List UInt8))×(Unit)))) (a1:List (List UInt8×((Int)×((Int)×((Int)×(List UInt8×(List UInt8))))))) (a2:Int) (a3:Int) (a4:List UInt8) (a5:List UInt8) (a6:List (List UInt8×((Int)×((Int)×((Int)×(List UInt8×(List UInt8))))))) (a7:List (List UInt8×(List UInt8))) (a8:List (List UInt8×((Int)×((Int)×((Int)×(List UInt8×(List UInt8))))))) (a9:List ((Int)×((Int)×((Int)×(List UInt8×(List UInt8×((Int)×((Int)×((Int)×(List UInt8×(List UInt8))))))))))) (a10:List (List UInt8)):Option ((Unit×(Unit×(Unit)))×(((List UInt8)×((List UInt8)×((List (List UInt8×((Int)×((Int)×((Int)×(List UInt8×(List UInt8)))))))×((List (List UInt8×(List UInt8)))×((List (List UInt8×((Int)×((Int)×((Int)×(List UInt8×(List UInt8)))))))×(List ((Int)×((Int)×((Int)×(List UInt8×(List UInt8×((Int)×((Int)×((Int)×(List UInt8×(List UInt8))))))))))))))))×(Unit))×((List (List UInt8))×(Unit))) :=
 (bif decide (a3<a2) then (q1h a1 a3).bind fun (x4:List UInt8×((Int)×((Int)×((Int)×(List UInt8×(List UInt8))))))=>(q6r n x4.2).bind fun (r5:List UInt8)=>(qad n ([([114,101,113,117,105,114,101]:List UInt8),x4.1,r5]:List (List UInt8))).bind fun (r6:List UInt8)=>(q4t 16 a10 ([r6]:List (List UInt8))).bind fun (l7:List (List UInt8))=>q0e (IntKind.wrap .i64 (a3+(1:Int))) fun (n8:Int)=>rec a1 a2 n8 a4 a5 a6 a7 a8 a9 l7 else some ((((),((),())),(((a4,(a5,(a6,(a7,(a8,a9))))),()),(a10,())))))
def qxj (n:Nat) (rec:pSt qfj->Option (q0q q8o)) (p:pSt qfj):Option (q0q q8o):=jgw n (fun a1 a2 a3 a4 a5 a6 a7 a8 a9 a10=>rec (((),((),(a1,(a2,(a3,()))))),(((a4,(a5,(a6,(a7,(a8,a9))))),()),(a10,())))) p.1.2.2.1 p.1.2.2.2.1 p.1.2.2.2.2.1 p.2.1.1.1 p.2.1.1.2.1 p.2.1.1.2.2.1 p.2.1.1.2.2.2.1 p.2.1.1.2.2.2.2.1 p.2.1.1.2.2.2.2.2 p.2.2.1
def qmo (n m:Nat) (a1:List (List UInt8×((Int)×((Int)×((Int)×(List UInt8×(List UInt8))))))) (a2:Int) (a3:Int) (a4:List UInt8) (a5:List UInt8) (a6:List (List UInt8×((Int)×((Int)×((Int)×(List UInt8×(List UInt8))))))) (a7:List (List UInt8×(List UInt8))) (a8:List (List UInt8×((Int)×((Int)×((Int)×(List UInt8×(List UInt8))))))) (a9:List ((Int)×((Int)×((Int)×(List UInt8×(List UInt8×((Int)×((Int)×((Int)×(List UInt8×(List UInt8))))))))))) (a10:List (List UInt8)):Option ((Unit×(Unit×(Unit)))×(((List UInt8)×((List UInt8)×((List (List UInt8×((Int)×((Int)×((Int)×(List UInt8×(List UInt8)))))))×((List (List UInt8×(List UInt8)))×((List (List UInt8×((Int)×((Int)×((Int)×(List UInt8×(List UInt8)))))))×(List ((Int)×((Int)×((Int)×(List UInt8×(List UInt8×((Int)×((Int)×((Int)×(List UInt8×(List UInt8))))))))))))))))×(Unit))×((List (List UInt8))×(Unit))):=q0t (qxj n) m (((),((),(a1,(a2,(a3,()))))),(((a4,(a5,(a6,(a7,(a8,a9))))),()),(a10,())))
def j64 (n:Nat):LC:={ sh:=qfj,outs:=q8o,F:=q0t (qxj n) n }
def q8s (n:Nat):List LC:=[j64 n,j6b n,j77 n,j9f n]
def jgf (n:Nat) (a1:(List UInt8)×((List UInt8)×((List (List UInt8×((Int)×((Int)×((Int)×(List UInt8×(List UInt8)))))))×((List (List UInt8×(List UInt8)))×((List (List UInt8×((Int)×((Int)×((Int)×(List UInt8×(List UInt8)))))))×(List ((Int)×((Int)×((Int)×(List UInt8×(List UInt8×((Int)×((Int)×((Int)×(List UInt8×(List UInt8)))))))))))))))):Option (List UInt8) :=
 (qad n ([([109,111,100,117,108,101]:List UInt8),a1.1]:List (List UInt8))).bind fun (r1:List UInt8)=>(bif !decide (a1.2.1=([]:List UInt8)) then (qad n ([([103,111]:List UInt8),a1.2.1]:List (List UInt8))).bind fun (r2:List UInt8)=>(q4t 16 ([r1]:List (List UInt8)) ([r2]:List (List UInt8))).bind fun (l3:List (List UInt8))=>(qmo n n a1.2.2.1 ((List.length a1.2.2.1:Nat):Int) (0:Int) a1.1 a1.2.1 a1.2.2.1 a1.2.2.2.1 a1.2.2.2.2.1 a1.2.2.2.2.2 l3).bind fun (o9:(Unit×(Unit×(Unit)))×(((List UInt8)×((List UInt8)×((List (List UInt8×((Int)×((Int)×((Int)×(List UInt8×(List UInt8)))))))×((List (List UInt8×(List UInt8)))×((List (List UInt8×((Int)×((Int)×((Int)×(List UInt8×(List UInt8)))))))×(List ((Int)×((Int)×((Int)×(List UInt8×(List UInt8×((Int)×((Int)×((Int)×(List UInt8×(List UInt8))))))))))))))))×(Unit))×((List (List UInt8))×(Unit)))=>(qnj n n o9.2.1.1.2.2.2.1 ((List.length o9.2.1.1.2.2.2.1:Nat):Int) (0:Int) o9.2.1.1.1 o9.2.1.1.2.1 o9.2.1.1.2.2.1 o9.2.1.1.2.2.2.1 o9.2.1.1.2.2.2.2.1 o9.2.1.1.2.2.2.2.2 o9.2.2.1).bind fun (o14:(Unit×(Unit×(Unit)))×(((List UInt8)×((List UInt8)×((List (List UInt8×((Int)×((Int)×((Int)×(List UInt8×(List UInt8)))))))×((List (List UInt8×(List UInt8)))×((List (List UInt8×((Int)×((Int)×((Int)×(List UInt8×(List UInt8)))))))×(List ((Int)×((Int)×((Int)×(List UInt8×(List UInt8×((Int)×((Int)×((Int)×(List UInt8×(List UInt8))))))))))))))))×(Unit))×((List (List UInt8))×(Unit)))=>(qni n n o14.2.1.1.2.2.2.2.1 ((List.length o14.2.1.1.2.2.2.2.1:Nat):Int) (0:Int) o14.2.1.1.1 o14.2.1.1.2.1 o14.2.1.1.2.2.1 o14.2.1.1.2.2.2.1 o14.2.1.1.2.2.2.2.1 o14.2.1.1.2.2.2.2.2 o14.2.2.1).bind fun (o20:(Unit×(Unit×(Unit)))×(((List UInt8)×((List UInt8)×((List (List UInt8×((Int)×((Int)×((Int)×(List UInt8×(List UInt8)))))))×((List (List UInt8×(List UInt8)))×((List (List UInt8×((Int)×((Int)×((Int)×(List UInt8×(List UInt8)))))))×(List ((Int)×((Int)×((Int)×(List UInt8×(List UInt8×((Int)×((Int)×((Int)×(List UInt8×(List UInt8))))))))))))))))×(Unit))×((List (List UInt8))×(Unit)))=>(qo5 n n o20.2.1.1.2.2.2.2.2 ((List.length o20.2.1.1.2.2.2.2.2:Nat):Int) (0:Int) o20.2.2.1).bind fun (o26:(Unit×(Unit))×(Unit)×((List (List UInt8))×(Unit)))=>(q9g o26.2.2.1 ([]:List UInt8)).bind fun (r27:List UInt8)=>some r27 else (qmo n n a1.2.2.1 ((List.length a1.2.2.1:Nat):Int) (0:Int) a1.1 a1.2.1 a1.2.2.1 a1.2.2.2.1 a1.2.2.2.2.1 a1.2.2.2.2.2 ([r1]:List (List UInt8))).bind fun (o28:(Unit×(Unit×(Unit)))×(((List UInt8)×((List UInt8)×((List (List UInt8×((Int)×((Int)×((Int)×(List UInt8×(List UInt8)))))))×((List (List UInt8×(List UInt8)))×((List (List UInt8×((Int)×((Int)×((Int)×(List UInt8×(List UInt8)))))))×(List ((Int)×((Int)×((Int)×(List UInt8×(List UInt8×((Int)×((Int)×((Int)×(List UInt8×(List UInt8))))))))))))))))×(Unit))×((List (List UInt8))×(Unit)))=>(qnj n n o28.2.1.1.2.2.2.1 ((List.length o28.2.1.1.2.2.2.1:Nat):Int) (0:Int) o28.2.1.1.1 o28.2.1.1.2.1 o28.2.1.1.2.2.1 o28.2.1.1.2.2.2.1 o28.2.1.1.2.2.2.2.1 o28.2.1.1.2.2.2.2.2 o28.2.2.1).bind fun (o29:(Unit×(Unit×(Unit)))×(((List UInt8)×((List UInt8)×((List (List UInt8×((Int)×((Int)×((Int)×(List UInt8×(List UInt8)))))))×((List (List UInt8×(List UInt8)))×((List (List UInt8×((Int)×((Int)×((Int)×(List UInt8×(List UInt8)))))))×(List ((Int)×((Int)×((Int)×(List UInt8×(List UInt8×((Int)×((Int)×((Int)×(List UInt8×(List UInt8))))))))))))))))×(Unit))×((List (List UInt8))×(Unit)))=>(qni n n o29.2.1.1.2.2.2.2.1 ((List.length o29.2.1.1.2.2.2.2.1:Nat):Int) (0:Int) o29.2.1.1.1 o29.2.1.1.2.1 o29.2.1.1.2.2.1 o29.2.1.1.2.2.2.1 o29.2.1.1.2.2.2.2.1 o29.2.1.1.2.2.2.2.2 o29.2.2.1).bind fun (o30:(Unit×(Unit×(Unit)))×(((List UInt8)×((List UInt8)×((List (List UInt8×((Int)×((Int)×((Int)×(List UInt8×(List UInt8)))))))×((List (List UInt8×(List UInt8)))×((List (List UInt8×((Int)×((Int)×((Int)×(List UInt8×(List UInt8)))))))×(List ((Int)×((Int)×((Int)×(List UInt8×(List UInt8×((Int)×((Int)×((Int)×(List UInt8×(List UInt8))))))))))))))))×(Unit))×((List (List UInt8))×(Unit)))=>(qo5 n n o30.2.1.1.2.2.2.2.2 ((List.length o30.2.1.1.2.2.2.2.2:Nat):Int) (0:Int) o30.2.2.1).bind fun (o31:(Unit×(Unit))×(Unit)×((List (List UInt8))×(Unit)))=>(q9g o31.2.2.1 ([]:List UInt8)).bind fun (r32:List UInt8)=>some r32)
def qhl (n:Nat):FC:={ f:=36,args:=[.one (.agg [.d .str,.d .str,.d (.lst (.prod .str (.prod (.int .i64) (.prod (.int .i64) (.prod (.int .i64) (.prod .str .str)))))),.d (.lst (.prod .str .str)),.d (.lst (.prod .str (.prod (.int .i64) (.prod (.int .i64) (.prod (.int .i64) (.prod .str .str)))))),.d (.lst (.prod (.int .i64) (.prod (.int .i64) (.prod (.int .i64) (.prod .str (.prod .str (.prod (.int .i64) (.prod (.int .i64) (.prod (.int .i64) (.prod .str .str))))))))))])],res:=.one (.c (.d .str)),F:=fun p=>jgf n p }
def qcw (n:Nat):List FC:=[qb9 n,q6o n,q7n n,qor]
theorem q80 (n:Nat) {G:World->Prop} (hG:Know Inv G) : ∀c∈qcw n,q18 Tryz.prog G c/\q09 c.args=true:=List.forall_mem_cons.2 ⟨jcy n G hG,List.forall_mem_cons.2 ⟨qrd n G hG,List.forall_mem_cons.2 ⟨j75 n G hG,List.forall_mem_cons.2 ⟨qym G hG,(fun _ h=>by cases h)⟩⟩⟩⟩
def qct:q08:=[(7,[⟨30423614405477506761820783772160,2^102,0⟩,⟨243388915243820045087367015530496,2^105,0⟩,⟨1987676141157863701546830626095104,2^108,2⟩,⟨15576890575604482885591488987758592,2^111,0⟩,⟨127211273034103276898997160065957888,2^114,8⟩,⟨49*2^114,2^117,24⟩,⟨25089*2^108,5*2^120,62⟩,⟨53*2^120,2^123,126⟩,⟨49*2^123,5*2^126,254⟩,⟨4004566781977058768584705*2^50,604462909807314587353089*2^50,511⟩,⟨680564733841876926926750340763443268608,512,1023⟩]),(17,[⟨1234128417990904531616226886918012878737051899226310797418299904,2^207,0⟩,⟨73559785961562665201200657303214840813699477864812904451*2^27,2^210,0⟩,⟨300369126009714216238236017321460599989272867947986026497*2^28,2^213,2⟩,⟨4707826301540010572876842067405749812076766583348025884675*2^27,2^216,0⟩,⟨19223624064621709839247105108573478399313463548671105695745*2^28,2^219,8⟩,⟨49*2^219,2^222,24⟩,⟨25089*2^213,5*2^225,62⟩,⟨53*2^225,2^228,126⟩,⟨49*2^228,5*2^231,254⟩,⟨162444527514471923652347649653393377553121724408453398529*2^50,24519928653854221733733552434404946937899825954937634817*2^50,511⟩,⟨27606985387162255149739023449108101809804435888681546221775996802042880,512,1023⟩])]
theorem qjt:drB qct (q00 Tryz.f36)=true:=by kernel_rfl
theorem jd0 (n:Nat) : ∀rec p,qz1 n rec p=round Tryz.prog 97 (qcw n) (q8s n) qct 4 qg8 q8i (q01 0 3 (q00 Tryz.f36)) rec p:=by intro rec p;kernel_rfl
theorem jfm (n:Nat) : ∀rec p,qxv n rec p=round Tryz.prog 97 (qcw n) (q8s n) qct 3 qg5 q92 (q01 0 2 (q00 Tryz.f36)) rec p:=by intro rec p;kernel_rfl
theorem jet (n:Nat) : ∀rec p,qzs n rec p=round Tryz.prog 97 (qcw n) (q8s n) qct 2 qfp q8k (q01 0 1 (q00 Tryz.f36)) rec p:=by intro rec p;kernel_rfl
theorem jfq (n:Nat) : ∀rec p,qxj n rec p=round Tryz.prog 97 (qcw n) (q8s n) qct 1 qfj q8o (q01 0 0 (q00 Tryz.f36)) rec p:=by intro rec p;kernel_rfl
theorem jc3 (n:Nat) {F:Fr} (hF:F.n=97) (hK:Know Inv F.G):qdv Tryz.prog F (j9f n) (q01 0 3 (q00 Tryz.f36)) :=
 q0x hF (by kernel_rfl) (q80 n hK) (jd0 n) (fuel:=n) (fun _=>rfl) (q03 fun j L h1 h2 h3=>absurd h2 (Nat.not_lt.2 (Nat.le_trans (by decide +kernel) h1))) (q1n qjt)
theorem j99 (n:Nat) {F:Fr} (hF:F.n=97) (hK:Know Inv F.G):qdv Tryz.prog F (j77 n) (q01 0 2 (q00 Tryz.f36)) :=
 q0x hF (by kernel_rfl) (q80 n hK) (jfm n) (fuel:=n) (fun _=>rfl) (q03 fun j L h1 h2 h3=>absurd h2 (Nat.not_lt.2 (Nat.le_trans (by decide +kernel) h1))) (q1n qjt)
theorem jb0 (n:Nat) {F:Fr} (hF:F.n=97) (hK:Know Inv F.G):qdv Tryz.prog F (j6b n) (q01 0 1 (q00 Tryz.f36)) :=
 q0x hF (by kernel_rfl) (q80 n hK) (jet n) (fuel:=n) (fun _=>rfl) (q03 fun j L h1 h2 h3=>absurd h2 (Nat.not_lt.2 (Nat.le_trans (by decide +kernel) h1))) (q1n qjt)
theorem j79 (n:Nat) {F:Fr} (hF:F.n=97) (hK:Know Inv F.G):qdv Tryz.prog F (j64 n) (q01 0 0 (q00 Tryz.f36)) :=
 q0x hF (by kernel_rfl) (q80 n hK) (jfq n) (fuel:=n) (fun _=>rfl) (q03 fun j L h1 h2 h3=>absurd h2 (Nat.not_lt.2 (Nat.le_trans (by decide +kernel) h1))) (q1n qjt)
theorem jhd (n:Nat) : ∀a,(qhl n).F a=main Tryz.prog 97 (qcw n) (q8s n) qct (q00 Tryz.f36) [.tmp 2] (qhl n).args (qhl n).res a:=by intro a;kernel_rfl
theorem jhb (n:Nat):q0d Inv Tryz.prog (qhl n):=fun G hG=>⟨⟨by kernel_rfl,fun a r h=>q04 (c:=q00 Tryz.f36) Tryz.func36 (by kernel_rfl) (by kernel_rfl) (Nat.le_of_ble_eq_true (by kernel_rfl)) hG.st (by kernel_rfl) (rs:=[.tmp 2]) (by kernel_rfl) (q80 n hG) (lts:=q8s n) (fun F hF hFG=>have hK:Know Inv F.G:=hFG ▸ hG;(q03 (c:=(q00 Tryz.f36)) (fun j L h1 h2 h3=>by
  have h2':j<4:=Nat.lt_of_lt_of_le h2 (by decide +kernel)
  match j,h1,h2',h3 with
  | 0,_,_,h3=>obtain rfl:=Option.some.inj h3;exact (show q01 0 0 (q00 Tryz.f36)=q01 0 0 (q00 Tryz.f36) by kernel_rfl) ▸ j79 n hF hK
  | 1,_,_,h3=>obtain rfl:=Option.some.inj h3;exact (show q01 0 1 (q00 Tryz.f36)=q01 0 1 (q00 Tryz.f36) by kernel_rfl) ▸ jb0 n hF hK
  | 2,_,_,h3=>obtain rfl:=Option.some.inj h3;exact (show q01 0 2 (q00 Tryz.f36)=q01 0 2 (q00 Tryz.f36) by kernel_rfl) ▸ j99 n hF hK
  | 3,_,_,h3=>obtain rfl:=Option.some.inj h3;exact (show q01 0 3 (q00 Tryz.f36)=q01 0 3 (q00 Tryz.f36) by kernel_rfl) ▸ jc3 n hF hK
  | j+4,_,h2',_=>exact absurd h2' (by omega)))) qjt ((jhd n a).symm.trans h)⟩,rfl⟩
@[reducible] def qaz:SSt:=⟨[(0,.one (.c (.d (.lst (.prod .str (.prod (.int .i64) (.prod (.int .i64) (.prod (.int .i64) (.prod .str .str))))))))),(1,.one (.c (.d (.lst (.prod .str (.prod (.int .i64) (.prod (.int .i64) (.prod (.int .i64) (.prod .str .str))))))))),(12,.one (.c (.d (.int .i64)))),(13,.one (.c (.d (.int .i64))))],[],[]⟩
@[reducible] def q6i:List (Exit×SSt):=[(.ret,⟨[(4,.one (.c (.d .bool)))],[],[]⟩),(.exit 0,⟨[],[],[]⟩)]
def jdj (n:Nat) (rec:(List (List UInt8×((Int)×((Int)×((Int)×(List UInt8×(List UInt8)))))))->(List (List UInt8×((Int)×((Int)×((Int)×(List UInt8×(List UInt8)))))))->Int->Int->Option (((Bool×(Unit))×(Unit)×(Unit))⊕((Unit)×(Unit)×(Unit)))) (a1:List (List UInt8×((Int)×((Int)×((Int)×(List UInt8×(List UInt8))))))) (a2:List (List UInt8×((Int)×((Int)×((Int)×(List UInt8×(List UInt8))))))) (a3:Int) (a4:Int):Option (((Bool×(Unit))×(Unit)×(Unit))⊕((Unit)×(Unit)×(Unit))) :=
 (bif decide (a4<a3) then (q1h a1 a4).bind fun (x1:List UInt8×((Int)×((Int)×((Int)×(List UInt8×(List UInt8))))))=>(q1h a2 a4).bind fun (x2:List UInt8×((Int)×((Int)×((Int)×(List UInt8×(List UInt8))))))=>(bif !(decide (x1.1=x2.1)&&((decide (x1.2.1=x2.2.1)&&(decide (x1.2.2.1=x2.2.2.1)&&(decide (x1.2.2.2.1=x2.2.2.2.1)&&(decide (x1.2.2.2.2.1=x2.2.2.2.2.1)&&(decide (x1.2.2.2.2.2=x2.2.2.2.2.2)&&true)))))&&true)) then some (Sum.inl ((false,()),((),()))) else q0e (IntKind.wrap .i64 (a4+(1:Int))) fun (n3:Int)=>rec a1 a2 a3 n3) else some (Sum.inr (((),((),())))))
def qr5 (n:Nat) (rec:pSt qaz->Option (q0q q6i)) (p:pSt qaz):Option (q0q q6i):=jdj n (fun a1 a2 a3 a4=>rec ((a1,(a2,(a3,(a4,())))),((),()))) p.1.1 p.1.2.1 p.1.2.2.1 p.1.2.2.2.1
def qwy (n m:Nat) (a1:List (List UInt8×((Int)×((Int)×((Int)×(List UInt8×(List UInt8))))))) (a2:List (List UInt8×((Int)×((Int)×((Int)×(List UInt8×(List UInt8))))))) (a3:Int) (a4:Int):Option (((Bool×(Unit))×(Unit)×(Unit))⊕((Unit)×(Unit)×(Unit))):=q0t (qr5 n) m ((a1,(a2,(a3,(a4,())))),((),()))
def j1n (n:Nat):LC:={ sh:=qaz,outs:=q6i,F:=q0t (qr5 n) n }
def ql3 (n:Nat):List LC:=[j1n n]
def qyk (n:Nat) (a1:List (List UInt8×((Int)×((Int)×((Int)×(List UInt8×(List UInt8))))))) (a2:List (List UInt8×((Int)×((Int)×((Int)×(List UInt8×(List UInt8))))))):Option (Bool) :=
 (bif !decide (((List.length a1:Nat):Int)=((List.length a2:Nat):Int)) then some false else (qwy n n a1 a2 ((List.length a1:Nat):Int) (0:Int)).bind fun (o4:((Bool×(Unit))×(Unit)×(Unit))⊕((Unit)×(Unit)×(Unit)))=>Sum.elim (fun (q5:(Bool×(Unit))×(Unit)×(Unit))=>some q5.1.1) (fun (q6:(Unit)×(Unit)×(Unit))=>some true) o4)
def qai (n:Nat):FC:={ f:=56,args:=[.one (.c (.d (.lst (.prod .str (.prod (.int .i64) (.prod (.int .i64) (.prod (.int .i64) (.prod .str .str)))))))),.one (.c (.d (.lst (.prod .str (.prod (.int .i64) (.prod (.int .i64) (.prod (.int .i64) (.prod .str .str))))))))],res:=.one (.c (.d .bool)),F:=fun p=>qyk n p.1 p.2 }
def qrb (n:Nat):List FC:=[]
theorem qnt (n:Nat) {G:World->Prop} (hG:Know Inv G) : ∀c∈qrb n,q18 Tryz.prog G c/\q09 c.args=true:=(fun _ h=>by cases h)
def qpe:q08:=[(6,[⟨1688849860263937,2^48,0⟩,⟨13510798882144256,2^51,0⟩,⟨393*2^48,2^54,3⟩,⟨49*2^54,2^57,7⟩,⟨6917529027641081864,2^60,0⟩,⟨55340232221128687616,2^63,0⟩,⟨393*2^60,2^66,48⟩,⟨49*2^66,2^69,112⟩,⟨200705*2^57,2^72,255⟩])]
theorem j07:drB qpe (q00 Tryz.f56)=true:=by kernel_rfl
theorem j7o (n:Nat) : ∀rec p,qr5 n rec p=round Tryz.prog 26 (qrb n) (ql3 n) qpe 1 qaz q6i (q01 0 0 (q00 Tryz.f56)) rec p:=by intro rec p;kernel_rfl
theorem j3x (n:Nat) {F:Fr} (hF:F.n=26) (hK:Know Inv F.G):qdv Tryz.prog F (j1n n) (q01 0 0 (q00 Tryz.f56)) :=
 q0x hF (by kernel_rfl) (qnt n hK) (j7o n) (fuel:=n) (fun _=>rfl) (q03 fun j L h1 h2 h3=>absurd h2 (Nat.not_lt.2 (Nat.le_trans (by decide +kernel) h1))) (q1n j07)
theorem jfb (n:Nat) : ∀a,(qai n).F a=main Tryz.prog 26 (qrb n) (ql3 n) qpe (q00 Tryz.f56) [.tmp 4] (qai n).args (qai n).res a:=by intro a;kernel_rfl
theorem jcs (n:Nat):q0d Inv Tryz.prog (qai n):=fun G hG=>⟨⟨by kernel_rfl,fun a r h=>q04 (c:=q00 Tryz.f56) Tryz.func56 (by kernel_rfl) (by kernel_rfl) (Nat.le_of_ble_eq_true (by kernel_rfl)) hG.st (by kernel_rfl) (rs:=[.tmp 4]) (by kernel_rfl) (qnt n hG) (lts:=ql3 n) (fun F hF hFG=>have hK:Know Inv F.G:=hFG ▸ hG;(q03 (c:=(q00 Tryz.f56)) (fun j L h1 h2 h3=>by
  have h2':j<1:=Nat.lt_of_lt_of_le h2 (by decide +kernel)
  match j,h1,h2',h3 with
  | 0,_,_,h3=>obtain rfl:=Option.some.inj h3;exact (show q01 0 0 (q00 Tryz.f56)=q01 0 0 (q00 Tryz.f56) by kernel_rfl) ▸ j3x n hF hK
  | j+1,_,h2',_=>exact absurd h2' (by omega)))) j07 ((jfb n a).symm.trans h)⟩,rfl⟩
@[reducible] def q8v:SSt:=⟨[(0,.one (.c (.d (.lst (.prod .str .str))))),(1,.one (.c (.d (.lst (.prod .str .str))))),(12,.one (.c (.d (.int .i64)))),(13,.one (.c (.d (.int .i64))))],[],[]⟩
@[reducible] def q4u:List (Exit×SSt):=[(.ret,⟨[(4,.one (.c (.d .bool)))],[],[]⟩),(.exit 0,⟨[],[],[]⟩)]
def j7v (n:Nat) (rec:(List (List UInt8×(List UInt8)))->(List (List UInt8×(List UInt8)))->Int->Int->Option (((Bool×(Unit))×(Unit)×(Unit))⊕((Unit)×(Unit)×(Unit)))) (a1:List (List UInt8×(List UInt8))) (a2:List (List UInt8×(List UInt8))) (a3:Int) (a4:Int):Option (((Bool×(Unit))×(Unit)×(Unit))⊕((Unit)×(Unit)×(Unit))) :=
 (bif decide (a4<a3) then (q1h a1 a4).bind fun (x1:List UInt8×(List UInt8))=>(q1h a2 a4).bind fun (x2:List UInt8×(List UInt8))=>(bif !(decide (x1.1=x2.1)&&(decide (x1.2=x2.2)&&true)) then some (Sum.inl ((false,()),((),()))) else q0e (IntKind.wrap .i64 (a4+(1:Int))) fun (n3:Int)=>rec a1 a2 a3 n3) else some (Sum.inr (((),((),())))))
def qjy (n:Nat) (rec:pSt q8v->Option (q0q q4u)) (p:pSt q8v):Option (q0q q4u):=j7v n (fun a1 a2 a3 a4=>rec ((a1,(a2,(a3,(a4,())))),((),()))) p.1.1 p.1.2.1 p.1.2.2.1 p.1.2.2.2.1
def qtk (n m:Nat) (a1:List (List UInt8×(List UInt8))) (a2:List (List UInt8×(List UInt8))) (a3:Int) (a4:Int):Option (((Bool×(Unit))×(Unit)×(Unit))⊕((Unit)×(Unit)×(Unit))):=q0t (qjy n) m ((a1,(a2,(a3,(a4,())))),((),()))
def qsw (n:Nat):LC:={ sh:=q8v,outs:=q4u,F:=q0t (qjy n) n }
def qdz (n:Nat):List LC:=[qsw n]
def j3f (n:Nat) (a1:List (List UInt8×(List UInt8))) (a2:List (List UInt8×(List UInt8))):Option (Bool) :=
 (bif !decide (((List.length a1:Nat):Int)=((List.length a2:Nat):Int)) then some false else (qtk n n a1 a2 ((List.length a1:Nat):Int) (0:Int)).bind fun (o4:((Bool×(Unit))×(Unit)×(Unit))⊕((Unit)×(Unit)×(Unit)))=>Sum.elim (fun (q5:(Bool×(Unit))×(Unit)×(Unit))=>some q5.1.1) (fun (q6:(Unit)×(Unit)×(Unit))=>some true) o4)
def q7y (n:Nat):FC:={ f:=57,args:=[.one (.c (.d (.lst (.prod .str .str)))),.one (.c (.d (.lst (.prod .str .str))))],res:=.one (.c (.d .bool)),F:=fun p=>j3f n p.1 p.2 }
def qio (n:Nat):List FC:=[]
theorem qij (n:Nat) {G:World->Prop} (hG:Know Inv G) : ∀c∈qio n,q18 Tryz.prog G c/\q09 c.args=true:=(fun _ h=>by cases h)
def qic:q08:=[(6,[⟨1688849860263937,2^48,0⟩,⟨13510798882144256,2^51,0⟩,⟨393*2^48,2^54,3⟩,⟨49*2^54,2^57,7⟩,⟨6917529027641081864,2^60,0⟩,⟨55340232221128687616,2^63,0⟩,⟨393*2^60,2^66,48⟩,⟨49*2^66,2^69,112⟩,⟨200705*2^57,2^72,255⟩])]
theorem qto:drB qic (q00 Tryz.f57)=true:=by kernel_rfl
theorem j52 (n:Nat) : ∀rec p,qjy n rec p=round Tryz.prog 26 (qio n) (qdz n) qic 1 q8v q4u (q01 0 0 (q00 Tryz.f57)) rec p:=by intro rec p;kernel_rfl
theorem qyr (n:Nat) {F:Fr} (hF:F.n=26) (hK:Know Inv F.G):qdv Tryz.prog F (qsw n) (q01 0 0 (q00 Tryz.f57)) :=
 q0x hF (by kernel_rfl) (qij n hK) (j52 n) (fuel:=n) (fun _=>rfl) (q03 fun j L h1 h2 h3=>absurd h2 (Nat.not_lt.2 (Nat.le_trans (by decide +kernel) h1))) (q1n qto)
theorem j9j (n:Nat) : ∀a,(q7y n).F a=main Tryz.prog 26 (qio n) (qdz n) qic (q00 Tryz.f57) [.tmp 4] (q7y n).args (q7y n).res a:=by intro a;kernel_rfl
theorem j8x (n:Nat):q0d Inv Tryz.prog (q7y n):=fun G hG=>⟨⟨by kernel_rfl,fun a r h=>q04 (c:=q00 Tryz.f57) Tryz.func57 (by kernel_rfl) (by kernel_rfl) (Nat.le_of_ble_eq_true (by kernel_rfl)) hG.st (by kernel_rfl) (rs:=[.tmp 4]) (by kernel_rfl) (qij n hG) (lts:=qdz n) (fun F hF hFG=>have hK:Know Inv F.G:=hFG ▸ hG;(q03 (c:=(q00 Tryz.f57)) (fun j L h1 h2 h3=>by
  have h2':j<1:=Nat.lt_of_lt_of_le h2 (by decide +kernel)
  match j,h1,h2',h3 with
  | 0,_,_,h3=>obtain rfl:=Option.some.inj h3;exact (show q01 0 0 (q00 Tryz.f57)=q01 0 0 (q00 Tryz.f57) by kernel_rfl) ▸ qyr n hF hK
  | j+1,_,h2',_=>exact absurd h2' (by omega)))) qto ((j9j n a).symm.trans h)⟩,rfl⟩
@[reducible] def q8g:SSt:=⟨[(0,.one (.c (.d (.lst (.prod (.int .i64) (.prod (.int .i64) (.prod (.int .i64) (.prod .str (.prod .str (.prod (.int .i64) (.prod (.int .i64) (.prod (.int .i64) (.prod .str .str))))))))))))),(1,.one (.c (.d (.lst (.prod (.int .i64) (.prod (.int .i64) (.prod (.int .i64) (.prod .str (.prod .str (.prod (.int .i64) (.prod (.int .i64) (.prod (.int .i64) (.prod .str .str))))))))))))),(12,.one (.c (.d (.int .i64)))),(13,.one (.c (.d (.int .i64))))],[],[]⟩
@[reducible] def q4s:List (Exit×SSt):=[(.ret,⟨[(4,.one (.c (.d .bool)))],[],[]⟩),(.exit 0,⟨[],[],[]⟩)]
def j6f (n:Nat) (rec:(List ((Int)×((Int)×((Int)×(List UInt8×(List UInt8×((Int)×((Int)×((Int)×(List UInt8×(List UInt8)))))))))))->(List ((Int)×((Int)×((Int)×(List UInt8×(List UInt8×((Int)×((Int)×((Int)×(List UInt8×(List UInt8)))))))))))->Int->Int->Option (((Bool×(Unit))×(Unit)×(Unit))⊕((Unit)×(Unit)×(Unit)))) (a1:List ((Int)×((Int)×((Int)×(List UInt8×(List UInt8×((Int)×((Int)×((Int)×(List UInt8×(List UInt8))))))))))) (a2:List ((Int)×((Int)×((Int)×(List UInt8×(List UInt8×((Int)×((Int)×((Int)×(List UInt8×(List UInt8))))))))))) (a3:Int) (a4:Int):Option (((Bool×(Unit))×(Unit)×(Unit))⊕((Unit)×(Unit)×(Unit))) :=
 (bif decide (a4<a3) then (q1h a1 a4).bind fun (x1:(Int)×((Int)×((Int)×(List UInt8×(List UInt8×((Int)×((Int)×((Int)×(List UInt8×(List UInt8))))))))))=>(q1h a2 a4).bind fun (x2:(Int)×((Int)×((Int)×(List UInt8×(List UInt8×((Int)×((Int)×((Int)×(List UInt8×(List UInt8))))))))))=>(bif !((decide (x1.1=x2.1)&&(decide (x1.2.1=x2.2.1)&&(decide (x1.2.2.1=x2.2.2.1)&&(decide (x1.2.2.2.1=x2.2.2.2.1)&&(decide (x1.2.2.2.2.1=x2.2.2.2.2.1)&&true)))))&&((decide (x1.2.2.2.2.2.1=x2.2.2.2.2.2.1)&&(decide (x1.2.2.2.2.2.2.1=x2.2.2.2.2.2.2.1)&&(decide (x1.2.2.2.2.2.2.2.1=x2.2.2.2.2.2.2.2.1)&&(decide (x1.2.2.2.2.2.2.2.2.1=x2.2.2.2.2.2.2.2.2.1)&&(decide (x1.2.2.2.2.2.2.2.2.2=x2.2.2.2.2.2.2.2.2.2)&&true)))))&&true)) then some (Sum.inl ((false,()),((),()))) else q0e (IntKind.wrap .i64 (a4+(1:Int))) fun (n3:Int)=>rec a1 a2 a3 n3) else some (Sum.inr (((),((),())))))
def qjc (n:Nat) (rec:pSt q8g->Option (q0q q4s)) (p:pSt q8g):Option (q0q q4s):=j6f n (fun a1 a2 a3 a4=>rec ((a1,(a2,(a3,(a4,())))),((),()))) p.1.1 p.1.2.1 p.1.2.2.1 p.1.2.2.2.1
def qsm (n m:Nat) (a1:List ((Int)×((Int)×((Int)×(List UInt8×(List UInt8×((Int)×((Int)×((Int)×(List UInt8×(List UInt8))))))))))) (a2:List ((Int)×((Int)×((Int)×(List UInt8×(List UInt8×((Int)×((Int)×((Int)×(List UInt8×(List UInt8))))))))))) (a3:Int) (a4:Int):Option (((Bool×(Unit))×(Unit)×(Unit))⊕((Unit)×(Unit)×(Unit))):=q0t (qjc n) m ((a1,(a2,(a3,(a4,())))),((),()))
def qsz (n:Nat):LC:={ sh:=q8g,outs:=q4s,F:=q0t (qjc n) n }
def qe2 (n:Nat):List LC:=[qsz n]
def j13 (n:Nat) (a1:List ((Int)×((Int)×((Int)×(List UInt8×(List UInt8×((Int)×((Int)×((Int)×(List UInt8×(List UInt8))))))))))) (a2:List ((Int)×((Int)×((Int)×(List UInt8×(List UInt8×((Int)×((Int)×((Int)×(List UInt8×(List UInt8))))))))))):Option (Bool) :=
 (bif !decide (((List.length a1:Nat):Int)=((List.length a2:Nat):Int)) then some false else (qsm n n a1 a2 ((List.length a1:Nat):Int) (0:Int)).bind fun (o4:((Bool×(Unit))×(Unit)×(Unit))⊕((Unit)×(Unit)×(Unit)))=>Sum.elim (fun (q5:(Bool×(Unit))×(Unit)×(Unit))=>some q5.1.1) (fun (q6:(Unit)×(Unit)×(Unit))=>some true) o4)
def q7e (n:Nat):FC:={ f:=58,args:=[.one (.c (.d (.lst (.prod (.int .i64) (.prod (.int .i64) (.prod (.int .i64) (.prod .str (.prod .str (.prod (.int .i64) (.prod (.int .i64) (.prod (.int .i64) (.prod .str .str)))))))))))),.one (.c (.d (.lst (.prod (.int .i64) (.prod (.int .i64) (.prod (.int .i64) (.prod .str (.prod .str (.prod (.int .i64) (.prod (.int .i64) (.prod (.int .i64) (.prod .str .str))))))))))))],res:=.one (.c (.d .bool)),F:=fun p=>j13 n p.1 p.2 }
def qh3 (n:Nat):List FC:=[]
theorem qk8 (n:Nat) {G:World->Prop} (hG:Know Inv G) : ∀c∈qh3 n,q18 Tryz.prog G c/\q09 c.args=true:=(fun _ h=>by cases h)
def qil:q08:=[(6,[⟨1688849860263937,2^48,0⟩,⟨13510798882144256,2^51,0⟩,⟨393*2^48,2^54,3⟩,⟨49*2^54,2^57,7⟩,⟨6917529027641081864,2^60,0⟩,⟨55340232221128687616,2^63,0⟩,⟨393*2^60,2^66,48⟩,⟨49*2^66,2^69,112⟩,⟨200705*2^57,2^72,255⟩])]
theorem qun:drB qil (q00 Tryz.f58)=true:=by kernel_rfl
theorem j5j (n:Nat) : ∀rec p,qjc n rec p=round Tryz.prog 26 (qh3 n) (qe2 n) qil 1 q8g q4s (q01 0 0 (q00 Tryz.f58)) rec p:=by intro rec p;kernel_rfl
theorem qyf (n:Nat) {F:Fr} (hF:F.n=26) (hK:Know Inv F.G):qdv Tryz.prog F (qsz n) (q01 0 0 (q00 Tryz.f58)) :=
 q0x hF (by kernel_rfl) (qk8 n hK) (j5j n) (fuel:=n) (fun _=>rfl) (q03 fun j L h1 h2 h3=>absurd h2 (Nat.not_lt.2 (Nat.le_trans (by decide +kernel) h1))) (q1n qun)
theorem j81 (n:Nat) : ∀a,(q7e n).F a=main Tryz.prog 26 (qh3 n) (qe2 n) qil (q00 Tryz.f58) [.tmp 4] (q7e n).args (q7e n).res a:=by intro a;kernel_rfl
theorem j6i (n:Nat):q0d Inv Tryz.prog (q7e n):=fun G hG=>⟨⟨by kernel_rfl,fun a r h=>q04 (c:=q00 Tryz.f58) Tryz.func58 (by kernel_rfl) (by kernel_rfl) (Nat.le_of_ble_eq_true (by kernel_rfl)) hG.st (by kernel_rfl) (rs:=[.tmp 4]) (by kernel_rfl) (qk8 n hG) (lts:=qe2 n) (fun F hF hFG=>have hK:Know Inv F.G:=hFG ▸ hG;(q03 (c:=(q00 Tryz.f58)) (fun j L h1 h2 h3=>by
  have h2':j<1:=Nat.lt_of_lt_of_le h2 (by decide +kernel)
  match j,h1,h2',h3 with
  | 0,_,_,h3=>obtain rfl:=Option.some.inj h3;exact (show q01 0 0 (q00 Tryz.f58)=q01 0 0 (q00 Tryz.f58) by kernel_rfl) ▸ qyf n hF hK
  | j+1,_,h2',_=>exact absurd h2' (by omega)))) qun ((j81 n a).symm.trans h)⟩,rfl⟩
def qw8 (n:Nat):List LC:=[]
def qq8 (n:Nat) (a1:(List UInt8)×((List UInt8)×((List (List UInt8×((Int)×((Int)×((Int)×(List UInt8×(List UInt8)))))))×((List (List UInt8×(List UInt8)))×((List (List UInt8×((Int)×((Int)×((Int)×(List UInt8×(List UInt8)))))))×(List ((Int)×((Int)×((Int)×(List UInt8×(List UInt8×((Int)×((Int)×((Int)×(List UInt8×(List UInt8)))))))))))))))) (a2:(List UInt8)×((List UInt8)×((List (List UInt8×((Int)×((Int)×((Int)×(List UInt8×(List UInt8)))))))×((List (List UInt8×(List UInt8)))×((List (List UInt8×((Int)×((Int)×((Int)×(List UInt8×(List UInt8)))))))×(List ((Int)×((Int)×((Int)×(List UInt8×(List UInt8×((Int)×((Int)×((Int)×(List UInt8×(List UInt8)))))))))))))))):Option (Bool) :=
 (bif decide (a1.1=a2.1) then (bif decide (a1.2.1=a2.2.1) then (qyk n a1.2.2.1 a2.2.2.1).bind fun (r1:Bool)=>(bif r1 then (j3f n a1.2.2.2.1 a2.2.2.2.1).bind fun (r2:Bool)=>(bif r2 then (qyk n a1.2.2.2.2.1 a2.2.2.2.2.1).bind fun (r3:Bool)=>(bif r3 then (j13 n a1.2.2.2.2.2 a2.2.2.2.2.2).bind fun (r4:Bool)=>some r4 else some false) else some false) else some false) else some false) else some false)
def q8b (n:Nat):FC:={ f:=35,args:=[.one (.agg [.d .str,.d .str,.d (.lst (.prod .str (.prod (.int .i64) (.prod (.int .i64) (.prod (.int .i64) (.prod .str .str)))))),.d (.lst (.prod .str .str)),.d (.lst (.prod .str (.prod (.int .i64) (.prod (.int .i64) (.prod (.int .i64) (.prod .str .str)))))),.d (.lst (.prod (.int .i64) (.prod (.int .i64) (.prod (.int .i64) (.prod .str (.prod .str (.prod (.int .i64) (.prod (.int .i64) (.prod (.int .i64) (.prod .str .str))))))))))]),.one (.agg [.d .str,.d .str,.d (.lst (.prod .str (.prod (.int .i64) (.prod (.int .i64) (.prod (.int .i64) (.prod .str .str)))))),.d (.lst (.prod .str .str)),.d (.lst (.prod .str (.prod (.int .i64) (.prod (.int .i64) (.prod (.int .i64) (.prod .str .str)))))),.d (.lst (.prod (.int .i64) (.prod (.int .i64) (.prod (.int .i64) (.prod .str (.prod .str (.prod (.int .i64) (.prod (.int .i64) (.prod (.int .i64) (.prod .str .str))))))))))])],res:=.one (.c (.d .bool)),F:=fun p=>qq8 n p.1 p.2 }
def j0a (n:Nat):List FC:=[qai n,q7y n,q7e n]
theorem j4i (n:Nat) {G:World->Prop} (hG:Know Inv G) : ∀c∈j0a n,q18 Tryz.prog G c/\q09 c.args=true:=List.forall_mem_cons.2 ⟨jcs n G hG,List.forall_mem_cons.2 ⟨j8x n G hG,List.forall_mem_cons.2 ⟨j6i n G hG,(fun _ h=>by cases h)⟩⟩⟩
def j03:q08:=[]
theorem jf5:drB j03 (q00 Tryz.f35)=true:=by kernel_rfl
theorem jee (n:Nat) : ∀a,(q8b n).F a=main Tryz.prog 45 (j0a n) (qw8 n) j03 (q00 Tryz.f35) [.tmp 4] (q8b n).args (q8b n).res a:=by intro a;kernel_rfl
theorem j1q (n:Nat):q0d Inv Tryz.prog (q8b n):=fun G hG=>⟨⟨by kernel_rfl,fun a r h=>q04 (c:=q00 Tryz.f35) Tryz.func35 (by kernel_rfl) (by kernel_rfl) (Nat.le_of_ble_eq_true (by kernel_rfl)) hG.st (by kernel_rfl) (rs:=[.tmp 4]) (by kernel_rfl) (j4i n hG) (lts:=qw8 n) (fun F hF hFG=>have hK:Know Inv F.G:=hFG ▸ hG;(q03 fun j L h1 h2 h3=>absurd h2 (Nat.not_lt.2 (Nat.le_trans (by decide +kernel) h1)))) jf5 ((jee n a).symm.trans h)⟩,rfl⟩
def qvp (n:Nat):List LC:=[]
def jbg (n:Nat) (a1:(List UInt8)×((List UInt8)×((List (List UInt8×((Int)×((Int)×((Int)×(List UInt8×(List UInt8)))))))×((List (List UInt8×(List UInt8)))×((List (List UInt8×((Int)×((Int)×((Int)×(List UInt8×(List UInt8)))))))×(List ((Int)×((Int)×((Int)×(List UInt8×(List UInt8×((Int)×((Int)×((Int)×(List UInt8×(List UInt8)))))))))))))))):Option ((List UInt8)×(Int)) :=
 (jgf n a1).bind fun (r1:List UInt8)=>(q3l n r1).bind fun (r2:((List UInt8)×((List UInt8)×((List (List UInt8×((Int)×((Int)×((Int)×(List UInt8×(List UInt8)))))))×((List (List UInt8×(List UInt8)))×((List (List UInt8×((Int)×((Int)×((Int)×(List UInt8×(List UInt8)))))))×(List ((Int)×((Int)×((Int)×(List UInt8×(List UInt8×((Int)×((Int)×((Int)×(List UInt8×(List UInt8))))))))))))))))×(Int×(Int)))=>(bif !decide (r2.2.2=(0:Int)) then some (([]:List UInt8),r2.2.2) else (qq8 n r2.1 a1).bind fun (r3:Bool)=>(bif !r3 then some (([]:List UInt8),(1:Int)) else some (r1,(0:Int))))
def qb5 (n:Nat):FC:={ f:=14,args:=[.one (.agg [.d .str,.d .str,.d (.lst (.prod .str (.prod (.int .i64) (.prod (.int .i64) (.prod (.int .i64) (.prod .str .str)))))),.d (.lst (.prod .str .str)),.d (.lst (.prod .str (.prod (.int .i64) (.prod (.int .i64) (.prod (.int .i64) (.prod .str .str)))))),.d (.lst (.prod (.int .i64) (.prod (.int .i64) (.prod (.int .i64) (.prod .str (.prod .str (.prod (.int .i64) (.prod (.int .i64) (.prod (.int .i64) (.prod .str .str))))))))))])],res:=.tup [.c (.d .str),.c (.d (.int .i64))],F:=fun p=>jbg n p }
def j2o (n:Nat):List FC:=[qhl n,q4f n,q8b n]
theorem j5k (n:Nat) {G:World->Prop} (hG:Know Inv G) : ∀c∈j2o n,q18 Tryz.prog G c/\q09 c.args=true:=List.forall_mem_cons.2 ⟨jhb n G hG,List.forall_mem_cons.2 ⟨qj6 n G hG,List.forall_mem_cons.2 ⟨j1q n G hG,(fun _ h=>by cases h)⟩⟩⟩
def j0j:q08:=[]
theorem jez:drB j0j (q00 Tryz.f14)=true:=by kernel_rfl
theorem je5 (n:Nat) : ∀a,(qb5 n).F a=main Tryz.prog 24 (j2o n) (qvp n) j0j (q00 Tryz.f14) [.tmp 2,.tmp 3] (qb5 n).args (qb5 n).res a:=by intro a;kernel_rfl
theorem jdo (n:Nat):q0d Inv Tryz.prog (qb5 n):=fun G hG=>⟨⟨by kernel_rfl,fun a r h=>q04 (c:=q00 Tryz.f14) Tryz.func14 (by kernel_rfl) (by kernel_rfl) (Nat.le_of_ble_eq_true (by kernel_rfl)) hG.st (by kernel_rfl) (rs:=[.tmp 2,.tmp 3]) (by kernel_rfl) (j5k n hG) (lts:=qvp n) (fun F hF hFG=>have hK:Know Inv F.G:=hFG ▸ hG;(q03 fun j L h1 h2 h3=>absurd h2 (Nat.not_lt.2 (Nat.le_trans (by decide +kernel) h1)))) jez ((je5 n a).symm.trans h)⟩,rfl⟩
end Go.Proofs.YtapfankgdkdkgaaGreatDoor.AM
namespace Go.Proofs.YtapfankgdkdkgaaGreatDoor.AM
open Go.RowKit
set_option linter.unusedVariables false
set_option linter.unusedSimpArgs false
def WAt (i:Nat) (ws:List Lx.Wd):Prop:=∀w∈ws,0<=w.2/\w.2+((w.1.length:Nat):Int)<=(i:Int)
theorem WAt.mono {i j:Nat} {ws:List Lx.Wd} (h:WAt i ws) (hj:i<=j):WAt j ws:=fun w hw=>by have:=h w hw;omega
theorem WAt.snoc {i:Nat} {ws:List Lx.Wd} {w:Lx.Wd} (h:WAt i ws) (hw:0<=w.2/\w.2+((w.1.length:Nat):Int)<=(i:Int)):WAt i (ws ++ [w]):=fun x hx=>by
 rcases List.mem_append.1 hx with hx|hx
 ·exact h x hx
 ·rw [List.mem_singleton.1 hx];exact hw
theorem WAt.addL {i:Nat} {ws:List Lx.Wd} {c:UInt8} (h:WAt i ws):WAt (i+1) (Lx.addL ws c):=by
 unfold Lx.addL
 split
 ·rename_i t p hp
  have hm:(t,p)∈ws:=List.mem_of_getLast? hp
  have h0:=h _ hm
  refine WAt.snoc (fun x hx=>?_) (by simp at h0 ⊢;omega)
  have:=h x (List.dropLast_subset _ hx)
  omega
 ·exact h.mono (by omega)
theorem ql7 : ∀(l:List UInt8) (i:Nat) (op:Bool) (ws:List Lx.Wd),WAt i ws->WAt (i+l.length) (Lx.qwt l i op ws)
 | [],i,op,ws,h=>by rw [Lx.qwt];exact h
 | c::r,i,op,ws,h=>by
  rw [Lx.qwt,List.length_cons,show i+(r.length+1)=(i+1)+r.length by omega]
  split
  ·exact ql7 r (i+1) false _ ((h.mono (by omega)).snoc (by simp))
  ·split
   ·exact ql7 r (i+1) false _ (h.mono (by omega))
   ·split
    ·exact ql7 r (i+1) true _ h.addL
    ·exact ql7 r (i+1) true _ ((h.mono (by omega)).snoc (by simp))
theorem je6 (t:List UInt8):WAt t.length (q66 t):=by
 unfold q66 Lx.j0i
 rw [Lx.qq5]
 have:=ql7 (t.take (Lx.jge t false)) 0 false [] (fun w hw=>by cases hw)
 refine this.mono ?_
 simp;omega
theorem jdz (t:List UInt8) (h:t.length<=100001):WB (q66 t):=by
 refine ⟨Nat.le_trans (Lx.jfo t).1 h,fun w hw=>?_⟩
 have:=je6 t w hw
 omega
theorem SB.mono {k j:Nat} {σ:MS} (h:SB k σ) (hj:k<=j):SB j σ:=by unfold SB at *;omega
theorem qbm {k:Nat} {σ σ':MS} {c:Cl} {st:Int} {w:Lx.Wd} (h:SB k σ) (e:q2w σ c st w = .inr σ'):SB k σ':=by
 unfold q2w at e
 split at e
 ·cases e
 ·cases e;exact h
theorem jm8 {k:Nat} {σ σ':MS} {v:List UInt8} {ws:List Lx.Wd} {st:Int} (h:SB k σ) (e:qqn σ st v ws = .inr σ'):SB (k+1) σ':=by
 have h':=h.mono (Nat.le_succ k)
 obtain ⟨b1,b2,b3,b4⟩:=h
 unfold qqn at e
 split at e
 ·cases e
 ·split at e
  ·split at e
   ·cases e
   ·refine qbm (k:=k+1) ?_ e
    exact h'
  ·split at e
   ·split at e
    ·cases e
    ·refine qbm (k:=k+1) ?_ e
     exact h'
   ·split at e
    ·split at e
     ·cases e
     ·exact qbm (k:=k+1) ⟨by simp;omega,by simp;omega,by simp;omega,by simp;omega⟩ e
    ·split at e
     ·split at e
      ·cases e
      ·exact qbm (k:=k+1) ⟨by simp;omega,by simp;omega,by simp;omega,by simp;omega⟩ e
     ·split at e
      ·split at e
       ·cases e
       ·split at e
        ·cases e
        ·exact qbm (k:=k+1) ⟨by simp;omega,by simp;omega,by simp;omega,by simp;omega⟩ e
      ·split at e
       ·cases e
       ·split at e
        ·cases e
        ·split at e
         ·cases e
         ·cases e
          exact ⟨by simp;omega,by simp;omega,by simp;omega,by simp;omega⟩
theorem j8f {k:Nat} {σ σ':MS} {v:List UInt8} {ws:List Lx.Wd} {st:Int} (h:SB k σ) (e:qjp σ st v ws = .inr σ'):SB (k+1) σ':=by
 unfold qjp at e
 split at e
 ·exact jm8 h e
 ·cases e
theorem j8s {k:Nat} {σ σ':MS} {ws:List Lx.Wd} {st:Int} (h:SB k σ) (e:qd8 σ st ws = .inr σ'):SB (k+1) σ':=by
 unfold qd8 at e
 split at e
 ·cases e;exact h.mono (Nat.le_succ k)
 ·split at e
  ·split at e
   ·cases e;exact h.mono (Nat.le_succ k)
   ·exact j8f h e
  ·split at e
   ·cases e;exact h.mono (Nat.le_succ k)
   ·exact j8f h e
def tot:List (List UInt8)->Nat
 | []=>0
 | x::xs=>x.length+1+tot xs
theorem qx5 (c:UInt8) : ∀(l cur:List UInt8),tot (spl c cur l)=cur.length+l.length+1
 | [],cur=>by simp [spl,tot]
 | x::r,cur=>by
  rw [spl]
  split
  ·rw [tot,qx5 c r []];simp;omega
  ·rw [qx5 c r _];simp;omega
theorem j7k (s:List UInt8):tot (Lx.q0o s)<=s.length+1:=by
 unfold Lx.q0o
 split
 ·simp [tot]
 ·rw [qx5]
  split
  ·simp
  ·simp
theorem qt6 : ∀(ls:List (List UInt8)) (i:Nat) (out:List Lx.Ln),(Lx.q3e ls i out).2.2=0->Lx.q3e ls i out=(out++ls.map Lx.j0i,(((i+ls.length:Nat):Int),0))
 | [],i,out,_=>by rw [Lx.q3e];simp
 | x::xs,i,out,h=>by
  rw [Lx.q3e] at h ⊢
  split
  ·rename_i hc
   rw [if_pos hc] at h
   rw [qt6 xs (i+1) _ h]
   simp;omega
  ·rename_i hc
   rw [if_neg hc] at h
   cases h
def fauT (i e:Int):IV:=qft 128 (.agg ⟨[.int .i64 i,Subtype.val (errT e)]⟩)
theorem jfg (i e:Int):qrk (fauT i e)=some (i,e):=rfl
theorem jht (i e:Int):q2x (Subtype.val (fauT i e))=some false:=rfl
theorem jdw (n:Nat):qel n=q2h n:=rfl
theorem qv5 (n:Nat) (ls:List (List UInt8)) (a2:Int) (hl:ls.length<=100001) (hx : ∀x∈ls,x.length<=100001) (hn:200000<n) :
  ∀(m j:Nat) (st:Int) (σ:MS),j<=ls.length->ls.length - j<m->0<=st->st+((tot (ls.drop j):Nat):Int)<=1000000->SB j σ ->
  match q4g (ls.drop j) (j:Int) st σ with
  | .inl e=>∃ y,q2h n m (ls.map Lx.j0i) a2 ls ((ls.length:Nat):Int) (j:Int) vbs σ.sd σ.mo σ.go a2 st σ.bk σ.rq σ.sw σ.ex σ.rt=some (Sum.inl ((qt0,(fauT e.1 e.2,())),y))
  | .inr σ'=>∃ st',q2h n m (ls.map Lx.j0i) a2 ls ((ls.length:Nat):Int) (j:Int) vbs σ.sd σ.mo σ.go a2 st σ.bk σ.rq σ.sw σ.ex σ.rt =
    some (Sum.inr (((a2,((),())),((vbs,(σ'.sd,((σ'.mo,(σ'.go,((),((),((),((),(a2,(st',(σ'.bk,((),())))))))))),()))),(σ'.rq,(σ'.sw,(σ'.ex,(σ'.rt,()))))))))
 | 0,j,st,σ,_,h,_,_,_=>absurd h (Nat.not_lt_zero _)
 | m+1,j,st,σ,hj,h,h0,ht,hs=>by
  rw [qd6]
  unfold qhu
  by_cases c0:j<ls.length
  ·have c0':((j:Nat):Int)<((ls.length:Nat):Int):=by omega
   rw [List.drop_eq_getElem_cons c0] at ht ⊢
   rw [tot] at ht
   have hxj:=hx ls[j] (List.getElem_mem c0)
   have i2:q1h (ls.map Lx.j0i) (j:Int)=some (Lx.j0i ls[j]):=by
    rw [q2g (by rw [List.length_map];exact c0)];simp
   have hL:=qxr n σ (q66 ls[j]) a2 st ⟨h0,by omega⟩ (jdz _ hxj) (hs.mono (by omega)) hn
   rw [q4g]
   simp only [c0',decide_true,cond_true,q2g c0,i2,Option.bind_some]
   cases hr:qd8 σ st (q66 ls[j]) with
   | inl e =>
    rw [hr] at hL
    obtain ⟨y,hy⟩:=hL
    unfold q66 at hy
    refine ⟨((),()),?_⟩
    rw [hy]
    rfl
   | inr σ' =>
    rw [hr] at hL
    unfold q66 at hL
    have hL':_=some (q78,pk σ' a2 st vbs):=hL
    rw [hL']
    have e1:IntKind.wrap .i64 (((ls[j].length:Nat):Int)+1)=((ls[j].length:Nat):Int)+1:=wrap64 (by omega) (by omega)
    have e2:IntKind.wrap .i64 (st+(((ls[j].length:Nat):Int)+1))=st+((ls[j].length:Nat):Int)+1:=by rw [wrap64 (by omega) (by omega)];omega
    have ih:=qv5 n ls a2 hl hx hn m (j+1) (st+((ls[j].length:Nat):Int)+1) σ' (by omega) (by omega) (by omega) (by omega) (j8s hs hr)
    simp only [pk,qck,Option.bind_some,Bool.not_true,cond_false,q0e,e1,e2,q0w (show j<4611686018427387904 by omega)]
    exact ih
  ·have c0' : ¬ ((j:Nat):Int)<((ls.length:Nat):Int):=by omega
   simp only [c0',decide_false,cond_false]
   rw [List.drop_eq_nil_of_le (by omega),q4g]
   exact ⟨st,rfl⟩
theorem j49 (n:Nat) (s:List UInt8) (hs:s.length<=100000) (hn:200000<n) :
  match qji s with
  | .inl e=>q8y n s=none/\qcg n s=some (qt0,fauT e.1 e.2)
  | .inr (σ,k)=>∃ st',q8y n s=some (((),q78),pk σ k st' vbs):=by
 unfold qji q8y qcg
 obtain ⟨l1,l2⟩:=Lx.qa4 s
 have l3:=j7k s
 rw [Lx.jdp n s hs (by omega)]
 by_cases h9:(Lx.q3e (Lx.q0o s) 0 []).2.2=0
 ·rw [if_neg (by simp [h9]),qt6 _ _ _ h9]
  have hlp:=qv5 n (Lx.q0o s) ((Lx.q0o s).length:Nat) (by omega) (fun x hx=>by have:=l2 x hx;omega) hn n 0 0 ms0 (Nat.zero_le _) (by omega) (Int.le_refl _) (by rw [List.drop_zero];omega) ⟨Nat.le_refl _,Nat.le_refl _,Nat.le_refl _,Nat.le_refl _⟩
  rw [show ((0:Nat):Int)=(0:Int) from rfl,List.drop_zero] at hlp
  simp only [Option.bind_some,decide_true,Bool.not_true,cond_false,qx6,Lx.j0w n s (show s.length<=1000000 by omega),List.nil_append,Nat.zero_add,jdw]
  cases hr:q4g (Lx.q0o s) 0 0 ms0 with
  | inl e =>
   rw [hr] at hlp
   obtain ⟨y,hy⟩:=hlp
   rw [show ms0.sd = [] from rfl,show ms0.mo = [] from rfl,show ms0.go = [] from rfl,show ms0.bk = [] from rfl,show ms0.rq = [] from rfl,show ms0.sw = [] from rfl,show ms0.ex = [] from rfl,show ms0.rt = [] from rfl] at hy
   rw [hy]
   exact ⟨rfl,rfl⟩
  | inr σ =>
   rw [hr] at hlp
   obtain ⟨st',hy⟩:=hlp
   rw [show ms0.sd = [] from rfl,show ms0.mo = [] from rfl,show ms0.go = [] from rfl,show ms0.bk = [] from rfl,show ms0.rq = [] from rfl,show ms0.sw = [] from rfl,show ms0.ex = [] from rfl,show ms0.rt = [] from rfl] at hy
   rw [hy]
   simp only [Option.bind_some,Sum.elim_inr]
   by_cases hb:σ.bk = []
   ·by_cases hm:σ.mo = []
    ·simp only [hb,hm,decide_true,Bool.not_true,cond_false,cond_true,ne_eq,not_true_eq_false,if_false,if_true]
     exact ⟨trivial,rfl⟩
    ·simp only [hb,hm,decide_true,decide_false,Bool.not_true,cond_false,ne_eq,not_true_eq_false,if_false]
     exact ⟨st',by rw [<-hb];rfl⟩
   ·simp only [hb,decide_false,Bool.not_false,cond_true,ne_eq,not_false_eq_true,if_true]
    exact ⟨trivial,rfl⟩
 ·rw [if_pos h9]
  simp only [Option.bind_some,decide_eq_false h9,Bool.not_false,cond_true]
  exact ⟨trivial,rfl⟩
theorem qkk (n:Nat) (s:List UInt8) (hs:s.length<=100000) (hn:200000<n):q3l n s=some (q9p s):=by
 have h:=j49 n s hs hn
 unfold q3l q9p
 cases hr:qji s with
 | inl e =>
  rw [hr] at h
  obtain ⟨h1,h2⟩:=h
  rw [h1,h2]
  simp only [qmg,Option.bind_some,jht,Bool.not_false,cond_true,jfg]
 | inr x =>
  obtain ⟨σ,k⟩:=x
  rw [hr] at h
  obtain ⟨st',h1⟩:=h
  rw [h1]
  simp only [qmg,qck,Option.bind_some,Bool.not_true,cond_false]
  rfl
end Go.Proofs.YtapfankgdkdkgaaGreatDoor.AM
