import PyProof.Rows.All
import Wide.All
import OpenK.AllK
import Wide.FinOn
import Lean
import PyProof.EqAt
import PyProof.EqKinds
import PyProof.TupleCall
import PySem.Str
import PyProof.ZipIter
import PyProof.Draws
import PyProof.StrLawsChain
import PyProof.StrLawsTight
import KE.KIntText
import OpenK.KTop
import PyProof.StationsW
import PyProof.ExcClass2
import PyProof.ExcBaseAll.ValueError
import PyProof.Rows.Catch
import OpenK.KOwn
import KE.KTryMore
import KE.FramesApart
import PyProof.RulesAs
import PyProof.NsDelKeeps
import PyProof.ExcArgs
import PyProof.Rows.SortStr
import KE.KDictSum
import PyProof.DictWalks
import PyProof.IsiH_list
import KE.KDictOf
import PyProof.NeKinds
import PyProof.StrCalls6
import PyProof.FString
import KE.KUnpack
import KE.KItemsList
import KE.KRevIter
import KE.IntBitsLaws
import PyProof.FString5
import PyProof.TupleKey
import Wide.Seal
import PyProof.Rows.SortShellK
import PyProof.DictRoadsH
import PyProof.Rows.SortRev
import PyProof.Rows.SetFrom
import PyProof.FactsAll.set_2
import PyProof.FactsAll.set_1
import PyProof.Rows.SortShell
import PyProof.Tail
import KE.KMinKey
import PyProof.ExcArgsOwn
import PyProof.ExcAttrAll.ValueError
import KE.KRevSl
import PyProof.FactsAll.dict_itemiterator_1
import PyProof.TupleOfSeq
import PyProof.WalksMore
import KE.KDictLaws
import PyProof.Rows.Range3
import PyProof.DictValues
import KE.KDictList
import PySem.Challenge.RW_askwright_k42_first_wrong_told
local macro_rules|`(↑$x)=>`(($x).length)
local macro_rules|`(tactic|simp! [$x,*] $[$l:location]?)=>`(tactic|simp only [$x,*] $[$l]?)|`(tactic|dsimp! [$x,*] $[$l:location]?)=>`(tactic|dsimp only [$x,*] $[$l]?)
set_option hygiene false in
local macro_rules | `(command| #print $s:str) => do { let mut a := #[]; let mut n := 0; let mut k := 0; for c in s.getString.toList do { let v := c.toNat; n := n*64+(if v<58 then v-48 else if v<91 then v-55 else if v==95 then 62 else if v==126 then 63 else v-61); k := k+1; if k%11==0 then { a := a.push (Lean.mkIdent (Lean.Name.mkSimple ("tw"++toString n))); n := 0 } }; `(structure PySem.W.Fast:Prop where ($a*:True)) }
set_option maxRecDepth 100000 in
#print "C7VgyZTnbWp51qTWWZcmDB4sVVglqAmkHEpZIhWUw1jY14rxgflic5DF84eEsRggmq0iQgypSP6rTFCmi_f~dRm6CRPeBxGymRMALfBDgQZILm6qiQInv~skd8wAYgI1Q2Yt2mXozJMXVcf8N4Pd2oOEGy2rMGucHYqcs2DSWwNplgg~3ZFElz_1TPl0AfVzn0EkD2A1Qims~0SPh2gTOdNL4wME3DZvhQPvVuLDNvtYPYJVNZ38~Wso3b8ej9uNJgZmCor21FvDjt53EfT0Dc1WBYvnEW2F4YKn7yj048LHA5JFi_mA1E8mHM678bE1jdd1eevfpnEcXm80XpDJZ5B8FNAjdDNJEBTG7NHFAM76WTaYlVmgq0EcuvQqZ9Rfd2wtU0SaJjQSC7e~QVdzM34EyC8lLx7LQ_B4MrDEbBm~Q3jFNFxLCck8FnqbJFKeOhIFZZwz_IQmr8F1_wF0v5oKc2NKLS9oOGUu0~ztA4twK3sFg6Hqv3nJNBFrIc7wgHqyS4sq2I0M~oRT1j46jwRzyN8BlIrqdFp90G2Xmqtn~MqGTEEuNdwDA64VA8POX7qtlBh3B7RXquG2Qu8PXBDtn_QS5CRYD82YnY3g046o8VErH018RrlNublfjvCeOUwuaAw6HD_odcMuNk7u87jT31cjlzn2nxP6W6XvQJDRIBU9HBB3PDCw~6K52yWIAVpxKayrEl4CyxufgkpSbB0~T8f4PzY7J7l0IT2bW3FwCs3aGqHy1Az9HHyCdZmuQaDzZpgGBbpeS3yjwfm1fhJ_EynErB_lk5q6BnxWrvu1jD1wL730Yrb2n1mkaGgUZhUv2x8puD_hsBHEU2ZoNIrPqw7dfk0Lkb8_ADTEvncaqagH81YC23SVWrv689FW7qpW5k4ApEOV33xhl62_2cLrVqSSDy2UyqD5c934UY45Yfh8dWFpQs1zadNSs13GddI97iu9FFoHW5zGjmx6zehHbsFbjuF96CvPpKY209eD8nBAcnlgCObt8iNklTq06hkn5hr9BgFtS5vIatA8N0gwDehsAuQs9YK2rATXnks9L7Ba2AkShi2pWVTqoUY08BupzdQmbei_8BWSKF~fLZN7QNXNlD6lbc1oxXqohRo4kDtjkub75Yb19tqnexTu_dK60Gy9J02L2I8C6yP26SFmA5Vy_ZqewSJcD_Uwaqdv8VD0BiGJ0467sWF8fsusmDXN74lDeQJdsTOI9sky3bqiaJH4ptp6YTxcELEU26bRte42R1X~wxPUwI6S3qQBvtSRwpCD2E9GzeSCB90LCHIBlddXHF0JAryyIN4n7hP9XQQgi4s2ZgZEiuiViADp6zdwYMNXhCnuA95H4~nA269AOwSKy739hehWGwT43a8MwqW_WzRLSCtJj87KhzPwAPSFzxLexbgCQy5jNylqP~5Y4vdKgUxMj0sWKye2ExGXCXse4PYYz1_5y63f~r7f3H2w8l2Ypg5gV7O4sK63XwaY1jnLZAl5Io02Lvx7zarNrT7t3wEAwL8f53W1leyk1W~zFCXa7qjjDUsCVZ1ybO_nI_B0RL4gTNPbTCurHWMyLxkD3JSrXb0JJW65l1ErlL1SqQ4rJ0NmhXOU4EQDmknF7hFlD3J6s~1SBbV4oscHF1mYcK1Ny2_HgThEG4EaqXi~emyH12XPRNpMqAs4ntrAC9Ser16lYlX2~aaGY7M0vI~ao4GuBLvulfq0CFi5sOuxZH0CbOD3vqEOsfNOxEXV~ghlY~wEFzaKqZz_P~YATPyuejhVWWAP8p7tFhQSR3OROLoavrnHFz_sI1cVPMuFSELLTB8oDBCxSWr6HEREeDY9_v35HpOV3CQDBWiSUsn8Z0UbULH45f7p90BOUYLsi51rI1wdbQBfCjFkhZ4~MV990pbwMBneye7Gr9bKe148MB83~XV0ItFg7~tNeRyBUid5ZB3hv5sbxNEapNyEgi_oI6U8I67V3lFA4ya_iPS1Tqd8UzFE7ikZiPCdCS5rDhI3X7jXPwN2TxB96aVeVsDQ7378dya~nFU2VmBopgjNX3a0VC8IAjOWDf355FbDOnmTZ4r3B7N5PgYkMLFkrU7~srOuK9~I7jQrgJehD2oYMuO14_x7ruvYMGuRyR3P71mTjFJ~P07UGi2P0WjAArpkEh7OpOg7bx9kfxIi1r3IFSlgKOaWz98uL1glcOsN0Mp_Nycy3wn187ylfSXR4v1Wj7myIQxq24HG9EpSK5zt2ZndfDDlhaM9Y4soNKHT3JE304kpW1N0s03P6JY2TsoP538P46WWqoD6dIe4XIyBXE59LSr8o9__EC~u5kObCZQ5DUP7s94nocc9FWjD5bkaqb3ItZC~XtNHUCO3zYkHQWdz4MSfMolI~m4E7yfEJUxgNY8VMBubIK4UKEH~1zZezdyYAE4lc3FyslC2qnXBEdWr3a7GqX6Aoh5Mm8iXf7C7rTG_FnIvVGnBxaR3BvJ5nEueHH7iB~2HAVuGU2lWXRtrNsA60MkFvKDkytX3tbQAIYSRJN8wEgQBK4kM_2BlZj69ncL80110qOfz2J0BKYbIZKlLPF5BxcUTsTxMC4cne2oD1tLk5DL6JjwTJAME~8871kQ7TdCU7nULX4t2r0616sUSs3ms0BppJip9YksC8E30G4kJvC8ULEw6_DFyq070BClsZ_XtBBED8i80Aa07Ww6EaJn6DE631u8tS7rKMFakNVmalIn78JuDZQ9RxJNF1lKzYtS4~q0K7gzosdgSDFyQkY9c30xZ3n9HJXfNUsLCaFsuLP2IfR1ebSFrfohmsBseUPC4aYfI9sDOl0ohTLdE8ldb61lFCzBARu08jZymN37aqImXNUcF3YNbIZ~KFUR1kNqkgtEV9e2DUjzOlVh2eD6zHVVWU~ZF7VqjYp79LKM6HBKVLw6pM_A_HfItR0WbM0ZfJSw2mwKD5bEJ_qEroOyFKqIA6zKXAm7yvS7OflIseE5v2Hpz9fQgAM0NvhgmKZjD7Q5Q8uSqqw9Pzj6Uj1Fqg6H4pDap~xPMFhTUHWGwb1c6qV9OGOQBW67scjByipQFuCXZIpSY8CUFFi0AWoOndGMBtbHOHREJCI1odB8_eSt8tCPD55XbKBMAFp8qk7AfqNBAprV27PYHDx32Gf8jIp~ffFTlCDYdziJ8DIQW5LeLK11FRF4DrVhmAf41IcTnMt4Dm3qgNdqYEbotFfnjhzNuaDk5QWTuo6eQQu5qxIaSrtvfYCKdA591Em~36i51K02dSD1Bu_ja6trKkk0niHLfXhqgc7CUsvmEqURpBnNb_gB5rkC4wXPUReyjBBA4ymC6GNqXq22usu3ziKSL1lAnVdDdLTLBHDk1BcjuCuBcdjn~RhvCs7mTknu2QYsY7IAyRUPZf6iAHvZ3rKIBds33l0bt5q2RlBau3Zm5NOCF3PWQAAFUpug80uMzWgFTtN5RXXHfbd59iAsFo6M6XIsC7ODcWobd9rC5kfWTPqv4wPDgt00fjZRwRFyRHTwiSLwT7846a3GeedO6iA8_v~cgYz9Z~5xLP9IeIATGmtvIbvuzAMolXrp22na3~jJrGvpEts8wd51CoGLoD417dYIm1ojt12IaKR2of8tCM_gtX9xtmwAu1miMlGRXp6FqZrFEQBod1bdAL~NdNMaEotNBanRoaTE2ju1kjQ7xtAIfSvariaUz1GhiDc3ztNn8FpuGp0bPAo2I80QJCEsj~9ibQYMsTusf66bibHdS2Lo70_i7kfy0kBEznJab2Ii1P6vyF~oLcBREDdbH8XxZINBEN5S~gEI~lh5eP8mFUvSR3EHV_yLY0Z9S6RKnLONyCza7xQL2bxfubr58cFvP6KaHT5Vk1i8xVvE22VeMZpID49r3dvLCIZ85wC9MjfOsAqRgH9zOL6zMo2Xh7UHxwnRS8fh9JPYQVvhRs9EIvEZOiIs8jC7c0PFsX9QA3Iu2oXlJsbg5YlV2Mijf608~JDNPpEgi25Iju2aDz5tT63tKtvn35JE2eE1DcjW1hL5XZBj2TXUae9nmPvrDg7J0EWPV292nqOREKom~WtwyZ32SdKExgvWsu5l81H8wLnxi3P~t80wCEEeBPxBGfYSI5LFtHrI0sMy_HEAvl2hTU6AUCtUOksjhtU7ADkuoREAaXh3Yr9sjLxXgcFD6VEyb~Cv81NDPIuC8xrW8t~3N8jkIIdBq8fuui2zCv4tDyzMWG78LAAXguL~Eg7J2_~DFCMcSh7B8zQ8wrGDF4C4eL21xKip0FeGgsLxpplD64rY6J1kwW5FOyYOFUwlFQ3xy81~y2uaK728k6uXvw2VDjHV0LCKKy04C8XC8_Nb7wFAzoclll5AVB9TtSM36Hsq65OZ0ZL6vzuAEXvwFouW6pDuBT1bzYrwHB_gG6qHF_hA5PLI~Iv_TRN3PWJdT0Rby8AxlG0loSYXPBAv3_kcQ~Hp0fVAHCwWDds8DUbBXyH~Rx2drEsDOED~9DFUaptmci9W1jnvMGPKvcqB0q7_ZHvbLl4CHMkjqOXDvB2jtt62byrlDiezynZMKtUDvTKZsuPZjIC_hk6I22d~4B2M4eoyUQoU7f5mpa1dkzxCZStCLEpzmq54V4uPkIVT6Bvxkp1FQ0s45~FR8Os5VXGCjtgnqPjVfgDX_g_zN_XXcE_BORhuYlmd1j1BIuVytP_7915jKcYAcYAwgLSE~IAnlAG465GvtXzFBhxIwtOI6Sh5u0UBfIl8jH2Q4L1xehx87AI0FszTNWZG4_1BEg3tO3qFSLXm1OagtQDM~~OKFgKWvBF5j9c9YmZR1e2iI6kWcgVE2saf2fpksi6C5ih6Tgaa61ZCsCaDxenG0KRfLGuMUSX7RBxQh75rkgE0UnpGuqfuJ6R2TePR_lCuC6hbVU3LEGhEleYWtkM2sa9UlvduUy8jW3v2IqyQaAku1ZUbXZ4hrm18GtKibK3o~x8ZNATCItIYw7BMvEzUA6uGB3XVWYHijib5SvKaaaRcPt5rqzQAUq6AYCy2sA7frz3_1SCbdsiDrbs2H6XNbf2Tub40Pby4alF4vBlrtAIXX83~24bwEBr8jPZ3xX9qBTm~H0FFXCaHm8Pdh2LTZFrBdsvU5qNtLfBqfwhF2cOAWNjDEv1SCXpKrwITI8CnvzF89WJ20W4zHsb61UBBJ5lf~hDAfK4lcSGMYMeiY8eHtcA6f6pG5l9EoWlDYhHEFYtvHjpxUB2S8Rd8aqrx26etWXyNjfnr9xVtgbc2gZO4oNUPnbwGC3EFhSueIDiFdFy57qCoLzOR5WJg4ak1TFg0HBcbR6Yu8F2gfkwqyOBkO2MPQclcsVkQD9cPGkPdoa747kBbo5xuTxDIk7KKXRze96ezWl040abB0_nD3k3lSm1DCVpZpxH2IsDpCTNuEbO1w7BV4AdfAlFS3HVXUC9Vh0j9_oYuOx72jb43Dsi_~OfxM16kqPF6xnqiFJFy3btx3l83oQ7ChZnmWd4r3stc0k41m4FQTKlxsl__4GHrYLu6p7j7VQh7lDQr7a4Xd6NeUHWhi503eaYpk7b26CJiVlncWv22tYYzb1C2P00xHZ25bjSkTECU_MyN7rWo5cRkWkyVgNZE3wU2BjcwpnDC2908~DcdQEEb_1BYvzxPDr7~h~spVPk7r536AJR04z0lkVojzMAs72SPsQ8Bm_Dx1EuWAllJCD32fIuBHBMv6f9Ri9hjZqH4jEmBVBvdAaBJ2_7Wo0NFVK3EL3PDeY36J54k3KHOx~rEb4qbOR1AYWqS7QqzgRmkwIr1FZJh~mD8BtBq7UPYyYgDN02TlqIhjOK9A7Pu7r~8whc6I8zTF80K~PCMnfYeCzT0O7h6tbGbPwrTCK3xQmnwV94"
set_option bootstrap.genMatcherCode false
set_option genSizeOf false
set_option compiler.extract_closed false
local macro_rules | `(tactic| trivial) => `(tactic| first | rfl | exact .inl rfl | exact .inr rfl | exact .inr (.inl rfl) | decide +kernel | (intro _; rfl) | omega | exact ⟨rfl,rfl,rfl,by decide +kernel,rfl,by decide +kernel,by decide +kernel⟩ | (intro _ _ _ _ _ _ us hl; rcases us with _|⟨_,_|⟨_,_|⟨_,_|⟨_,_|⟨_,_|⟨_,_⟩⟩⟩⟩⟩⟩ <;> first | rfl | cases hl) | (intro _ _ _ _ h; cases h; subst_vars; rfl))
set_option hygiene false in
local macro_rules | `(tactic| ac_rfl) => `(tactic| ((try dsimp only);first|assumption|exact Inv.tk (by assumption)|exact Nat.succ_pos _|exact Nat.lt_of_lt_of_le (Inv.tk (by assumption)) (by assumption)|exact Nat.add_pos_left (Inv.tk (by assumption)) _|omega))
local macro_rules | `(()) => `(by trivial)
local macro_rules | `(#[$f:ident,$n:num,$xs,*]) => do let h ← `(_); let b ← `(by trivial); let mut a := Array.replicate n.getNat h; for x in xs.getElems do { match x.raw.isNatLit? with | some k => a := a ++ Array.replicate k h | none => a := a.push (if x.raw.isOfKind ``Lean.Parser.Term.hole then b else x) }; `(@$f $a*)
local macro_rules | `(⟨$xs,*⟩) => do let h ← `(_); let r ← `(rfl); let mut a := #[]; let mut c := false; for x in xs.getElems do { match x.raw.isNatLit? with | some 0 => { a := (a.push h).push r; c := true } | some _ => { a := a.push r; c := true } | none => a := a.push x }; if c then `(⟨$a,*⟩) else Lean.Macro.throwUnsupported
set_option hygiene false
local macro_rules | `(#v[$xs,*]) => do let mut r ← `(qd); for x in xs.getElems.reverse do { r ← `(#[qb,5,$x,$r,_]) }; return r
local macro_rules | `(%[$xs,*|$k]) => do let mut r ← `(#[qe,3,$k]); for x in xs.getElems.reverse do { r ← `(#[qc,5,$x,$r]) }; return r
local macro_rules|`(#[w])=>`((by with_unfolding_all rfl))|`(#[X,X])=>`((model X.prog X.w))|`(#[w,w])=>`((model prog w))|`(#[Y,$a,$b])=>`((⟨$a,$b⟩:Sy.Ss (SyP qs)))|`(#[K,$a,$b,$c,$d,$e])=>`(FnOk P w K mg base CX0 $a $b $c $d $e)|`(#[K,$s:str])=>`((PySem.W.nsIn K mainGlobals $s))|`(#[K,$x,$s:str])=>`((PySem.W.findIn K (.ref $x) $s=some none))|`(#[0,$s:ident])=>`($(Lean.mkIdent (s.getId++`heap.objs.size)))|`(#[I])=>`(Inv X ot σ H s)|`(#[$f:ident,T])=>`($f (P:=P) (w:=w) (base:=base) T)|`(#[$f:ident,T,C])=>`($f (P:=P) (w:=w) (base:=base) T C)
local macro_rules|`(#[$f:ident,$xs,*])=>do{let a:=xs.getElems;let k:=f.getId.toString++":"++toString a.size;match ("jI:27ab Qo:14a Qe:13a_ qz:49a_bcd____ yd:32a2_bcA__ Yu:14a qm:38abcB qaS:14_a_ qo:14a y7:38CAabc_ qJ:22a1bAD_ qF:32a4bADc__ QE:14a qA:15a qE:37abcE JR:27ab Y3:14a qY:14a_ YS:693abcdef_____ Xw:62aFb9cAdeGf_ Zb:14a qV:38abc qI:38abc qt:397aH_#b$b%bIJc___ Qb:38abcB ym:38abc pe_gR:14_a_ Qj:49a_bcd____ QK:491abcd yf:13a wq:14a QN:26KabE JB:27ab jN:15a Qn:18LaA Jm:39KabcA Qh:5992ab&cdH%cIJe___ Qx:498ab&cdH%cIJ_ JA:16Aa__ kK:16a_ pc_din:25Kab ZD:14a ZN:26ab___ Yw:16_Ma_ xD:698abH_c%dIef___".splitOn " ").find? (·.startsWith k) with|none=>Lean.Macro.throwUnsupported|some e=>let t:Array Lean.Term:=#[←`(rfl),←`(qr _),←`(uP),←`(Or.inl rfl),←`((λ_ _=>rfl)),←`((1)),←`((λ_ _ _ _ _ _=> @yB _)),←`(hr.mono ()),←`(.nil),←`(qC),←`(QU hr),←`(pv 0),←`(T.Jj)];let mut r:=#[];let mut q:=Lean.Name.anonymous;for c in (e.drop k.length).toString.toList do{let v:=c.toNat;if v<48 then q:=#[`m,`F.kp,`b,`h][v-35]! else if v<58 then r:=r.push ⟨Lean.Syntax.mkNumLit (toString (v-48))⟩ else if v<91 then r:=r.push t[v-65]! else if v==95 then r:=r.push ⟨Lean.mkNode ``Lean.Parser.Term.hole #[Lean.mkAtom "_"]⟩ else{let x:=a[v-97]!;r:=r.push (if q.isAnonymous then x else Lean.mkIdent (x.raw.getId++q));q:=Lean.Name.anonymous}};`(#[$f:ident,$r,*])}
local macro_rules|`(tactic|exists $es,*)=>do{let a:=es.getElems;match a[0]!.raw.isNatLit? with|some 2=>let b:=a.extract 1 a.size;`(tactic|intro ot s σ H $b*)|some 6=>let x:Lean.Ident:=⟨a[1]!.raw⟩;let y:Lean.Ident:=⟨a[2]!.raw⟩;`(tactic|obtain ⟨$x:ident,$y:ident⟩:=$(a[3]!) X G $(a[4]!) $(a[5]!) (by rfl'))|some 7=>`(tactic|try dsimp only [cxOf,Cx.nox])|some 3=>`(tactic|(refine ⟨_,$(a[1]!),?_⟩;exists 7;exists 4))|some 4=>`(tactic|try (apply cl_i (a:=K) (b:=a);intro _ _))|some 5=>`(tactic|repeat (first|(with_reducible refine gN_ ?_)|(with_reducible refine seq_0 ?_;intro _ _ _)|(with_reducible refine if_C ?_;intro _ _)|(with_reducible refine while_C ?_;intro _ _)|(with_reducible refine for_C ?_;intro _ _)))|some 8=>let x:Lean.Ident:=⟨a[1]!.raw⟩;let y:Lean.Ident:=⟨a[2]!.raw⟩;`(tactic|((first|refine seq_oC ?_|(exists 4;refine seq_oC ?_));intro _ _ $x $y _))|some 9=>let x:=Lean.mkIdent (a[1]!.raw.getId++`F.ok);let y:Lean.Ident:=⟨(a.getD 3 (Lean.mkIdent `hr)).raw⟩;`(tactic|refine $x $(a[2]!) (by trivial) (λ_ _ _ s H _ Q E $y h=>?_))|_=>let h←`(?_);let b:=if a.any fun x=>(x.raw.find? (·.isOfKind `Lean.Parser.Term.syntheticHole)).isSome then a else a.push h;`(tactic|(exists 5;refine ⟨$b,*⟩))}
set_option hygiene true
set_option hygiene false in
local macro_rules | `(tactic| rfl') => `(tactic| first | exact bo1 (fun _ _ _ _ _ _ _ => rfl) | exact bo2 (fun _ _ _ _ _ _ _ _ => rfl) | exact bo3 (fun _ _ _ _ _ _ _ _ _ => rfl) | exact bo4 (fun _ _ _ _ _ _ _ _ _ _ => rfl))
set_option hygiene false in
local macro_rules|`(tactic|rw [$rs,*])=>do{let a:Array Lean.Term:=rs.getElems.map (⟨·.raw[1]⟩);let y:=a[0]!;if (y.raw.isNatLit?).isSome then `(tactic|exists $a,*)else if y.raw.isOfKind `Lean.Parser.Term.hole then{let b:=a.extract 1 a.size;`(tactic|exists $b,*)}else if a.back!.raw.isNatLit? !=some 0 then Lean.Macro.throwUnsupported else `(tactic|first|(exfalso;injection $y;done)|((fail_if_success injection $y with Xx Yy Zz);injection $y with Xx Yy;subst Xx Yy)|((fail_if_success injection $y with Xx Yy);injection $y with Xx;subst Xx)|cases $y:term)}|`(tactic|rw [$rs,*] at $e:ident)=>do{let r:=rs.getElems;if r.back!.raw[1].isNatLit? !=some 0 then Lean.Macro.throwUnsupported else{let r:=r.pop;`(tactic|(rw [$r,*] at $e:ident;rw [$e:ident,0]))}}
local macro_rules|`(tactic|erw [$rs,*])=>do{let rec f (e:Lean.Syntax):Nat->Lean.MacroM (Lean.TSyntax `Lean.Parser.Tactic.rcasesPatLo)|0=>`(Lean.Parser.Tactic.rcasesPatLo|_)|n+1=>do{if e.isIdent then{let x:Lean.Ident:=⟨e⟩;`(Lean.Parser.Tactic.rcasesPatLo|$x:ident)}else{match e with|`([$xs,*])=>do{let mut p:=#[];for x in xs.getElems do{p:=p.push (← f x n)};let q:=p;let t←`(rcasesPat|⟨$q,*⟩);`(Lean.Parser.Tactic.rcasesPatLo|$t:rcasesPat)}|_=>`(Lean.Parser.Tactic.rcasesPatLo|_)}};let mut p:=#[];let mut h:Array Lean.Term:=#[];let mut z:Array Lean.Term:=#[];for r in rs.getElems do{match r with|`(Lean.Parser.Tactic.rwRule|$e:term)=>{if h.size==0 then h:=h.push e else p:=p.push (← f e 9)}|_=>z:=z.push ⟨r.raw[1]⟩};let q:=p;let g:=h[0]!;if z.isEmpty then `(tactic|obtain ⟨$q,*⟩:=$g)else `(tactic|(obtain ⟨$q,*⟩:=$g;exact $(z[0]!)))}
local macro_rules|`([$a:term : $b:term])=>`(⟨$a,$b⟩)|`([$a:term : $b:term : $c:term])=>`(⟨$a,$b,$c⟩)
set_option hygiene false in
local macro_rules(kind:=Lean.Parser.Command.declaration)|x=>do{let d:=x[1];let h:=x[0];let k:=d.getKind;let s:=d[2][1][0];let p:=fun (n:Lean.Name) (f:Lean.Name) (t:Array Lean.Name)=>Lean.mkNode `Lean.Parser.Term.explicitBinder #[Lean.mkAtom "(",Lean.mkNullNode #[Lean.mkIdent n],Lean.mkNullNode #[Lean.mkAtom ":",if t.isEmpty then Lean.mkIdent f else Lean.mkNode `Lean.Parser.Term.app #[Lean.mkIdent f,Lean.mkNullNode (t.map fun u=>(Lean.mkIdent u).raw)]],Lean.mkNullNode,Lean.mkAtom ")"];let b:=fun l=>Lean.mkNullNode (d[2][0].getArgs++l);if (k==`Lean.Parser.Command.inductive||k==`Lean.Parser.Command.structure)&&x.getPos?.isSome then return x.rewriteBottomUp (·.setInfo .none)else if k==`Lean.Parser.Command.inductive&&s[1].getId==`Sp then return x.setArg 1 (d.setArg 2 (Lean.mkNode d[2].getKind #[b #[p `vs `List #[`V],p `H `Hp #[],p `Q `VK #[],p `E_ `XK #[]],Lean.mkNullNode #[s.setArg 1 (Lean.mkNode `Lean.Parser.Term.prop #[Lean.mkAtom "Prop"])]]))else if k==`Lean.Parser.Command.abbrev then{let y:=x.setArg 0 ((h.setArg 6 Lean.mkNullNode).setArg 4 (Lean.mkNullNode #[Lean.mkNode `Lean.Parser.Command.noncomputable #[Lean.mkAtom "noncomputable"]]));if h[6].getNumArgs>0 then return y else if (h.find? (·.isAtom)).isSome||d[1][0].getId==`VE then Lean.Macro.throwUnsupported else return y.setArg 1 (Lean.mkNode `Lean.Parser.Command.definition #[Lean.mkAtom "def",d[1],d[2],d[3],Lean.mkNullNode])}else if k != `Lean.Parser.Command.definition then Lean.Macro.throwUnsupported else if (h.find? (·.isAtom)).isSome||d[2][1].getNumArgs==0 then Lean.Macro.throwUnsupported else{let t:=s[1];let n:=t[1][0].getId;let o:=t[0].getAtomVal=="#["&&(n==`C||n==`T);let l:=if o then #[p `T `Tx #[`K,`mg,`a]]++(if n==`C then #[p `C `Fx #[`K,`w,`mg,`g,`a]]else #[])else #[];return x.setArg 1 (Lean.mkNode `Lean.Parser.Command.theorem #[Lean.mkAtom "theorem",d[1],Lean.mkNode `Lean.Parser.Command.declSig #[b l,if o then s.setArg 1 (t.setArg 1 (t[1].setArg 0 (Lean.mkIdent `K)))else s],d[3]])}}
local macro_rules|`(-$x:ident)=>`(.ref $x)|`(-$x:str)=>`(.str $x)|`(-[$x,*])=>`(.tup [$x,*])
local macro_rules|`(!$x:ident)=>`(.str $x)
local macro_rules|`(¬$x:ident)=>`(.tup $x)
local macro_rules|`($x>$y)=>`($x∈$y)
local macro_rules|`(($a,$xs,*))=>if xs.getElems.size<3 then Lean.Macro.throwUnsupported else `(⟨$a,$xs,*⟩)
local macro_rules|`(tactic|let $d:letDecl)=>`(tactic|have $d:letDecl)
noncomputable section
set_option Elab.async false
set_option tactic.hygienic false
set_option linter.all false
set_option maxRecDepth 100000
set_option maxHeartbeats 4000000
open List renaming mem_cons->Ab,mem_singleton->Ac,mem_append->Ae,mem_map->Af,getElem?_eq_some_iff->Ag,length_map->u7,getElem?_eq_getElem->ub,mem_cons_of_mem->uf,mem_cons_self->ug,map_append->uj,length_cons->um,size_toArray->ur,length_append->uw,map_cons->uA,getElem?_map->uH,not_mem_nil->uI,getElem_mem->uN,map_map->uO,length_take->uQ,mem_append_right->uT,take_add_one->uV,mem_of_getElem?->uW,mem_nil_iff->uX,drop_eq_getElem_cons->vc,take_of_length_le->vg,length_drop->vh,find?_cons->vi,mem_of_mem_take->vj,lookup_cons->vt,mem_of_mem_drop->vF,append_nil->vH,eq_nil_of_length_eq_zero->vI,all_cons->vN,mem_append_left->vO,filter_cons->vR,take_length->vT,mem_of_find?_eq_some->vX,nodup_nil->vZ,filterMap_cons->U0,all_eq_true->U4,length_singleton->U8,filterMap_cons_some->Uh,drop_of_length_le->Um,find?_eq_none->Ut,forIn_cons->Ux,map_nil->Uy,nodup_cons->UF,any_cons->UH,sum_cons->UI,find?_append->UJ,getElem?_append_right->UK,getElem?_append_left->UM,cons_append->UN,map_congr_left->UP,all_map->US,all_append->UX,find?_some->V0,filter_append->V1,getLast?_cons_cons->V3,append_assoc->V6,reverse_cons->V8,range->Vq,Nodup->Vu,lookup->Vz,length->Gm,set->Gx,getD->GP,range'->GU,map_id->Hr,map_take->Hw,drop_zero->HV,length_nil->HW,nil_append->tW,any_eq_false->Te,drop_length->Tz,length_filter_le->TB,of_mem_zip->TM,any_map->TU,map->TV,zipWith_cons_cons->TW,take_succ_cons->TY,nodup_append->Fm,map_drop->Fo,getElem?_set_ne->Fw,cons_lt_cons_iff->FO,all_nil->FV,getElem?_eq_none->rf,replicate->rq,length_set->rD,length_take_le'->rL,range_succ->rT,zipIdx_nil->rW,getElem?_set_self->R6,length_replicate->R7,getElem?_replicate->Rb,eraseIdxIfInBounds_toArray->Rf,take_sublist->Rh,length_eraseIdx_of_lt->Rj,any_eq_true->Rl,getElem?_zip_eq_some->Rp,concat_eq_append->RA,eq_nil_or_concat->RC,zipIdx_cons->RL,any_toArray->RO,range_succ_eq_map->RX,take_append_drop->p6,forIn_nil->pf,mem_cons->uF,mem_singleton->Ub,mem_append->UE
open PySem renaming wpAny_bind->A7,Addr->o3,Value->o6,Shared->o7,Heap->o8,Program->o9,World->og,Around->oh,sizeLine_eq->uB,wpAny_pure->uC,boot_len->uJ,wpAny_with_toks->vf,wpAny_field->vk,wpAny_callSpecial?_slot->vq,wpAny_newObj_type->vv,wpAny_setField_rec->vw,wpAny_mono->vz,wpAny_truthy_bool->vE,call_meets->vP,wpAny_call_entry->vQ,mem_of_lookup->vV,typeIs_str->vY,wpAny_pyIter_tuple->U6,wpAny_passesOwn->Ug,wpAny_seqItems->Ul,wpAny_Call_Name_kw->Uq,tupleKind_room_in1->Us,wpAny_execs_nil->Uv,codeAny_mono->Uw,wpAny_isInstance->UO,wpAny_rule->UR,wpAny_attempt->UY,codeAny_builtin->UZ,wpAny_pyIter_list->V5,wpAny->Ve,sizeLine->Vg,FuncData->Vh,starEach->Vi,compareOp->Vm,cLine->Vn,backTo->Vp,model->Vs,IsPair->Vt,Scope->Vv,sysModules->Vy,mainGlobals->VA,IsZip->VD,pyNext->VG,rawInt->VI,codeAny->VL,field->VM,binaryOp->VN,getItem->VO,bindL->VP,valueAt->VQ,NameKind->VR,wpAny_holding->VS,bindC->VU,holding->VW,IsEnum->VX,IsPart->VY,unsetMember->V_,sliceBounds->gV,Builtin->g_,assignEach->G9,assign->Ge,keywordEach->Gf,attributeBase->Gh,atKey->Gi,backToKw->Gj,wpAny_typeOf->Gk,bindArgs->Gn,Keyword->GD,callerA->GE,stored->GF,standAt->GG,DictEntry->GH,CmpOp->GK,Result->GL,bootBuiltins->GO,BindsTo->GQ,Meets->GR,Model->GS,cellsFrom->GT,getMethod->GV,behindInMarks->GW,tupleKind->G_,swapsWith->h_,wpAny_call->Hc,call_meetsIn->Hd,limitOf->He,InCallC->Hg,callWith->Hi,wpAny_of_eq->Hj,seqIndex?->Hn,subscripted->Ho,Operator->Hq,plainId_quiet->Hv,checkBuiltinCall->Hz,storeName->HD,closureFor->HE,Params->HG,operate->HH,typeLookup->HI,wants->HK,IsEnumOut->HL,wpAny_standAt->HN,cellOf->HQ,typeOf->HY,pyIter->H_,wpAny_load->tj,newList->tm,letOwnedTupleGo->tu,getAttr->tF,wpAny_Name->tH,foldedSetIterable->tJ,strKind_is->tK,noFill_tuple_add->tM,inplaceOp->tN,evalPart_none->tO,wpAny_Call_method->tS,wpAny_execs_cons->tZ,firstArgMember->t_,compEnvC->T0,wpAny_newList->T4,builtinsNs->T7,GenState->T8,concat_meets->T9,PlainAttrs->Tb,spliced->Td,newFunctionEnv->Tf,callType_codes->Ti,seqItems?->Tn,codeAny_of_tree->To,newTuple->Ts,wpAny_letGo->Tu,leaving->Tw,codeAny_call_builtin->TF,seqIndex_of->TN,seqIndex_neg->TQ,slicePick->TX,setItem->F0,seq_tuple_add->Fa,wpAny_onRaise->Fc,wpAny_pyIter_enum->Fe,wpAny_Slice->Fi,joinFit_length->Fn,wpAny_Compare1->Ft,wpAny_comprehension_free->Fu,getattributeRaised->Fz,split_sep_max_tree->FG,intBits_le_64->FH,madeHere_tuple->FI,checkTypeCall->FJ,interactive->FK,wpAny_pyNext_list_end->FQ,wpAny_Call_method0_late->FR,wpAny_newTuple->FS,init_tuple_lookup->FY,wpAny_loadName_cell->F_,IsRangeIter->r6,boundAndCalled->rc,object_init_meets->re,wpAny_sequenceKey->rg,wpAny_storeName_local->rm,meets_str_split_cannot_occur->rB,pushCells_keeps->rF,builtinLookup_eq_fast->rH,wpAny_notIn_of->rM,wpAny_setField->rN,wpAny_pyIter_zip->rO,getAttrByItsOwn->rR,wpAny_throw->rX,wpAny_getItem_of->rY,raiseAttrError->r_,isSubtype_stop->R1,listOfItself->R8,wpAny_in_of->Rc,wpAny_getItem_list_slice->Re,wpAny_mkText->Rg,wpAny_assign_Name->Ri,call_list_seq->Rr,wpAny_Expr_any->Rs,meets_str_split_sep->Rv,sub_tuple_self->RD,wpAny_updateSeq_pair->RF,typeLookup_type->RG,wpAny_isTrue_Compare1->RI,wpAny_pyNext_list_item->RN,meets_str_split_not_found->RU,evalPart_some->RV,wpAny_loadName_local->RY,attributeErrorLeaves->p9
open PySem.W renaming Frag->o0,mg_of->uS,kia_one->vG,callWith_K->Ur
open PySem.Heap renaming get?_push_of_some->u9,get?_push_size->uD,lt_size->uG,size_push->vn,SameBut->VT,get?_update_self->tT,get?_update_other->T2,ExtBut->FL,FlyingW->rG,IsTuple->p7
open Bool renaming false_ne_true->uc,and_eq_true->uE,eq_iff_iff->U2,and_true->U9,false_eq_true->UV,true_and->Vc,true->v_,false->Vd,or_eq_true->HR,false_or->tL,and_self->Tq,and_false->Tv,false_and->TR,true_or->Rx,or_false->Rz
open Nat renaming le_refl->uh,zero_le->uK,ne_of_lt->uU,le_trans->uY,lt_irrefl->vM,ne_of_gt->U5,le_succ->Ue,le_of_lt->Ui,lt_succ_self->V9,succ_le_succ->Va,lt_of_lt_of_le->Vr,lt_or_ge->Hb,le_of_eq->Hu,lt_trans->HP,log2_le_self->tP,min_eq_left->tX,not_lt_zero->T5,zero_add->T6,succ_pos->TC,lt_of_le_of_lt->TH,le_total->f_,le_add_right->Fb,sub_zero->Fy,add_mul->rh,succ->rn,add_zero->RK,eq_zero_or_pos->RQ,one_mul->pd
open Option.some renaming inj->uL,injEq->pO
open PySem.F renaming plainAttrs_list->uM,plainAttrs_str->vb,entry_str_split->vJ,slot_list_append->vK,type_list_append->vL,slot_str_split->vS,slot_tuple_iterator_next->U3,args_str_split_2->Ua,slot_str_join->Uc,type_str_join->Ud,plainAttrs_dict->Uj,plain_tuple_new->Uk,type_str_split->Up,slot_enumerate_next->UA,slot_list_pop->UC,type_list_pop->UD,args_tuple_add_2->UQ,slot_list_insert->UT,type_list_insert->UU,entry_tuple_add->UW,slot_str_split->Uo
open PySem.PassesOwn renaming never->uP
open PyProof.Rows renaming boot_isinstance->uZ,boot_tuple->vx,callWith_type1->vy,slot_tuple_getitem->vW,boot_str->V2,envOfC->Vk,AllBare->G6,IntsAre->GJ,IsTup->GY,tail_any->Hx,Call_->HF,subscriptTail->HX,Subscript_->tD,boot_all->tE,sortedS->Ta,StrsAre->Tg,args_tuple_getitem->FN,subscriptTail_builtinR->rp,tupleItemsOf_->rC,isTrue_plain->RW,slicePart_none->RZ,entry_tuple_getitem->pk,iadd_int->pJ,callWith_builtin1->pR
open PySem.Around renaming in1_units->ve,under_plainId->UL,under->Tt
open Array renaming length_toList->vo,getElem?_toList->Uz,toList_append->tG,append_assoc->TJ,size_append->TL,toList->rQ,size_push->p8
open PySem.Calls renaming callWith_builtin->vU,spliced_cons->U7,evalArgs_plain->Uf,spliced_nil->UG,Name_function_global->FB,call_len_list->FE
open Ne renaming symm->U1
open Sum.inr renaming inj->Uu
open List.cons renaming injEq->UB
open Int renaming emod_lt_of_pos->V4,emod_nonneg->HZ,toNat_natCast->Tp
open Option renaming some->u_,none->U_,isNone->Hl,map_some->Hy,isSome_map->tU,isSome_none->Tc,map_eq_none_iff->Tj,map->rP,getD_none->Rm
open Sum renaming inr->Vf,inl->Gb
open PySem.Value renaming ref->Vj,bool->VC,str->VF,none->VZ,int->Gu,type->GC,float->tQ,bytes->Fg,isStrOf->FU,isInt->RP
open PySem.Str renaming join->Vl,length->G7,ofString->Gy,empty->tY
open ToString renaming toString->Vo
open False renaming elim->Vw
open PySem.NameKind renaming free->Vx,cell->Gg
open PySem.Builtin.Str renaming strKind->VB,occurrences->Hf
open True renaming intro->VH
open PySem.SeqAt renaming EqAt->VJ,RcAt->Fj,in_tupleAt->FA,in_listAt->rZ,RcNeAt->R_
open ForIn renaming forIn->VV
open PySem.Txt renaming startswith->Gq,slice->HJ,slice_le->RT
open PySem.Builtin.Tuple renaming tupleExact->Gr,tupleItemsOf->Ry,tupleIsExact->p_
open PySem.StrLaws renaming occBody->Gz,partsFrom->Ht,joinTotal->FD,strSub_toList->rA,glued_eq_join->R9,occ_eq->RE
open Unit renaming unit->GB
open PySem.Builtin.SmallTypes renaming nextOf->GM,ownedTupleIsFree->GX,ownedTupleHandOut->HS
open Or renaming inr->GN,inl->GZ
open Iff renaming rfl->hV,trans->HU
open ForInStep renaming yield->hZ
open Nat.le renaming dest->Hh
open PyProof.Rows.IsTup renaming new->Hk
open PySem.Obj renaming mapSeq->Hm,data_mapFields->Rq,mapFields->RB
open PySem.Builtin.Slice renaming slicePlaces->HM,sliceAdjust->tR,sliceApplied->Ro,sliceFields->Pc,slicePartIndex->Ph
open PySem.SeqAt.EqAt renaming str_int->tV,same->Tl,int_str->Fd,int_none->Fk,none_int->Fv,none_str->rS,int_int->rV,bool_bool->Ra,str_str->pc,str_none->ph,tuple_none->pw,int_bool->pA,bool_str->pE,bool_int->pH,bool_none->pI,str_bool->pP,none_tuple->pV,int_tuple->pW,tuple_str->P0,str_tuple->Pb,of_refs->Pd,none_bool->Pe,tuple_int->Pk
open LawfulMonad renaming pure_bind->T1
open PySem.Shared renaming heap->TD
open PySem.Builtin.List renaming listTooLong->TK,listFitsIndex->FW
open PySem.Code renaming isFrame->T_,frames->Rt
open PySem.SeqAt.RcAt renaming tuple_str->Ff,tuples->Fq,str_tuple->RM,str_str->pq,none_tuple->pF,str_none->pN,lists->pS,tuple_none->pU,none_str->pZ,lists_lengths->Pl
open PySem.SeqAt.RcNeAt renaming tuples->Fp,str_tuple->pL,str_str->pY,tuple_str->Pa
open PySem.Walks renaming strAscii->Fs,strWide->Rk
open PySem.Builtin.Dict renaming updateFrom->FC,selfAndRest->pQ
open Classical renaming propDecidable->FT,byContradiction->FX,choose_spec->RJ,em->pK
open PySem.Heap.SameBut renaming update->rJ
open PySem.Heap.IsSliceOf renaming new->rK
open PySem.DictEntry renaming refKey->Ru
open PySem.Heap.DictOf renaming new->RH
open List.Pairwise renaming nil->RS,map->Pf
open PySem.Builtin.Range renaming rangeSize->pB
open List.Nodup renaming sublist->pC
open PySem.MeetsSeq renaming list_pop_at->pD,list_pop_last->pT
open PySem.AutoSeq1 renaming list_extend_list_list_0->pG
open PySem.Heap.Ns1 renaming of_empty->pM
open List.range renaming loop->pX
open List.Sublist renaming refl->Pg
open PySem.Heap.IsList renaming push->Pi
open Int.ofNat renaming inj->Pj
abbrev A4:=@if_neg
abbrev A6:=@if_pos
abbrev A8:=@absurd
abbrev Aa:=@congrArg
nonrec abbrev oj:=List
nonrec abbrev om:=Option
abbrev u8:=@decide_eq_true
abbrev ud:=@decide_eq_false
abbrev ui:=@of_decide_eq_true
abbrev uR:=@or_false
abbrev vd:=@decide_eq_decide
abbrev vm:=@decide_eq_true_eq
abbrev V7:=@not_false_eq_true
abbrev Vb:=@not_or
namespace L2
open PySem PySem.Spec PyProof.Rows
nonrec abbrev Key:=Sum Int Str
abbrev oT:Key->o6->Bool
 | .inl k,v=>RP k v| .inr x,v=>FU x v
abbrev AeB (w:og):Key->Int
 | .inl k=>hashInt k| .inr x=>hashStr w x
def QF:∀{k:Key}{v:o6},oT k v=v_->(∃i t,k=Gb i/\v=Gu i t)\/(∃x t,k=Vf x/\v=VF x t)
 | .inl i,v,h=>by
  erw[Value.isInt_shape (k:=i) (v:=v) h,t,e,<-.inl (i,t,1,e)]
 | .inr x,v,h=>by
  erw[Value.isStrOf_shape (x:=x) (v:=v) h,t,e,<-.inr (x,t,1,e)]
def EF (i:Int)(t:Tok):oT (.inl i) (.int i t)=true:=by simp[oT,RP]
def EE (x:Str)(t:Tok):oT (.inr x) (.str x t)=true:=by simp[oT,FU]
def AbH (a b:Int):decide ((Gb a:Key)=Gb b)=(a==b):=by
 by_cases e:a=b
 .subst e;simp
 .let h:¬(Gb a:Key)=Gb b:=λq=>e (Sum.inl.inj q);rw[ud h];exact(beq_eq_false_iff_ne.mpr e).symm
def AbE (a b:Str):decide ((Vf a:Key)=Vf b)=decide (a=b):=by
 by_cases e:a=b
 .subst e;simp
 .let h:¬(Vf a:Key)=Vf b:=λq=>e (Uu q);rw[ud h,ud e]
def AbG (a:Int)(b:Str):decide ((Gb a:Key)=Vf b)=false:=ud (λq=>nomatch q)
def AbF (a:Str)(b:Int):decide ((Vf a:Key)=Gb b)=false:=ud (λq=>nomatch q)
abbrev Qg (prog:o9)(w:og):PySem.KeyKind prog w Key where
 is:=oT
 hash:=AeB w
 inj:=λv a b ha hb=>by
  rcases QF ha with⟨i,t,rfl,rfl⟩|⟨x,t,rfl,rfl⟩
  .rcases QF hb with⟨j,u,rfl,e⟩|⟨y,u,rfl,e⟩
   .injection e with e1 _;rw[e1]
   .exact nomatch e
  .rcases QF hb with⟨j,u,rfl,e⟩|⟨y,u,rfl,e⟩
   .exact nomatch e
   .injection e with e1 _;rw[e1]
 byValue:=λk v h=>by
  rcases QF h with⟨i,t,rfl,rfl⟩|⟨x,t,rfl,rfl⟩<;>rfl
 pyHash:=λhv h=>by
  rcases QF hv with⟨i,t,rfl,rfl⟩|⟨x,t,rfl,rfl⟩
  .exact wpAny_pyHash_int h
  .exact wpAny_pyHash_str h
 eqBool:=λhu hv h=>by
  rcases QF hu with⟨i,t,rfl,rfl⟩|⟨x,t,rfl,rfl⟩
  .rcases QF hv with⟨j,u,rfl,rfl⟩|⟨y,u,rfl,rfl⟩
   .rw[AbH] at h;exact wpAny_eqBool_int h
   .rw[AbG] at h;exact Fd i t y u _ _ _ _ h
  .rcases QF hv with⟨j,u,rfl,rfl⟩|⟨y,u,rfl,rfl⟩
   .rw[AbF] at h;exact tV x t j u _ _ _ _ h
   .rw[AbE] at h;exact wpAny_eqBool_str h
 «strs»:=λk x t v h=>by
  rcases QF h with⟨i,u,rfl,e⟩|⟨y,u,rfl,e⟩
  .exact nomatch e
  .injection e with e1 _
   subst e1
   cases v<;>rfl
def At (prog:o9)(w:og)(i:Int)(t:Tok):(Qg prog w).is (.inl i) (.int i t)=true:=EF i t
def Wq (prog:o9)(w:og)(x:Str)(t:Tok):(Qg prog w).is (.inr x) (.str x t)=true:=EE x t
inductive V where
 |non|bl (b:Bool)|int (i:Int)|str (x:Str)|byt (b:Array UInt8)|flt (b:UInt64)|ref (a:Addr)|ty (n:String)
 deriving DecidableEq
abbrev il:V->o6->Prop
 | .non,u=>u=VZ| .bl b,u=>u=VC b| .int i,u=>∃t,u=Gu i t| .str x,u=>∃t,u=VF x t| .byt b,u=>∃t,u=Fg b t| .flt b,u=>∃t,u=tQ b t| .ref a,u=>u=Vj a| .ty n,u=>u=GC n
nonrec abbrev iE:oj V->oj o6->Prop:=Paired il
variable {xs:oj V}{us:oj o6}
def iE.length (r:iE xs us):↑xs=↑us:=Paired.length r
def iE.get:∀{xs:oj V}{us:oj o6}{i:Nat}{x:V},iE xs us->xs[i]? =u_ x->∃u,us[i]? =u_ u/\il x u
 |_,_,_,_,.nil,e=>by simp at e|_,_,0,_,.cons r _,e=>by simp at e;subst e;exact[0:r]|_,_,i+1,x,.cons _ t,e=>by
  obtain⟨u,h1,h2⟩:=iE.get (i:=i) (x:=x) t (by simpa using e)
  exact⟨u,by simpa using h1,h2⟩
def iE.set {x:V}{u:o6}(r:il x u):∀{xs:oj V}{us:oj o6} (i:Nat),iE xs us->iE (xs.set i x) (us.set i u)
 |_,_,_,.nil=> .nil|_,_,0,.cons _ t=> .cons r t|_,_,i+1,.cons q t=> .cons q (iE.set r i t)
def iE.append:∀{xs ys:oj V}{us ws:oj o6},iE xs us->iE ys ws->iE (xs++ys) (us++ws)
 |_,_,_,_,.nil,s=>s|_,_,_,_,.cons r t,s=> .cons r (iE.append t s)
def iE.take:∀{xs:oj V}{us:oj o6} (n:Nat),iE xs us->iE (xs.take n) (us.take n)
 |_,_,0,_=> .nil|_,_,_+1,.nil=> .nil|_,_,n+1,.cons r t=> .cons r (iE.take n t)
def iE.drop:∀{xs:oj V}{us:oj o6} (n:Nat),iE xs us->iE (xs.drop n) (us.drop n)
 |_,_,0,r=>r|_,_,_+1,.nil=> .nil|_,_,n+1,.cons _ t=>iE.drop n t
abbrev nC:om V->om o6->Prop
 |some v,u_ u=>il v u|none,U_=>True|_,_=>False
abbrev KV {κ:Type}:oj (κ×V)->oj (κ×o6)->Prop:=Paired λ(p:κ×V) (q:κ×o6)=>p.1=q.1/\il p.2 q.2
abbrev kV:Key->V
 | .inl i=> .int i| .inr x=> !x
inductive HO where
 |lst (xs:List V)
 |tup (xs:List V)
 |dK (kvs:List (Key×V))|dT (kvs:List (List Key×V))
 |set (S:Int->Bool)(n:Nat)
 |ins (C dx:Addr)(fs:List (Str×V))
 |own (x:Addr)
 |xd (fs:List (Str×V))
 |met (f x:Addr)
 |rng (lo hi:Int)
 |frz (o:Obj)(u:HO)
 |tbl (ps:Array Value)
 |ext (φ:Heap->Prop)
nonrec abbrev Hp:=o3->om HO
abbrev upd (H:Hp)(a:o3)(o:HO):Hp:=λb=>if b=a then u_ o else H b
variable {H:Hp}{a:o3}
def qg {o:HO}:upd H a o a=u_ o:=by unfold upd;rw[A6 rfl]
variable {b:o3}
def qk {o:HO}(h:b≠a):upd H a o b=H b:=by unfold upd;rw[A4 h]
def Ac6 {o u:HO}(h:H a=u_ o)(h':H b=u_ u)(d:o≠u):a≠b:=by
 intro e;subst e;rw[h] at h';exact d (uL h')
def ql {o:HO}(h:H a=u_ o)(h':H b=U_):a≠b:=by
 intro e;subst e;rw[h] at h';rw[h',0]
section
variable (P:o9)(w:og)
abbrev yp (H:Hp)(h:o8)(a:o3):HO->Prop
 | .lst xs=>↑xs<=Vg/\∃(its:oj o6) (n:Nat),iE xs its/\h.get? a=u_ {cls:= .type "list",data:= .seq its.toArray n}| .tup xs=>↑xs<=Vg/\∃its:oj o6,iE xs its/\GY h a its.toArray| .dK kvs=>↑kvs<=Vg/\(a==Vy)=Vd/\∃vs,KV kvs vs/\h.DictOf (Qg P w) a vs| .dT kvs=>↑kvs<=Vg/\(a==Vy)=Vd/\∃xs:oj (oj Key×o3×o6),
   Paired (λ(p:oj Key×V) (q:oj Key×o3×o6)=>p.1=q.1/\H q.2.1=u_ (.tup (p.1.map kV))/\il p.2 q.2.2) kvs xs/\
   ∃o es ep,h.get? a=u_ o/\o.ExactDict/\o.data= .dict es ep/\es.toList=xs.map (entryOfKey (G_ (Qg P w)))/\(xs.map (·.1)).Nodup
 | .set S n=>h.SetOf (intKind P w) a S n| .ins C dx fs=>H dx=u_ (.own a)/\↑fs<=1000/\dx≠a/\h.get? a=u_ (PySem.W.instObj C dx)/\
   ∃mA,h.Ns1 dx mA/\(∀f,nC (fs.lookup f) (mA f))/\PySem.Within mA (fs.map (·.1))
 | .own _=>∃o,h.get? a=u_ o| .xd fs=>∃mA,h.Ns1 a mA/\∀f,nC (fs.lookup f) (mA f)| .rng lo hi=>∃t u v,h.get? a=u_ {cls:= .type "range",data:= .fields #[.int lo t,.int hi u,.int 1 v]}| .frz o u=>h.get? a=u_ o/\yp H h a u| .tbl ps=>h.get? a=u_ {cls:= .none,data:= .fields ps}| .met f x=>h.get? a=u_ (PySem.W.methodObj (-f) (-x))| .ext φ=>φ h/\(∃o,h.get? a=u_ o)/\∀h1 h2:o8,φ h1->(∀o,h1.get? a=u_ o->h2.get? a=u_ o)->φ h2
abbrev HOk (H:Hp)(h:o8):Prop:=∀a o,H a=u_ o->yp P w H h a o
end
section
variable {P:o9}{w:og}{H H':Hp}{h h':o8}{a:o3}{o:HO}
def yp.lt (x:yp P w H h a o):a<h.objs.size:=by
 cases o with
 |lst xs=>erw[x,_,_,_,_,e,<-uG e]|tup xs=>erw[x,_,_,_,p,<-p.lt]|dK kvs=>erw[x,_,_,_,_,o,_,_,e,_,<-uG e]|dT kvs=>erw[x,_,_,_,_,o,_,_,e,_,<-uG e]|set S n=>erw[x,o,_,_,_,e,_,<-uG e]|ins C dx fs=>erw[x,_,_,_,e,_,<-uG e]|own y=>erw[x,_,e,<-uG e]|xd fs=>erw[x,_,[_,_,_,e,_],_,<-uG e]|rng lo hi=>erw[x,_,_,_,e,<-uG e]|frz ob u=>erw[x,e,_,<-uG e]|tbl ps=>exact uG (show h.get? a=u_ _ from x)|met f y=>exact uG (show h.get? a=u_ _ from x)|ext φ=>erw[x,_,[_,e],_,<-uG e]
def Paired.mapP {α β:Type}{F G:α->β->Prop}:∀{l₁:oj α}{l₂:oj β},Paired F l₁ l₂->(∀a b,F a b->G a b)->Paired G l₁ l₂
 |_,_,.nil,_=> .nil|_,_,.cons r t,f=> .cons (f _ _ r) (Paired.mapP t f)
def yp.stay (x:yp P w H h a o)(k:∀b u,(b=a\/H b=u_ (.own a))->h.get? b=u_ u->h'.get? b=u_ u)
  (U:∀b,H b=u_ (.own a)->H' b=u_ (.own a)) (Z:∀b xs,H b=u_ (¬xs)->H' b=u_ (¬xs)):yp P w H' h' a o:=by
 induction o with
 |lst xs=>erw[x,z,its,n,r,e,<-(z,its,n,r,k _ _ (.inl rfl) e)]|tup xs=>erw[x,z,its,r,ob,e,c,<-(z,its,r,ob,k _ _ (.inl rfl) e,c)]|dK kvs=>erw[x,z,y,vs,r,ob,es,ep,e,c,<-(z,y,vs,r,ob,es,ep,k _ _ (.inl rfl) e,c)]|dT kvs=>
  erw[x,z,y,xs,r,ob,es,ep,e,c,<-(z,y,xs,Paired.mapP r λp q z=>[z.1:Z _ _ z.2.1:z.2.2],ob,es,ep,k _ _ (.inl rfl) e,c)]
 |set S n=>erw[x,ob,es,ep,t,e,c,<-(ob,es,ep,t,k _ _ (.inl rfl) e,c)]|ins C dx fs=>
  erw[x,d,z,ne,e,mA,[od,es,ep,e2,c],r,<-(U _ d,z,ne,k _ _ (.inl rfl) e,mA,(od,es,ep,k _ _ (.inr d) e2,c),r)]
 |own y=>erw[x,ob,e,<-[ob:k _ _ (.inl rfl) e]]|xd fs=>erw[x,mA,[od,es,ep,e,c],r,<-[mA:(od,es,ep,k _ _ (.inl rfl) e,c):r]]|rng lo hi=>erw[x,t,u,v,e,<-(t,u,v,k _ _ (.inl rfl) e)]|frz ob u ih=>erw[x,e,q,<-[k _ _ (.inl rfl) e:ih q]]|tbl ps=>
  let e:h.get? a=u_ {cls:= .none,data:= .fields ps}:=x;show h'.get? a=u_ {cls:= .none,data:= .fields ps};exact k a _ (.inl rfl) e
 |met f y=>
  let e:h.get? a=u_ (PySem.W.methodObj (-f) (-y)):=x;show h'.get? a=u_ (PySem.W.methodObj (-f) (-y));exact k a _ (.inl rfl) e
 |ext φ=>erw[x,p,[o,e],st,<-[st _ _ p λo q=>k _ _ (.inl rfl) q:[o:k _ _ (.inl rfl) e]:st]]
def HOk.lt (x:HOk P w H h)(e:H a=u_ o):a<h.objs.size:=(x a o e).lt
def HOk.fresh (x:HOk P w H h)(e:h.objs.size<=a):H a=none:=by
 cases q:H a with
 |none=>rfl|some u=>exact A8 (Vr (x.lt q) e) (vM _)
def HOk.kept (x:HOk P w H h)(k:∀b u,h.get? b=u_ u->h'.get? b=u_ u):HOk P w H h':=λa o e=>
 (x a o e).stay (λb u _ q=>k b u q) (λ_ q=>q) λ_ _ q=>q
def HOk.laid (x:HOk P w H h)(k:∀b u,h.get? b=u_ u->h'.get? b=u_ u)(Z:h.objs.size<=a)(new:yp P w (upd H a o) h' a o):HOk P w (upd H a o) h':=λb u e=>by
 let hn:=x.fresh Z;by_cases U:b=a
 .subst U;rw[qg,0] at e;exact new
 .rw[qk U] at e;exact(x b u e).stay (λc v _ q=>k c v q) (λc q=>by rwa[qk (ql q hn)]) λc xs q=>by rw[qk (ql q hn)];exact q
end
abbrev Rd (H:Hp)(a:o3)(u:HO):Prop:=H a=u_ u\/∃o,H a=u_ (.frz o u)
def Rd.of {u:HO}(h:H a=u_ u):Rd H a u:= .inl h
variable {w:og}{h:o8}
def Rd.ok {P:o9}{u:HO}(r:Rd H a u)(x:HOk P w H h):yp P w H h a u:=by
 rcases r with r|⟨o,r⟩
 .exact x a u r
 .erw[x a _ r,_,q,<-q]
abbrev Mut:om HO->Prop
 |some (.lst _)=>True|some (.dK _)=>True|some (.dT _)=>True|some (.set _ _)=>True|some (.ins _ _ _)=>True|some (.ext _)=>True|_=>False
section
variable {P:o9}{w:og}{H:Hp}{h h':o8}{x e:o3}{o':HO}
def HOk.write (ok:HOk P w H h)(mu:Mut (H x))(he:e=x\/H e=u_ (.own x))(k:∀b u,b≠e->h.get? b=u_ u->h'.get? b=u_ u)(ac:∃u,h'.get? e=u_ u)
  (new:yp P w (upd H x o') h' x o'):HOk P w (upd H x o') h':=λb u q=>by
 let Z:∀c y,H c=u_ (.own y)->c≠x:=λc y r z=>by subst z;rwa[r] at mu
 let aa:∀c xs,H c=u_ (¬xs)->c≠x:=λc xs r z=>by subst z;rwa[r] at mu
 by_cases hb:b=x
 .subst hb;rw[qg,0] at q;exact new
 .rw[qk hb] at q;by_cases U:b=e
  .let q':H b=u_ (.own x):=by
    rcases he with z|z
    .exact A8 (U.trans z) hb
    .rwa[U]
   rw[q] at q';rw[q',0];erw[ac,v,hv,<-⟨v,by rwa[U]⟩]
  .refine(ok b u q).stay (λc v hc r=>k c v ?_ r) (λc r=>by rwa[qk (Z c b r)]) λc xs r=>by rwa[qk (aa c xs r)]
   rcases hc with rfl|hc
   .exact U
   .rintro rfl;rcases he with z|z
    .exact Z c b hc z
    .rw[hc,0] at z;exact hb rfl
end
structure Un (fs ex:oj o3)(H H':Hp)(h h':o8):Prop where
 keep:∀b o,h.get? b=u_ o->H b=U_->b∉fs->b∉ex->h'.get? b=u_ o
 slot:∀b o,h.get? b=u_ o->H b=U_->b>fs->b∉ex->∃sl,h'.get? b=u_ {o with slots:=sl}
 free:∀b o,h.get? b=u_ o->H b=U_->b∉ex->H' b=U_
 there:∀b o,h.get? b=u_ o->b∉ex->∃o',h'.get? b=u_ o'
 tups:∀b xs,H b=u_ (¬xs)->H' b=u_ (¬xs)
 frzs:∀b o u,H b=u_ (.frz o u)->H' b=u_ (.frz o u)
 tbls:∀b ps,H b=u_ (.tbl ps)->∃more,H' b=u_ (.tbl (ps++more))
section
variable {fs fs' ex ex':oj o3}{H H1 H2:Hp}{h h1 h2 h':o8}{a x e:o3}{o:HO}
def Un.any (u:Un fs ex H H1 h h1){ob:Obj}(q:h.get? b=u_ ob)(n:H b=U_)(U:b∉ex):∃sl,h1.get? b=u_ {ob with slots:=sl}:=by
 by_cases Z:b>fs
 .exact u.slot b ob q n Z U
 .exact[ob.slots:u.keep b ob q n Z U]
def Un.trans (a:Un fs ex H H1 h h1)(b:Un fs ex H1 H2 h1 h2):Un fs ex H H2 h h2 where
 keep:=λc ob q n hc U=>b.keep c ob (a.keep c ob q n hc U) (a.free c ob q n U) hc U
 slot:=λc ob q n hc U=>by
  erw[a.slot c ob q n hc U,sl,Z];erw[b.slot c _ Z (a.free c ob q n U) hc U,aa,e2,<-[aa:e2]]
 free:=λc ob q n U=>by
  erw[a.there c ob q U,o',Z,<-b.free c o' Z (a.free c ob q n U) U]
 there:=λc ob q U=>by
  erw[a.there c ob q U,o',Z,<-b.there c o' Z U]
 tups:=λc xs q=>b.tups c xs (a.tups c xs q)
 frzs:=λc ob xs q=>b.frzs c ob xs (a.frzs c ob xs q)
 tbls:=λc ps q=>by
  erw[a.tbls c ps q,m1,Z];erw[b.tbls c _ Z,m2,e2,<-⟨m1++m2,by rw[e2,TJ]⟩]
def Un.kept (k:∀b u,h.get? b=u_ u->h'.get? b=u_ u):Un fs ex H H h h':=
 (λb ob q _ _ _=>k b ob q,λb ob q _ _ _=>[ob.slots:k b ob q],λ_ _ _ n _=>n,λb ob q _=>[ob:k b ob q],λ_ _ q=>q,λ_ _ _ q=>q,λ_ ps q=>⟨#[],by rw[q];simp⟩)
def Un.refl:Un fs ex H H h h:=Un.kept λ_ _ q=>q
def Un.laid (k:∀b u,h.get? b=u_ u->h'.get? b=u_ u)(U:h.objs.size<=a)(hn:H a=U_):Un fs ex H (upd H a o) h h' where
 keep:=λb u q _ _ _=>k b u q
 slot:=λb u q _ _ _=>[u.slots:k b u q]
 free:=λb u q n _=>by rwa[qk (uU (Vr (uG q) U))]
 there:=λb u q _=>[u:k b u q]
 tups:=λb xs q=>by rwa[qk (ql q hn)]
 frzs:=λb u xs q=>by rwa[qk (ql q hn)]
 tbls:=λb ps q=>⟨#[],by rw[qk (ql q hn),q];simp⟩
def Un.write (mu:Mut (H x))(he:e=x\/H e=u_ (.own x))(k:∀b u,b≠e->h.get? b=u_ u->h'.get? b=u_ u)(Z:∃u,h'.get? e=u_ u):Un fs ex H (upd H x o) h h':=by
 let hx:∀b,H b=U_->b≠x:=λb n z=>by subst z;rwa[n] at mu
 let hb:∀b,H b=U_->b≠e:=λb n z=>by
  subst z;rcases he with r|r
  .exact hx b n r
  .rw[n,0] at r
 let hm:∀b u,H b=u_ u->¬Mut (u_ u)->b≠x:=λb u q nm z=>by subst z;rw[q] at mu;exact nm mu
 refine(λb u q n _ _=>k b u (hb b n) q,λb u q n _ _=>[u.slots:k b u (hb b n) q],λb u q n _=>by rwa[qk (hx b n)],λb u q _=>?_,
  λb xs q=>by rwa[qk (hm b _ q λz=>z)],λb u xs q=>by rwa[qk (hm b _ q λz=>z)],λb ps q=>⟨#[],by rw[qk (hm b _ q λz=>z),q];simp⟩)
 by_cases U:b=e
 .subst U;exact Z
 .exact[u:k b u U q]
end
abbrev trk (h:o8)(H:Hp):oj o3:=(Vq h.objs.size).filter λa=>(H a).isSome
abbrev Mm (h:o8)(H:Hp):o8:=PySem.W.hideAll h (trk h H)
def EV (h:o8)(H:Hp):(Mm h H).objs.size=h.objs.size:=PySem.W.hideAll_size _ _
variable {o:Obj}
def Ml (e:h.get? b=u_ o)(n:H b=U_):(Mm h H).get? b=u_ o:=
 PySem.W.hideAll_get _ e λhm=>by
  let q:(H b).isSome=true:=(List.mem_filter.mp hm).2;rw[n] at q;simp at q
def PV (e:(Mm h H).get? b=u_ o):h.get? b=u_ o/\H b=none:=by
 let U:h.get? b=u_ o:=PySem.W.of_hideAll (trk h H) e;rw[_,U];cases q:H b with
 |none=>rfl|some x=>
  let hm:b>trk h H:=List.mem_filter.mpr ⟨List.mem_range.mpr (uG U),by simp[q]⟩
  let z:(Mm h H).get? b=none:=PySem.W.hideAll_none (trk h H) hm;rw[z,0] at e
structure Mod (K:o0)(mg:Str->om o6)(base:o8):Prop where
 kin:K.In base
 glob:base.Ns VA mg
 blt:∃mb,base.Ns T7 mb/\∀x:Str,x≠"__name__"->mb x=GO x
 nolimit:base.NoLimit
structure Cx where
 prog:o9
 w:og
 K:o0
 mg:Str->om o6
 base:o8
 A:oh
 N:oj Str
 s₀:o7
 H₀:Hp
 env:Env
 outer:oj Env
 stack:oj Env
 ex:oj o3
 fn:Str->Bool
 calm:Bool
 pn:oj (o3×Obj)
 xe:o6->o7->Prop
abbrev frs (l:oj Env):oj o3:=l.filterMap (·.frame)
nonrec abbrev Cx.fs (X:Cx):oj o3:=frs X.outer
abbrev Vis (sc:Vv)(x:Str):Prop:=sc.names.lookup x=u_ .local\/sc.names.lookup x=u_ .cell\/sc.names.lookup x=u_ .free
abbrev Loc (sc:Vv)(x:Str):Prop:=sc.names.lookup x=u_ .local\/sc.names.lookup x=u_ .cell
abbrev AeK (env:Env)(h:o8)(m:Str->om o6)(x:Str)(u:o6):Prop:=
 (env.kindOf x=u_ .local/\m x=u_ u)\/((env.kindOf x=u_ .cell\/env.kindOf x=u_ .free)/\∃c,env.cells.lookup x=u_ c/\h.IsCell c (u_ u))
structure Cx.Ok (X:Cx):Prop where
 mod:Mod X.K X.mg X.base
 kind:X.env.scope.kind= .function
 glob:X.env.globals=VA
 blt:X.env.builtins=T7
 above:X.s₀.heap.objs.size<=X.env.locals
 inj:∀x y c,X.env.cells.lookup x=u_ c->X.env.cells.lookup y=u_ c->x=y
 has:∀x,(X.env.kindOf x=u_ .cell\/X.env.kindOf x=u_ .free)->∃c,X.env.cells.lookup x=u_ c
 cab:∀x c,X.fn x=v_->X.env.cells.lookup x=u_ c->X.s₀.heap.objs.size<=c
 hd:X.calm=v_->X.A.handled=U_
 frames:X.A.frames=u_ X.stack
 stk:X.stack=X.outer\/(X.stack=X.env::X.outer/\X.env.frame=u_ X.env.locals)
 exf:∀b>X.ex,b≠X.env.locals/\∀x c,X.env.cells.lookup x=u_ c->c≠b
 bs:∀b o,X.base.get? b=u_ o->X.s₀.heap.get? b=u_ o/\X.H₀ b=U_
 bsz:X.base.objs.size<=X.s₀.heap.objs.size
 noex:∀b o,X.base.get? b=u_ o->b∉X.ex
 exfs:∀b>X.ex,b∉X.fs
 funs:X.s₀.heap.FunFrames X.base X.outer
 frf:∀b>X.fs,X.H₀ b=U_
structure Inv (X:Cx)(ot:oj (o3×Obj))(σ:oj (om V))(H:Hp)(s:o7):Prop where
 ok:X.Ok
 os:s.os=X.s₀.os
 bare:G6 s.gens
 base:Un X.fs X.ex X.H₀ H X.s₀.heap s.heap
 loc:∃m,s.heap.Ns X.env.locals m/\∀(i:Nat) (x:Str) (v:V),X.N[i]? =u_ x->σ[i]? =u_ (u_ v)->Vis X.env.scope x->∃u,il v u/\AeK X.env s.heap m x u
 cell:∀x c,X.env.cells.lookup x=u_ c->∃v,s.heap.IsCell c v
 free:H X.env.locals=U_
 freeC:∀x c,X.env.cells.lookup x=u_ c->H c=U_
 pin:∀p>X.pn++ot,s.heap.get? p.1=u_ p.2/\H p.1=U_/\p.1≠X.env.locals/\p.1∉X.fs/\∀v,p.2.data≠ .cell v
 hok:HOk X.prog X.w H s.heap
 len:↑σ=↑X.N
 tk:0<s.toks
section
variable {X:Cx}{ot:oj (o3×Obj)}{σ:oj (om V)}{H H':Hp}{s:o7}{h':o8}
def Cx.Ok.nofr (ok:X.Ok)(e:X.base.get? b=u_ o):b∉X.fs:=λU=>by
 have:=(ok.funs.mem U).1;rw[e,0] at this
def Inv.bs (I:#[I]):∀b o,X.base.get? b=u_ o->s.heap.get? b=u_ o/\H b=none:=λb o e=>
 [I.base.keep b o (I.ok.bs b o e).1 (I.ok.bs b o e).2 (I.ok.nofr e) (I.ok.noex b o e):I.base.free b o (I.ok.bs b o e).1 (I.ok.bs b o e).2 (I.ok.noex b o e)]
def Inv.bk (I:#[I]):∀b o,X.base.get? b=u_ o->s.heap.get? b=u_ o:=λb o e=>(I.bs b o e).1
def Inv.mod (I:#[I]):Mod X.K X.mg X.base:=I.ok.mod
def Inv.kIn (I:#[I]):X.K.In s.heap:=I.ok.mod.kin.keeps I.bk
def Inv.lt (I:#[I]):X.env.locals<#[0,s]:=let⟨_,hn,_⟩:=I.loc;hn.lt
def Inv.sz (I:#[I]):X.s₀.heap.objs.size<=#[0,s]:=uY I.ok.above (Ui I.lt)
def Inv.nofs (I:#[I])(h:#[0,s]<=a):a∉X.fs:=λU=>by
 erw[I.ok.funs.mem U,_,o,Z,_,<-A8 (Vr (uG Z) (uY I.sz h)) (vM _)]
def Inv.cne (I:#[I]):∀x c,X.env.cells.lookup x=u_ c->c≠X.env.locals:=λx c e z=>by
 erw[I.cell x c e,v,o,ho,hd];erw[I.loc,m,[o',es,ep,U,Z,_],_];rw[z,U,0] at ho;rw[Z,0] at hd
def Inv.funs (I:#[I]):s.heap.FunFrames X.base X.outer:=by
 let all:∀(l:oj Env),(∀b>frs l,b>X.fs)->X.s₀.heap.FunFrames X.base l->s.heap.FunFrames X.base l:=by
  intro l
  induction l with
  |nil=>intro _ _;trivial|cons env r ih=>
   intro hs hl;erw[hl,hk,[L,o,U,hn,ho,hd],hr];let Z:L>X.fs:=hs L (by unfold frs;rw[U0,U];exact ug)
   obtain⟨sl,e⟩:=I.base.slot L o ho (I.ok.frf L Z) Z λz=>I.ok.exfs L z Z;exact⟨hk,(L,_,U,hn,e,hd),ih (λb hb=>hs b (by unfold frs;rw[U0,U];exact uf _ hb)) hr⟩
 exact all X.outer (λ_ hb=>hb) I.ok.funs
def Inv.stack (I:#[I]):s.heap.FunFrames X.base X.stack:=by
 rcases I.ok.stk with e|⟨e,U⟩
 .rw[e];exact I.funs
 .rw[e];erw[I.loc,m,hn,_];refine .cons (by rw[I.ok.kind];decide) U hn ?_ I.funs
  exact Heap.get?_none_of_le (uY I.ok.bsz I.ok.above)
def Inv.stkSub (I:#[I]):∀b>frs X.stack,b>X.env.locals::X.fs:=λb U=>by
 rcases I.ok.stk with e|⟨e,Z⟩
 .rw[e] at U;exact uf _ U
 .rw[e] at U;unfold frs at U;rwa[U0,Z] at U
def Inv.stkFree (I:#[I]):∀b>frs X.stack,H b=none:=λb U=>by
 rcases Ab.mp (I.stkSub b U) with e|U
 .rw[e];exact I.free
 .erw[I.ok.funs.mem U,_,o,Z,_,<-I.base.free b o Z (I.ok.frf b U) λz=>I.ok.exfs b z U]
def Inv.step {g':Array T8}{t':Nat}{d':Drawn}{ch:oj o3}(I:#[I])
  (Z:∀b>ch,(b>X.ex\/X.s₀.heap.objs.size<=b)/\b≠X.env.locals/\(∀x c,X.env.cells.lookup x=u_ c->c≠b)/\∀p>X.pn++ot,p.1≠b)
  (keep:∀b o,b≠X.env.locals->b∉X.fs->b∉ch->s.heap.get? b=u_ o->H b=U_->h'.get? b=u_ o)
  (slot:∀b o,b≠X.env.locals->b>X.fs->b∉ch->s.heap.get? b=u_ o->H b=U_->∃sl,h'.get? b=u_ {o with slots:=sl}) (free:∀b o,b∉ch->s.heap.get? b=u_ o->H b=U_->H' b=U_)
  (there:∀b o,b∉ch->s.heap.get? b=u_ o->∃o',h'.get? b=u_ o')
  (tups:∀b xs,H b=u_ (¬xs)->H' b=u_ (¬xs)) (frzs:∀b o u,H b=u_ (.frz o u)->H' b=u_ (.frz o u)) (tbls:∀b ps,H b=u_ (.tbl ps)->∃more,H' b=u_ (.tbl (ps++more)))
  (ns:∀m,s.heap.Ns X.env.locals m->h'.Ns X.env.locals m) (hok:HOk X.prog X.w H' h') (hg:G6 g') (ht:0<t':=by ac_rfl):
  Inv X ot σ H' {s with heap:=h',gens:=g',drawn:=d',toks:=t'}:=by
 let ae:∀b o,X.s₀.heap.get? b=u_ o->b≠X.env.locals:=λb o e=>uU (Vr (uG e) I.ok.above);let ad:∀b o,X.s₀.heap.get? b=u_ o->b∉X.ex->b∉ch:=λb o e U hb=>by
  rcases(Z b hb).1 with z|z
  .exact U z
  .exact A8 (Vr (uG e) z) (vM _)
 let aa:∀x c,X.env.cells.lookup x=u_ c->∀v,s.heap.IsCell c v->h'.IsCell c v:=λx c e v ⟨o,ho,hd⟩=>by
  let ac:c∉ch:=λz=>(Z c z).2.2.1 x c e rfl;by_cases hc:c>X.fs
  .erw[slot c o (I.cne x c e) hc ac ho (I.freeC x c e),sl,q,<-[_:q:hd]]
  .exact[o:keep c o (I.cne x c e) hc ac ho (I.freeC x c e):hd]
 rw[_,I.ok,I.os,hg,(λb o e n hb U=>?_,λb o e n hb U=>?_,λb o e n U=>?_,λb o e U=>?_,λb xs e=>tups b xs (I.base.tups b xs e),λb o xs e=>frzs b o xs (I.base.frzs b o xs e),λb ps e=>?_),?_,λx c e=>?_,?_,λx c e=>?_,λp hp=>?_,hok,I.len,ht]
 .exact keep b o (ae b o e) hb (ad b o e U) (I.base.keep b o e n hb U) (I.base.free b o e n U)
 .erw[I.base.slot b o e n hb U,sl,e1];erw[slot b _ (ae b o e) hb (ad b o e U) e1 (I.base.free b o e n U),af,e2,<-[af:e2]]
 .erw[I.base.there b o e U,o',e1,<-free b o' (ad b o e U) e1 (I.base.free b o e n U)]
 .erw[I.base.there b o e U,o',e1,<-there b o' (ad b o e U) e1]
 .erw[I.base.tbls b ps e,m1,e1];erw[tbls b _ e1,m2,e2,<-⟨m1++m2,by rw[e2,TJ]⟩]
 .erw[I.loc,m,hn,hl];rw[_,m,ns m hn,λi x v e1 e2 e3=>?_];erw[hl i x v e1 e2 e3,u,r,l];rw[_,u,r];rcases l with l|⟨k,c,e,z⟩
  .exact .inl l
  .exact .inr (k,c,e,aa x c e _ z)
 .erw[I.cell x c e,v,z,<-[v:aa x c e v z]]
 .erw[I.loc,m,[o,_,_,ho,_],_,<-free _ o (λz=>(Z _ z).2.1 rfl) ho I.free]
 .erw[I.cell x c e,v,o,ho,hd,<-free c o (λz=>(Z c z).2.2.1 x c e rfl) ho (I.freeC x c e)]
 .erw[I.pin p hp,e,n,ne,nf,d];let ac:p.1∉ch:=λz=>(Z p.1 z).2.2.2 p hp rfl;exact(keep p.1 p.2 ne nf ac e n,free p.1 p.2 ac e n,ne,nf,d)
variable {t':Nat}
def Inv.un (I:#[I])(u:Un X.fs [] H H' s.heap h')(hok:HOk X.prog X.w H' h')(ht:0<t':=by ac_rfl):Inv X ot σ H' {s with heap:=h',toks:=t'}:=by
 erw[id I.loc,m,[o,es,ep,ho,r],_];obtain⟨sl,hL⟩:=u.any ho I.free (by simp)
 exact I.step (g':=s.gens) (d':=s.drawn) (ch:= []) (λ_ z=>nomatch z) (λb o _ Z _ e n=>u.keep b o e n Z (by simp)) (λb o _ Z _ e n=>u.slot b o e n Z (by simp)) (λb o _ e n=>u.free b o e n (by simp)) (λb o _ e=>u.there b o e (by simp)) u.tups u.frzs u.tbls (λm' hm=>by
  erw[hm,o',aa,ac,U,r'];rw[ho,0] at U;exact(_,aa,ac,hL,r')) hok I.bare
def Inv.call {g':Array T8}{t':Nat}{d':Drawn}{ch:oj o3}(I:#[I])(u:Un (frs X.stack) ch H H' s.heap h')(hok:HOk X.prog X.w H' h')(hg:G6 g')
  (Z:∀b>ch,(b>X.ex\/X.s₀.heap.objs.size<=b)/\b≠X.env.locals/\(∀x c,X.env.cells.lookup x=u_ c->c≠b)/\∀p>X.pn++ot,p.1≠b) (ht:0<t':=by ac_rfl):
  Inv X ot σ H' {s with heap:=h',gens:=g',drawn:=d',toks:=t'}:=by
 erw[id I.loc,m,[o,es,ep,ho,r],_];obtain⟨sl,hL⟩:=u.any ho I.free λz=>(Z _ z).2.1 rfl;exact I.step (ch:=ch) Z (λb o hL hb U e n=>u.keep b o e n (λz=>(Ab.mp (I.stkSub b z)).elim hL hb) U) (λb o _ _ U e n=>u.any e n U) (λb o U e n=>u.free b o e n U) (λb o U e=>u.there b o e U) u.tups u.frzs u.tbls (λm' hm=>by
  erw[hm,o',ac,ad,aa,r'];rw[ho,0] at aa;exact(_,ac,ad,hL,r')) hok hg
def Inv.turned {t':Nat}{it:o3}(I:#[I])(k:∀b o,b≠it->s.heap.get? b=u_ o->h'.get? b=u_ o)(hn:H it=U_)(hL:it≠X.env.locals)
  (h1:it>X.ex\/X.s₀.heap.objs.size<=it) (h2:∀x c,X.env.cells.lookup x=u_ c->c≠it) (h3:∀p>X.pn++ot,p.1≠it) (ht:0<t':=by ac_rfl):Inv X ot σ H {s with heap:=h',toks:=t'}:=by
 let Z:∀b u,H b=u_ u->b≠it:=λb u e z=>by rw[z,hn,0] at e
 refine I.step (g':=s.gens) (d':=s.drawn) (ch:= [it]) (λb hb=>?_) (λb o _ _ U e _=>k b o (λz=>U (by simp[z])) e) (λb o _ _ U e _=>⟨o.slots,k b o (λz=>U (by simp[z])) e⟩) (λ_ _ _ _ n=>n)
  (λb o U e=>⟨o,k b o (λz=>U (by simp[z])) e⟩) (λ_ _ e=>e) (λ_ _ _ e=>e) (λb ps e=>⟨#[],by rw[e];simp⟩) (λm hm=>?_) (λb u e=>?_) I.bare
 .let e:b=it:=by simpa using hb
  subst e;exact(h1,hL,h2,h3)
 .erw[hm,o,es,ep,ho,r,<-(o,es,ep,k _ o (U1 hL) ho,r)]
 .refine(I.hok b u e).stay (λc v U q=>k c v ?_ q) (λ_ q=>q) λ_ _ q=>q;rcases U with z|z
  .rw[z];exact Z b u e
  .exact Z c _ z
def Inv.tok (I:#[I])(t:Nat)(U:0<t:=by ac_rfl):Inv X ot σ H {s with toks:=t}:=I.un (h':=s.heap) (t':=t) Un.refl I.hok
def Inv.kept (I:#[I])(k:∀b u,s.heap.get? b=u_ u->h'.get? b=u_ u)(U:0<t':=by ac_rfl):Inv X ot σ H {s with heap:=h',toks:=t'}:=I.un (Un.kept k) (I.hok.kept k)
def Inv.laid {o:HO}(I:#[I])(k:∀b u,s.heap.get? b=u_ u->h'.get? b=u_ u)(U:#[0,s]<=a)(new:yp X.prog X.w (upd H a o) h' a o)(Z:0<t':=by ac_rfl):
  Inv X ot σ (upd H a o) {s with heap:=h',toks:=t'}:=I.un (Un.laid k U (I.hok.fresh U)) (I.hok.laid k U new)
def Inv.write {x e:o3}{o:HO}{t':Nat}(I:#[I])(mu:Mut (H x))(Z:e=x\/H e=u_ (.own x))(k:∀b u,b≠e->s.heap.get? b=u_ u->h'.get? b=u_ u)(U:∃u,h'.get? e=u_ u)
  (new:yp X.prog X.w (upd H x o) h' x o) (ht:0<t':=by ac_rfl):Inv X ot σ (upd H x o) {s with heap:=h',toks:=t'}:=I.un (Un.write mu Z k U) (I.hok.write mu Z k U new)
def Inv.pins_of {U:oj (o3×Obj)}(I:#[I])(h:∀p>U,s.heap.get? p.1=u_ p.2/\H p.1=U_/\p.1≠X.env.locals/\p.1∉X.fs/\∀v,p.2.data≠ .cell v):Inv X U σ H s:=
 (I.ok,I.os,I.bare,I.base,I.loc,I.cell,I.free,I.freeC,λp Z=>(Ae.mp Z).elim (λz=>I.pin p (vO _ z)) (h p),I.hok,I.len,I.tk)
variable {i j:Nat}{x:Str}
def By {N:oj Str}(U:N.Nodup)(a:N[i]? =u_ x)(b:N[j]? =u_ x):i=j:=by
 erw[Ag.mp a,h1,Z];erw[Ag.mp b,h2,e2,<-(List.getElem_inj U).mp (Z.trans e2.symm)]
def nS {M:GS}{A:oh}{E:o6->o7->Prop}{i:Nat}{x:Str}{v:V}{u:o6}{Q:Unit->o7->Prop}(I:#[I])(hN:X.N.Nodup)(hi:X.N[i]? =u_ x)(hx:Loc X.env.scope x)(r:il v u)
  (h:∀s',Inv X ot (σ.set i (u_ v)) H s'->(∃a,VT a s.heap s'.heap/\(a=X.env.locals\/X.env.cells.lookup x=u_ a))->Q GB s') (hf:X.fn x=v_\/X.env.scope.names.lookup x=u_ .local:=by first|exact .inl rfl|exact .inr rfl|assumption):Ve M A (HD X.env x u) Q E s:=by
 erw[id I.loc,m,hn,hl];let ad:(X.env.scope.kind== .class||(X.env.scope.kind== .module&&X.env.locals !=X.env.globals))=false:=by rw[I.ok.kind];rfl
 let ae:i<↑σ:=by rw[I.len];exact(Ag.mp hi).1
 let cne:=I.cne;let Z:∀{a:o3}{h':o8},(∃o,s.heap.get? a=u_ o/\H a=U_)->VT a s.heap h'->HOk X.prog X.w H h':=λ{a h'} ha U b ob e=>by
  erw[ha,_,_,aa];refine(I.hok b ob e).stay (λc w' hc q=>(U.2 c ?_).trans q) (λ_ q=>q) λ_ _ q=>q;rintro rfl;rcases hc with rfl|hc
  .rw[aa,0] at e
  .rw[aa,0] at hc
 rcases hx with hk|hk
 .refine rm hk hn (λh' al U=>?_) ad;erw[id hn,oL,_,_,am,_];refine h _ (I.ok,I.os,I.bare,(λb o e n hb hx=>?_,λb o e n hb hx=>?_,I.base.free,λb o e hx=>?_,I.base.tups,I.base.frzs,I.base.tbls),[_:al:λj y v' e1 e2 e3=>?_],λy c e=>?_,I.free,I.freeC,λp hp=>?_,Z [oL:am:I.free] U,by simpa using I.len,by first|exact I.tk|exact TC _) [_:U:.inl rfl]
  .exact(U.2 b (uU (Vr (uG e) I.ok.above))).trans (I.base.keep b o e n hb hx)
  .erw[I.base.slot b o e n hb hx,sl,e1,<-[sl:(U.2 b (uU (Vr (uG e) I.ok.above))).trans e1]]
  .erw[I.base.there b o e hx,o',e1,<-[o':(U.2 b (uU (Vr (uG e) I.ok.above))).trans e1]]
  .by_cases hj:j=i
   .subst hj;rw[hi,0] at e1;rw[R6 ae,0] at e2;exact⟨u,r,.inl ⟨hk,by simp⟩⟩
   .rw[Fw (U1 hj)] at e2;erw[hl j y v' e1 e2 e3,u',r',q];rw[_,u',r'];rcases q with⟨k,e⟩|⟨k,c,e,z⟩
    .refine .inl [k:?_];have:y≠x:=λe=>hj (By hN e1 (e▸hi));simp[this,e]
    .exact .inr (k,c,e,z.sameBut U (cne y c e))
  .erw[I.cell y c e,w',z,<-[w':z.sameBut U (cne y c e)]]
  .erw[I.pin p hp,e,n,ne,nf,d,<-((U.2 p.1 ne).trans e,n,ne,nf,d)]
 .let ac:X.fn x=true:=by
   rcases hf with z|z
   .exact z
   .rw[z,0] at hk
  erw[I.ok.has x (.inl hk),c,hc];erw[I.cell x c hc,w',z];refine wpAny_storeName_cell I.ok.kind hk hc z (λh' af U=>?_);erw[id z,oc,ag,ah];refine h {s with heap:=h'} (I.ok,I.os,I.bare,(λb o e n hb hx=>?_,λb o e n hb hx=>?_,I.base.free,λb o e hx=>?_,I.base.tups,I.base.frzs,I.base.tbls),[m:hn.sameBut U (U1 (cne x c hc)):λj y v' e1 e2 e3=>?_],λy c' e=>?_,I.free,I.freeC,λp hp=>?_,Z [oc:ag:I.freeC x c hc] U,by simpa using I.len,by first|exact I.tk|exact TC _) [c:U:.inr hc]
  .exact(U.2 b (uU (Vr (uG e) (I.ok.cab x c ac hc)))).trans (I.base.keep b o e n hb hx)
  .erw[I.base.slot b o e n hb hx,sl,e1,<-[sl:(U.2 b (uU (Vr (uG e) (I.ok.cab x c ac hc)))).trans e1]]
  .erw[I.base.there b o e hx,o',e1,<-[o':(U.2 b (uU (Vr (uG e) (I.ok.cab x c ac hc)))).trans e1]]
  .by_cases hj:j=i
   .subst hj;rw[hi,0] at e1;rw[R6 ae,0] at e2;exact[u:r:.inr (.inl hk,c,hc,af)]
   .rw[Fw (U1 hj)] at e2;erw[hl j y v' e1 e2 e3,u',r',q];rw[_,u',r'];rcases q with q|⟨k,c',e,z'⟩
    .exact .inl q
    .refine .inr (k,c',e,z'.sameBut U ?_);rintro rfl;exact hj (By hN e1 (I.ok.inj _ _ _ e hc▸hi))
  .by_cases ak:c'=c
   .subst ak;exact[_:af]
   .erw[I.cell y c' e,w2,z2,<-[w2:z2.sameBut U ak]]
  .erw[I.pin p hp,e,n,ne,nf,d];rw[_,(U.2 p.1 ?_).trans e,n,ne,nf,d];intro q;rw[q,ag] at e;let q':oc=p.2:=uL e;exact d w' (by rwa[<-q'])
def K0 {M:GS}{A:oh}{E:o6->o7->Prop}{i:Nat}{x:Str}{v:V}{u:o6}{Q:Unit->o7->Prop}(I:#[I])(U:X.N.Nodup)(hi:X.N[i]? =u_ x)(Z:Loc X.env.scope x)(r:il v u)
  (h:∀s',Inv X ot (σ.set i (u_ v)) H s'->Q GB s') (hf:X.fn x=v_\/X.env.scope.names.lookup x=u_ .local:=by first|exact .inl rfl|exact .inr rfl|assumption):Ve M A (HD X.env x u) Q E s:=
 nS I U hi Z r (λs' I' _=>h s' I') hf
def Inv.call' {s':o7}{ch:oj o3}(I:#[I])(Z:s'.os=s.os)(u:Un (frs X.stack) ch H H' s.heap s'.heap)(hok:HOk X.prog X.w H' s'.heap)(hg:G6 s'.gens)
  (U:∀b>ch,(b>X.ex\/X.s₀.heap.objs.size<=b)/\b≠X.env.locals/\(∀x c,X.env.cells.lookup x=u_ c->c≠b)/\∀p>X.pn++ot,p.1≠b) (ht:0<s'.toks:=by ac_rfl):Inv X ot σ H' s':=by
 erw[s',h',g',d',t',o'];let e:o'=s.os:=Z;subst e;exact I.call (g':=g') (t':=t') (d':=d') u hok hg U
end
nonrec abbrev XK:=o6->om o3->Hp->Prop
nonrec abbrev St:=oj (om V)
nonrec abbrev VK:=V->Hp->Prop
nonrec abbrev TE:=St->Hp->VK->Prop
nonrec abbrev TT:=St->Hp->(Bool->Hp->Prop)->Prop
nonrec abbrev TA:=St->Hp->(oj V->Hp->Prop)->Prop
structure nh where
 nx:St->Hp->Prop
 rt:VK
 bk:St->Hp->Prop:=λ_ _=>False
 ct:St->Hp->Prop:=λ_ _=>False
nonrec abbrev TS:=nh->St->Hp->Prop
abbrev EP (X:Cx)(ot:oj (o3×Obj))(σ:St)(Q:VK)(u:o6)(s':o7):Prop:=∃v H',Inv X ot σ H' s'/\il v u/\Q v H'
abbrev TP (X:Cx)(ot:oj (o3×Obj))(σ:St)(Q:Bool->Hp->Prop)(b:Bool)(s':o7):Prop:=∃H',Inv X ot σ H' s'/\Q b H'
abbrev AP (X:Cx)(ot:oj (o3×Obj))(σ:St)(Q:oj V->Hp->Prop)(us:oj o6)(s':o7):Prop:=∃vs H',Inv X ot σ H' s'/\iE vs us/\Q vs H'
abbrev SP (X:Cx)(ot:oj (o3×Obj))(D:nh)(f:Flow)(s':o7):Prop:=
 match f with
 | .next=>∃σ' H',Inv X ot σ' H' s'/\D.nx σ' H'| .brk=>∃σ' H',Inv X ot σ' H' s'/\D.bk σ' H'| .cont=>∃σ' H',Inv X ot σ' H' s'/\D.ct σ' H'| .ret u=>∃v σ' H',Inv X ot σ' H' s'/\il v u/\D.rt v H'
abbrev PE (X:Cx)(e:Expr)(t:TE):Prop:=
 ∀(ot:oj (o3×Obj)) (s:o7) (σ:St) (H:Hp) (Q:VK),#[I]->t σ H Q->Ve #[X,X] X.A (eval e X.env) (EP X ot σ Q) X.xe s
abbrev PT (X:Cx)(e:Expr)(t:TT):Prop:=
 ∀(ot:oj (o3×Obj)) (s:o7) (σ:St) (H:Hp) (Q:Bool->Hp->Prop),#[I]->t σ H Q->Ve #[X,X] X.A (isTrue e X.env (eval e X.env)) (TP X ot σ Q) X.xe s
abbrev PW (X:Cx)(e:Expr)(t:TT):Prop:=
 ∀(whole:Sem o6) (ot:oj (o3×Obj)) (s:o7) (σ:St) (H:Hp) (Q:Bool->Hp->Prop),#[I]->t σ H Q->Ve #[X,X] X.A (isTrue e X.env whole) (TP X ot σ Q) X.xe s
variable {X:Cx}
def PW.pt {e:Expr}{t:TT}(h:PW X e t):PT X e t:=h _
abbrev PA (X:Cx)(es:oj Expr)(t:TA):Prop:=
 ∀(pos:Pos) (ot:oj (o3×Obj)) (s:o7) (σ:St) (H:Hp) (Q:oj V->Hp->Prop),#[I]->t σ H Q->Ve #[X,X] X.A (Td (Vp pos (Vi es X.env))) (AP X ot σ Q) X.xe s
abbrev PS (X:Cx)(st:Stmt)(t:TS):Prop:=
 ∀(ot:oj (o3×Obj)) (s:o7) (σ:St) (H:Hp) (D:nh),#[I]->t D σ H->Ve #[X,X] X.A (exec st X.env) (SP X ot D) X.xe s
abbrev PSs (X:Cx)(st:oj Stmt)(t:TS):Prop:=
 ∀(ot:oj (o3×Obj)) (s:o7) (σ:St) (H:Hp) (D:nh),#[I]->t D σ H->Ve #[X,X] X.A (execs st X.env) (SP X ot D) X.xe s
variable {A:oh}{s:o7}
def thn {α:Type}{t:Sem α}{Q U:α->o7->Prop}{M:GS}{E:o6->o7->Prop}(h:Ve M A t Q E s)(Z:∀a s,Q a s->U a s):Ve M A t U E s:=vz h Z λ_ _ x=>x
section
variable {X:Cx}
inductive Aaw (i:Nat)(σ:St)(H:Hp)(Q:VK):Prop
 |mk (v:_)(_:σ[i]? =u_ (u_ v))(_:Q v H)
abbrev tC (v:V):TE:=λ_ H Q=>Q v H
variable {i:Nat}{x:Str}
def Aa7 {pos:Pos}(hN:X.N[i]? =u_ x)(hv:Vis X.env.scope x)(hd:(x==("__debug__":Str))=false:=by decide)(aa:(x==("__classdict__":Str))=false:=by decide):PE X (.Name x pos) (Aaw i):=by
 rw[2,Q,I,h];erw[h,v,e,h];erw[I.loc,m,hn,hl];erw[hl i x v hN e hv,u,r,l];let fin:EP X ot σ Q u s:=(v,H,I,r,h);rcases l with⟨Z,hm⟩|⟨Z,c,hc,U⟩
 .exact tH (RY I.ok.kind Z hn hm fin) hd
 .rcases Z with Z|Z
  .exact tH (F_ I.ok.kind Z hc U fin) hd
  .exact tH (wpAny_loadName_free I.ok.kind Z hc U fin aa) hd
def qh {i j pos}:PE X (.Constant (.int i) j pos) (tC (.int i)):=λ_ _ _ H _ I h=>wpAny_Constant_int (.int i,H,I.tok _,⟨0⟩,h)
def Yx {b j pos}:PE X (.Constant (.bool b) j pos) (tC (.bl b)):=λ_ _ _ H _ I h=>Constant_bool (.bl b,H,I,1,h)
def qR {j pos}:PE X (.Constant .none j pos) (tC .non):=λ_ _ _ H _ I h=>Constant_none (.non,H,I,1,h)
def qi {x j pos}:PE X (.Constant (!x) j pos) (tC (!x)):=λ_ _ _ H _ I h=>Calls.Constant_str (!x,H,I.tok _,⟨0⟩,h)
abbrev Gl (X:Cx)(x:Str):Prop:=X.env.kindOf x=u_ .globalImplicit
def Wm {E:o6->o7->Prop}{ot:oj (o3×Obj)}{s:o7}{σ:St}{H:Hp}{x:Str}{u:o6}{pos:Pos}{Q:o6->o7->Prop}(I:#[I])(U:Gl X x)(hm:X.mg x=u_ u)(h:Q u s)
  (hd:(x==("__debug__":Str))=false:=by decide):Ve #[X,X] X.A (eval (.Name x pos) X.env) Q E s:=
 FB I.ok.kind U (Calls.loadGlobal_global (by rw[I.ok.glob];exact I.mod.glob.keeps I.bk) hm h) hd
def ZQ {E:o6->o7->Prop}{ot:oj (o3×Obj)}{s:o7}{σ:St}{H:Hp}{x:Str}{u:o6}{pos:Pos}{Q:o6->o7->Prop}(I:#[I])(U:Gl X x)(hm:X.mg x=U_)(Z:GO x=u_ u)(h:Q u s)
  (hn:x≠"__name__":=by decide) (hd:(x==("__debug__":Str))=false:=by decide):Ve #[X,X] X.A (eval (.Name x pos) X.env) Q E s:=by
 erw[I.mod.blt,mb,h1,h2,<-FB I.ok.kind U (Calls.loadGlobal_builtin (by rw[I.ok.glob];exact I.mod.glob.keeps I.bk) hm (by rw[I.ok.blt];exact h1.keeps I.bk) ((h2 x hn).trans Z) h) hd]
variable {v:V}{u:o6}
def An {pos:Pos}(U:Gl X x)(hm:X.mg x=u_ u)(r:il v u)(hd:(x==("__debug__":Str))=false:=by decide):PE X (.Name x pos) (tC v):=
 λ_ _ _ H _ I h=>Wm I U hm (v,H,I,r,h) hd
def yd {x:Str}{v:V}{u:o6}{pos:Pos}(U:Gl X x)(hm:X.mg x=U_)(Z:GO x=u_ u)(r:il v u)(hn:x≠"__name__")(hd:(x==("__debug__":Str))=Vd):PE X (.Name x pos) (tC v):=
 λ_ _ _ H _ I h=>ZQ I U hm Z (v,H,I,r,h) hn hd
variable {a b:Expr}{ta tb:TE}{pos:Pos}
abbrev PC (X:Cx)(op:GK)(a b:Expr)(t:TE):Prop:=
 ∀(ot:oj (o3×Obj)) (s:o7) (σ:St) (H:Hp) (Q:VK),#[I]->t σ H Q->
  Ve #[X,X] X.A (eval a X.env) (λv s₁=>Ve #[X,X] X.A (eval b X.env) (λu s₂=>Ve #[X,X] X.A (Vm op v u) (EP X ot σ Q) X.xe s₂) X.xe s₁) X.xe s
inductive ItB (Q:(Bool->Hp->Prop))(x:V)(H1:Hp):Prop
 |mk (c:_)(_:x= .bl c)(_:Q c H1)
abbrev tB (t:TE):TT:=λσ H Q=>t σ H λx H1=>ItB Q x H1
def Abb {U:GK}{t:TE}(h:PC X U a b t)(h1:GW U b=Vd):PE X (.Compare a [U] [b] pos) t:=λot s σ H Q I Z=>Ft (h ot s σ H Q I Z) h1
def kK {U:GK}{t:TE}(h:PC X U a b t)(h1:GW U b=Vd):PT X (.Compare a [U] [b] pos) (tB t):=by
 rw[2,Q,I,Z];refine RI (thn (h ot s σ H _ I Z) λv s1 h1=>thn h1 λu s2 h2=>thn h2 λc s3 zq=>?_) h1;erw[zq,x,H1,I1,r1,q1];erw[q1,d,rfl,q];rw[r1,0];exact vE [H1:I1:q]
def Qe {e:Expr}{t:TE}(h:PE X e t)(Z:∀U,isTrue e X.env U=(do let v<-U;GG e.pos;VW [v] (truthy v))):PT X e (tB t):=by
 rw[2,Q,I,hw];refine RW (thn (h ot s σ H _ I hw) λv s1 zq=>?_) (Z _);erw[zq,x,H1,I1,r1,q1];erw[q1,d,rfl,q];rw[r1,0];exact vE [H1:I1:q]
variable {tA tB':TT}{rest:oj Expr}
abbrev Ael (t u:TT):TT:=λσ H Q=>t σ H λc H1=>if c=v_ then u σ H1 Q else Q Vd H1
abbrev tOr (t u:TT):TT:=λσ H Q=>t σ H λc H1=>if c=v_ then Q v_ H1 else u σ H1 Q
abbrev Aeg (t:TT):TT:=λσ H Q=>t σ H λc H1=>Q (!(c)) H1
def Y3 (ha:PT X a tA):PW X (.BoolOp .And [a] pos) tA:=by
 intro U ot s σ H Q I h;refine isTrue_and (thn (ha ot s σ H Q I h) λc s1 e=>?_);cases c with
 |true=>exact isTrue_and_nil e|false=>exact e
def Yu (ha:PT X a tA):PW X (.BoolOp .Or [a] pos) tA:=by
 intro U ot s σ H Q I h;refine isTrue_or (thn (ha ot s σ H Q I h) λc s1 e=>?_);cases c with
 |false=>exact isTrue_or_nil e|true=>exact e
def JR (ha:PT X a tA)(Z:PW X (.BoolOp .And (b::rest) pos) tB'):PW X (.BoolOp .And (a::b::rest) pos) (Ael tA tB'):=by
 intro wh ot s σ H Q I h;refine isTrue_and (thn (ha ot s σ H _ I h) λc s1 zq=>?_);erw[zq,H1,U,q1];cases c with
 |true=>exact Z wh ot s1 σ H1 Q U q1|false=>exact[H1:U:q1]
def jI (ha:PT X a tA)(Z:PW X (.BoolOp .Or (b::rest) pos) tB'):PW X (.BoolOp .Or (a::b::rest) pos) (tOr tA tB'):=by
 intro wh ot s σ H Q I h;refine isTrue_or (thn (ha ot s σ H _ I h) λc s1 zq=>?_);erw[zq,H1,U,q1];cases c with
 |true=>exact[H1:U:q1]|false=>exact Z wh ot s1 σ H1 Q U q1
def Qo (ha:PT X a tA):PT X (.UnaryOp .Not a pos) (Aeg tA):=by
 rw[2,Q,I,h];exact isTrue_not (ha ot s σ H (λc H1=>Q (!(c)) H1) I h)
inductive Acg (tb:TE)(σ:St)(Q:VK)(x:V)(H1:Hp):Prop
 |mk (c:_)(_:x= .bl c)(_:if c=v_ then tb σ H1 Q else Q (.bl Vd) H1)
abbrev AcQ (ta tb:TE):TE:=λσ H Q=>ta σ H λx H1=>Acg tb σ Q x H1
inductive AdA (tb:TE)(σ:St)(Q:VK)(x:V)(H1:Hp):Prop
 |mk (c:_)(_:x= .bl c)(_:if c=v_ then Q (.bl v_) H1 else tb σ H1 Q)
abbrev Aef (ta tb:TE):TE:=λσ H Q=>ta σ H λx H1=>AdA tb σ Q x H1
inductive Ace (Q:VK)(x:V)(H1:Hp):Prop
 |mk (c:_)(_:x= .bl c)(_:Q (.bl (!(c))) H1)
abbrev AcI (ta:TE):TE:=λσ H Q=>ta σ H λx H1=>Ace Q x H1
def jN {op}{t:TE}(h:PE X a t):PE X (.BoolOp op [a] pos) t:=λot s σ H Q I U=>BoolOp_one (h ot s σ H Q I U)
def JB (ha:PE X a ta)(Z:PE X (.BoolOp .And (b::rest) pos) tb):PE X (.BoolOp .And (a::b::rest) pos) (AcQ ta tb):=by
 rw[2,Q,I,h];refine BoolOp_and (thn (ha ot s σ H _ I h) λv s1 zq=>?_);erw[zq,x,H1,U,r1,q1];erw[q1,c,rfl,q1];rw[r1,0];refine vE ?_;cases c with
 |true=>exact Z ot s1 σ H1 Q U q1|false=>exact(.bl Vd,H1,U,1,q1)
def Ac2 (ha:PE X a ta)(Z:PE X (.BoolOp .Or (b::rest) pos) tb):PE X (.BoolOp .Or (a::b::rest) pos) (Aef ta tb):=by
 rw[2,Q,I,h];refine BoolOp_or (thn (ha ot s σ H _ I h) λv s1 zq=>?_);erw[zq,x,H1,U,r1,q1];erw[q1,c,rfl,q1];rw[r1,0];refine vE ?_;cases c with
 |false=>exact Z ot s1 σ H1 Q U q1|true=>exact(.bl v_,H1,U,1,q1)
def Aa9 (ha:PE X a ta):PE X (.UnaryOp .Not a pos) (AcI ta):=by
 rw[2,Q,I,h];refine UnaryOp_ (thn (ha ot s σ H _ I h) λv s1 zq=>?_);erw[zq,x,H1,U,Z,q1];erw[q1,c,rfl,q1];rw[Z,0];exact not_of (vE (.bl (!(c)),H1,U,1,q1))
abbrev tIf (t:TT)(ta tb:TE):TE:=λσ H Q=>t σ H λc H1=>if c=v_ then ta σ H1 Q else tb σ H1 Q
def ym {c:Expr}(Z:PT X c tA)(ha:PE X a ta)(hb:PE X b tb):PE X (.IfExp c a b pos) (tIf tA ta tb):=by
 rw[2,Q,I,h];refine wpAny_IfExp (thn (Z ot s σ H _ I h) λd s1 zq=>?_);erw[zq,H1,U,q1];cases d with
 |true=>exact ha ot s1 σ H1 Q U q1|false=>exact hb ot s1 σ H1 Q U q1
end
abbrev SqL (K:o0)(H:Hp)(a:o3)(xs:oj V):Prop:=
 Rd H a (.lst xs)\/
  ∃(o:Obj) (its:Array o6) (n:Nat),K.lookup a=u_ o/\o.cls= .type "list"/\o.dict=U_/\o.data= .seq its n/\its.size<=Vg/\iE xs its.toList
abbrev SqT (K:o0)(H:Hp)(a:o3)(xs:oj V):Prop:=
 Rd H a (¬xs)\/
  ∃(o:Obj) (its:Array o6) (n:Nat),K.lookup a=u_ o/\o.cls= .type "tuple"/\o.data= .seq its n/\its.size<=Vg/\iE xs its.toList
abbrev AeI:o6->om V
 | .none=>u_ .non| .bool b=>u_ (.bl b)| .int i _=>u_ (.int i)| .str x _=>u_ (!x)| .bytes b _=>u_ (.byt b)| .float b _=>u_ (.flt b)| .ref a=>u_ (-a)| .type n=>u_ (.ty n)|_=>U_
variable {u:o6}
def il.abs {x:V}(r:il x u):AeI u=u_ x:=by
 cases x with
 |non=>rw[r,0];rfl|bl _=>rw[r,0];rfl|int _=>erw[r,t,rfl];rfl|str _=>erw[r,t,rfl];rfl|byt _=>erw[r,t,rfl];rfl|flt _=>erw[r,t,rfl];rfl|ref _=>rw[r,0];rfl|ty _=>rw[r,0];rfl
variable {y:V}
def il.inj {x:V}(r:il x u)(q:il y u):x=y:=uL (r.abs.symm.trans q.abs)
def iE.inj:∀{xs ys:oj V}{us:oj o6},iE xs us->iE ys us->xs=ys
 |_,_,_,.nil,.nil=>rfl|_,_,_,.cons r t,.cons r' t'=>by rw[r.inj r',iE.inj t t']
section
variable {X:Cx}{ot:oj (o3×Obj)}{σ:St}{H:Hp}{s:o7}{a:o3}{xs ys:oj V}
variable {K:o0}
def SqL.of (h:H a=u_ (.lst xs)):SqL K H a xs:= .inl (.inl h)
def SqT.of (h:H a=u_ (¬xs)):SqT K H a xs:= .inl (.inl h)
def Inv.list (I:#[I])(h:SqL X.K H a xs):∃its:oj o6,iE xs its/\PlainL s.heap a its.toArray/\↑xs<=sizeLine:=by
 rcases h with h|⟨o,its,n,U,Z,hd,hs,hz,r⟩
 .erw[h.ok I.hok,z,its,n,r,e,<-(its,r,(_,n,e,1,1,1),z)]
 .rw[_,its.toList,r,(o,n,I.kIn a o U,Z,hd,by simpa using hs)]
  let e:=↑r;simp![vo] at e;omega
def Inv.tuple (I:#[I])(h:SqT X.K H a xs):∃its:oj o6,iE xs its/\GY s.heap a its.toArray/\↑xs<=sizeLine:=by
 rcases h with h|⟨o,its,n,U,Z,hs,hz,r⟩
 .erw[h.ok I.hok,z,its,r,p,<-(its,r,p,z)]
 .rw[_,its.toList,r,(o,I.kIn a o U,Z,n,by simpa using hs)]
  let e:=↑r;simp![vo] at e;omega
def Inv.list_inj (I:#[I])(h:SqL X.K H a xs)(h':SqL X.K H a ys):xs=ys:=by
 erw[I.list h,its,r,[o,n,e,_,_,d],_];erw[I.list h',its',r',[o',n',U,_,_,d'],_];rw[e,0] at U;rw[d] at d';injection d' with Z _
 have:its=its':=by simpa using Aa rQ Z
 subst this;exact r.inj r'
def Inv.tuple_inj (I:#[I])(h:SqT X.K H a xs)(h':SqT X.K H a ys):xs=ys:=by
 erw[I.tuple h,its,r,[o,e,_,n,d],_];erw[I.tuple h',its',r',[o',U,_,n',d'],_];rw[e,0] at U;rw[d] at d';injection d' with Z _
 have:its=its':=by simpa using Aa rQ Z
 subst this;exact r.inj r'
end
nonrec abbrev Cx.wish (X:Cx)(E:o6->o7->Prop):Cx:={X with xe:=E}
nonrec abbrev Cx.nox (X:Cx):Cx:=X.wish λ_ _=>False
def Cx.Ok.wish (ok:X.Ok)(E:o6->o7->Prop):(X.wish E).Ok:=
 (ok.mod,ok.kind,ok.glob,ok.blt,ok.above,ok.inj,ok.has,ok.cab,ok.hd,ok.frames,ok.stk,ok.exf,ok.bs,ok.bsz,ok.noex,ok.exfs,ok.funs,ok.frf)
def Cx.Ok.unwish {E:o6->o7->Prop}(ok:(X.wish E).Ok):X.Ok:=
 (ok.mod,ok.kind,ok.glob,ok.blt,ok.above,ok.inj,ok.has,ok.cab,ok.hd,ok.frames,ok.stk,ok.exf,ok.bs,ok.bsz,ok.noex,ok.exfs,ok.funs,ok.frf)
section
variable {X:Cx}{ot:oj (o3×Obj)}{σ:St}{H:Hp}{s:o7}{E:o6->o7->Prop}
def Inv.wish (I:#[I])(E:o6->o7->Prop):Inv (X.wish E) ot σ H s:=(I.ok.wish E,I.os,I.bare,I.base,I.loc,I.cell,I.free,I.freeC,I.pin,I.hok,I.len,I.tk)
def Inv.unwish (I:Inv (X.wish E) ot σ H s):#[I]:=(I.ok.unwish,I.os,I.bare,I.base,I.loc,I.cell,I.free,I.freeC,I.pin,I.hok,I.len,I.tk)
def SP.unwish {D:nh}{f:Flow}{s':o7}(h:SP (X.wish E) ot D f s'):SP X ot D f s':=by
 cases f with
 |next=>erw[h,U,H',I,q,<-(U,H',I.unwish,q)]|brk=>erw[h,U,H',I,q,<-(U,H',I.unwish,q)]|cont=>erw[h,U,H',I,q,<-(U,H',I.unwish,q)]|ret u=>erw[h,v,U,H',I,r,q,<-(v,U,H',I.unwish,r,q)]
def PSs.nox {st:oj Stmt}{t:TS}(h:PSs X.nox st t):PSs X st t:=λot s σ H D I hw=>
 vz (h ot s σ H D (I.wish _) hw) (λ_ _ q=>q.unwish) λ_ _ z=>Vw z
end
section
variable {X:Cx}{st:Stmt}{rest:oj Stmt}{t u:TS}{e:Expr}{te:TE}{pos:Pos}
abbrev AaA:TS:=λD σ H=>D.nx σ H
abbrev nA (t u:TS):TS:=λD σ H=>t {D with nx:=u D} σ H
def qp:PSs X [] AaA:=λ_ _ σ H _ I h=>Uv (σ,H,I,h)
def qc (h1:PS X st t)(h2:PSs X rest u):PSs X (st::rest) (nA t u):=by
 rw[2,D,I,h];refine tZ (thn (h1 ot s σ H {D with nx:=u D} I h) λf s1 q=>?_)
 cases f with
 |next=>
  erw[q,U,H',Z,q,<-h2 ot s1 U H' D Z q]
 |ret v=>exact q|brk=>exact q|cont=>exact q
def qe (h1:PS X st t):PSs X [st] t:=by
 rw[2,D,I,h];refine tZ (thn (h1 ot s σ H D I h) λf s1 q=>?_);cases f with
 |next=>exact Uv q|ret v=>exact q|brk=>exact q|cont=>exact q
abbrev AaK:TS:=λD σ H=>D.bk σ H
abbrev AcN:TS:=λD σ H=>D.ct σ H
def OX:PS X (.Pass pos) AaA:=λ_ _ σ H _ I h=>wpAny_Pass (σ,H,I,h)
def Ls:PS X (.Break pos) AaK:=λ_ _ σ H _ I h=>wpAny_Break (σ,H,I,h)
def Al:PS X (.Continue pos) AcN:=λ_ _ σ H _ I h=>wpAny_Continue (σ,H,I,h)
variable {ot:oj (o3×Obj)}{σ:St}
def Inv.quiet (I:#[I]):FK X.env=false:=by simp[FK,I.ok.kind]
abbrev AcL (te:TE):TS:=λD σ H=>te σ H λ_ H1=>D.nx σ H1
def qY (U:PE X e te)(Z:h_ e U_ pos.line X.env=pure Vd):PS X (.Expr e pos) (AcL te):=by
 rw[2,D,I,h];exact Rs (thn (U ot s σ H _ I h) λv s1 ⟨x,H1,I1,r1,q1⟩=>(σ,H1,I1,q1)) I.quiet Z
abbrev Aee (te:TE):TS:=λD σ H=>te σ H D.rt
def qo (U:PE X e te):PS X (.Return (u_ e) pos) (Aee te):=by
 rw[2,D,I,h];exact wpAny_Return_some (thn (U ot s σ H _ I h) λv s1 ⟨x,H1,Z,r1,q1⟩=>(x,σ,H1,Z,r1,q1))
abbrev AcG:TS:=λD _ H=>D.rt .non H
def OW:PS X (.Return U_ pos) AcG:=λ_ _ σ H _ I h=>wpAny_Return_none (.non,σ,H,I,1,h)
abbrev AdN (c:TT)(t u:TS):TS:=λD σ H=>c σ H λb H1=>if b=v_ then t D σ H1 else u D σ H1
def qI {c:Expr}{a b:oj Stmt}{tc:TT}(Z:PT X c tc)(ha:PSs X a t)(hb:PSs X b u):PS X (.If c a b pos) (AdN tc t u):=by
 rw[2,D,I,h];refine wpAny_If (thn (Z ot s σ H _ I h) λd s1 zq=>?_);erw[zq,H1,U,q1];cases d with
 |true=>exact ha ot s1 σ H1 D U q1|false=>exact hb ot s1 σ H1 D U q1
abbrev AaB:TS:=λ_ _ _=>False
def Jq:PS X st AaB:=λ_ _ _ _ _ _ h=>h.elim
end
nonrec abbrev TG:=V->St->Hp->(St->Hp->Prop)->Prop
nonrec abbrev TGs:=oj V->St->Hp->(St->Hp->Prop)->Prop
abbrev PG (X:Cx)(target:Expr)(t:TG):Prop:=
 ∀(ot:oj (o3×Obj)) (s:o7) (σ:St) (H:Hp) (v:V) (u:o6) (Q:St->Hp->Prop),#[I]->il v u->t v σ H Q->
  Ve #[X,X] X.A (Ge target X.env u) (λ_ s'=>∃σ' H',Inv X ot σ' H' s'/\Q σ' H') X.xe s
abbrev PGs (X:Cx)(ts:oj Expr)(t:TGs):Prop:=
 ∀(ot:oj (o3×Obj)) (s:o7) (σ:St) (H:Hp) (vs:oj V) (us:oj o6) (Q:St->Hp->Prop),#[I]->iE vs us->t vs σ H Q->
  Ve #[X,X] X.A (assignInOrder ((G9 ts X.env).map (·.2)) us) (λ_ s'=>∃σ' H',Inv X ot σ' H' s'/\Q σ' H') X.xe s
nonrec abbrev Adv:=V->V->V->Hp->(Hp->Prop)->Prop
abbrev Ad7 (X:Cx)(t:Adv):Prop:=
 ∀(ot:oj (o3×Obj)) (s:o7) (σ:St) (H:Hp) (o i v:V) (ov iv u:o6) (Q:Hp->Prop),#[I]->il o ov->il i iv->il v u->t o i v H Q->
  Ve #[X,X] X.A (F0 ov iv u) (λ_ s'=>∃H',Inv X ot σ H' s'/\Q H') X.xe s
nonrec abbrev TIp:=V->V->Hp->VK->Prop
abbrev PIp (X:Cx)(op:Hq)(t:TIp):Prop:=
 ∀(ot:oj (o3×Obj)) (s:o7) (σ:St) (H:Hp) (x y:V) (v u:o6) (Q:VK),#[I]->il x v->il y u->t x y H Q->
  Ve #[X,X] X.A (tN op v u) (EP X ot σ Q) X.xe s
section
variable {X:Cx}{pos:Pos}
abbrev YG (i:Nat):TG:=λv σ H Q=>Q (σ.set i (u_ v)) H
def qJ {i:Nat}{x:Str}(U:X.N.Nodup)(hi:X.N[i]? =u_ x)(Z:Loc X.env.scope x)(hf:X.fn x=v_\/X.env.scope.names.lookup x=u_ .local):PG X (.Name x pos) (YG i):=by
 rw[2,v,u,Q,I,r,h];exact Ri (K0 I U hi Z r (λs' I'=>(_,H,I',h)) hf)
abbrev Ad1:TGs:=λvs σ H Q=>vs= []/\Q σ H
abbrev SE (t:TG)(u:TGs):TGs:=λvs σ H Q=>∃v r,vs=v::r/\t v σ H λσ' H'=>u r σ' H' Q
def yW:PGs X [] Ad1:=by
 rw[2,vs,us,Q,I,r,h];erw[h,e,h];subst e;rw[r,0];exact assignInOrder_nil (σ,H,I,h)
def qT {e:Expr}{es:oj Expr}{t:TG}{u:TGs}(h1:PG X e t)(h2:PGs X es u)
  (U:(G9 (e::es) X.env).map (·.2)=Ge e X.env::(G9 es X.env).map (·.2):=by rfl):PGs X (e::es) (SE t u):=by
 rw[2,vs,us,Q,I,r,h];erw[h,v,vr,Z,h];subst Z;cases r with
 |cons r rr=>
  rw[U];refine assignInOrder_cons (thn (h1 ot s σ H _ _ _ I r h) λ_ s1 zq=>?_);erw[zq,σ1,H1,I1,q1,<-h2 ot s1 σ1 H1 _ _ Q I1 rr q1]
abbrev Adk (K:o0)(n:Nat)(t:TGs):TG:=λv σ H Q=>∃a xs,v= .ref a/\SqT K H a xs/\↑xs=n/\t xs σ H Q
def JA {es:oj Expr}{k:Nat}{t:TGs}{n:Nat}(hc:X.calm=v_)(h:PGs X es t)
  (hn:↑(G9 es X.env)=n:=by rfl) (U:(G9 es X.env).findIdx? (·.1)=none:=by rfl):PG X (.Tuple es k pos) (Adk X.K n t):=by
 rw[2,v,u,Q,I,r,Z];erw[Z,a,xs,e1,hq,hl,Z];subst e1;rw[r,0];erw[I.tuple hq,its,rv,ht,hz];refine assign_Tuple_tuple (I.ok.hd hc) ht (by simp[hn,<-hl,rv.length]) U λh' hx=>?_
 let I1:Inv X ot σ H {s with heap:=h'}:=I.kept (t':=s.toks) λb o e=>hx b o (uU (uG e)) e
 exact h ot _ σ H xs _ Q I1 (by simpa using rv) Z
abbrev AeG (to ti:TE)(t:Adv):TG:=λv σ H Q=>to σ H λo H1=>ti σ H1 λi H2=>t o i v H2 λH3=>Q σ H3
def MX {o i:Expr}{to ti:TE}{t:Adv}(Z:PE X o to)(hi:PE X i ti)(hs:Ad7 X t)
  (ha:∀v,Ge (.Subscript o i pos) X.env v=(do
   let ov<-VW [v] (eval o X.env)
   let U<-VW [v,ov] (eval i X.env)
   GG pos
   VW [v,ov,U] (F0 ov U v)
   release [v,ov,U] [])):PG X (.Subscript o i pos) (AeG to ti t):=by
 rw[2,v,u,Q,I,r,h];rw[ha];refine A7 (VS (thn (Z ot s σ H _ I h) λov s1 zq=>?_));erw[zq,x,H1,I1,r1,q1];refine A7 (VS (thn (hi ot s1 σ H1 _ I1 q1) λU s2 zq=>?_));erw[zq,y,H2,I2,r2,q2];refine A7 (HN (A7 (VS (thn (hs ot s2 σ H2 x y v ov U u _ I2 r1 r2 r q2) λ_ s3 zq=>?_))));erw[zq,H3,I3,q3,<-wpAny_release (σ,H3,I3,q3)]
abbrev AcP (te:TE)(g:TG):TS:=λD σ H=>te σ H λx H1=>g x σ H1 D.nx
def ZN {tg e:Expr}{te:TE}{g:TG}(U:PE X e te)(Z:PG X tg g)(hs:swapsWithSole [tg] e pos.line X.env=pure Vd)(hw:swappedStores [tg] e X.env=pure U_)
  (h1:(G9 [tg] X.env).map (·.2)= [Ge tg X.env]):PS X (.Assign [tg] e pos) (AcP te g):=by
 rw[2,D,I,h];refine wpAny_Assign_stores (thn (U ot s σ H _ I h) λv s1 zq=>?_) hs hw;erw[zq,x,H1,I1,r1,q1];rw[h1];exact thn (Z ot s1 σ H1 x v _ I1 r1 q1) λ_ s2 q=>q
def qF {i:Nat}{x:Str}{e:Expr}{te:TE}{pos':Pos}(U:X.N.Nodup)(hi:X.N[i]? =u_ x)(Z:Loc X.env.scope x)(he:PE X e te)(hs:h_ e (u_ (.Name x pos')) pos.line X.env=pure Vd)(hf:X.fn x=v_\/X.env.scope.names.lookup x=u_ .local):
  PS X (.Assign [.Name x pos'] e pos) (AcP te (YG i)):=by
 rw[2,D,I,h];refine wpAny_Assign_Name (thn (he ot s σ H _ I h) λv s1 zq=>?_) hs;erw[zq,y,H1,I1,r1,q1,<-K0 I1 U hi Z r1 (λs2 I2=>(_,H1,I2,q1)) hf]
inductive Aek (i:Nat)(te:TE)(ti:TIp)(D:nh)(σ:St)(H:Hp):Prop
 |mk (x:_)(_:σ[i]? =u_ (u_ x))(_:te σ H λy H1=>ti x y H1 λz H2=>D.nx (σ.set i (u_ z)) H2)
def MU {i:Nat}{x:Str}{e:Expr}{te:TE}{op:Hq}{ti:TIp}{pos':Pos}(hN:X.N.Nodup)(hi:X.N[i]? =u_ x)(hx:Loc X.env.scope x)(he:PE X e te)(ho:PIp X op ti)(hf:X.fn x=v_\/X.env.scope.names.lookup x=u_ .local):
  PS X (.AugAssign (.Name x pos') op e pos) (Aek i te ti):=by
 rw[2,D,I,h];erw[h,v,e1,h];erw[I.loc,m,hn,hl];let aa:Vis X.env.scope x:=by rcases hx with k|k;exact .inl k;exact .inr (.inl k)
 erw[hl i x v hi e1 aa,u,r,l];refine wpAny_AugAssign_Name ?_;let go:Ve #[X,X] X.A (eval e X.env) (λw s₂=>Ve #[X,X] X.A (tN op u w) (λr s₃=>Ve #[X,X] X.A (HD X.env x r) (λ_=>SP X ot D .next) X.xe s₃) X.xe s₂) X.xe s:=by
  refine thn (he ot s σ H _ I h) λw s1 zq=>?_;erw[zq,y,H1,I1,r1,q1];refine thn (ho ot s1 σ H1 v y u w _ I1 r r1 q1) λz s2 zq=>?_;erw[zq,zv,H2,I2,r2,q2,<-K0 I2 hN hi hx r2 (λs3 I3=>(_,H2,I3,q2)) hf]
 rcases l with⟨U,hm⟩|⟨U,c,hc,Z⟩
 .exact RY I.ok.kind U hn hm go
 .rcases U with U|U
  .exact F_ I.ok.kind U hc Z go
  .rcases hx with k|k
   .have:X.env.scope.names.lookup x=u_ .free:=U;rw[k,0] at this
   .have:X.env.scope.names.lookup x=u_ .free:=U;rw[k,0] at this
abbrev ipI (f:Int->Int->Int):TIp:=λx y H Q=>∃i j,x= .int i/\y= .int j/\Q (.int (f i j)) H
def No:PIp X .Add (ipI λi j=>i+j):=by
 rw[2,x,y,v,u,Q,I,U,Z,h];erw[h,i,j,e1,e2,q];subst e1;subst e2;erw[U,t,rfl];erw[Z,t',rfl,<-iadd_int (.int _,H,I.tok _,⟨0⟩,q)]
abbrev ML (c:TT)(tb:TS):TS:=λD σ H=>∃W:Nat->St->Hp->Prop,(∃m,W m σ H)/\∀m σ H,W m σ H->
 c σ H λb H1=>if b=v_ then∃N:St->Hp->Prop,(∀σ' H',N σ' H'->∃m',m'<m/\W m' σ' H')/\tb {D with nx:=N,ct:=N,bk:=D.nx} σ H1 else D.nx σ H1
def wG {c:Expr}{U:oj Stmt}{tc:TT}{tb:TS}(hp:PassesOwn #[X,X] X.A X.env X.xe)(hc:PT X c tc)(hb:PSs X U tb):PS X (.While c U [] pos) (ML tc tb):=by
 rw[2,D,I,h];erw[h,W,[m0,w0],Z];refine wpAny_While (codeAny_whileLoop (λn s'=>∃σ' H',Inv X ot σ' H' s'/\W n σ' H') ?_ m0 (σ,H,I,w0));rintro n s1 ⟨σ1,H1,I1,w1⟩;refine Ug hp (thn (hc ot s1 σ1 H1 _ I1 (Z n σ1 H1 w1)) λb s2 zq=>?_);erw[zq,H2,I2,q2];cases b with
 |true=>
  erw[q2,N,hN,q2];rw[A6 rfl];refine Ug hp (thn (hb ot s2 σ1 H2 _ I2 q2) λf s3 q3=>?_);cases f with
  |next=>
   erw[q3,σ3,H3,I3,n3];erw[hN σ3 H3 n3,m',hm,w3,<-(m',hm,σ3,H3,I3,w3)]
  |cont=>
   erw[q3,σ3,H3,I3,n3];erw[hN σ3 H3 n3,m',hm,w3,<-(m',hm,σ3,H3,I3,w3)]
  |brk=>exact q3|ret v=>exact q3
 |false=>
  rw[A4 uc];exact Uv (σ1,H2,I2,q2)
end
structure It where
 go:Nat->Hp->Prop
 yld:Nat->Hp->V->Hp->Prop
 stop:Nat->Hp->Prop
abbrev AX (X:Cx)(ot:oj (o3×Obj))(H:Hp)(b:o3):Prop:=
 H b=U_/\b≠X.env.locals/\b∉X.fs/\(b>X.ex\/X.s₀.heap.objs.size<=b)/\(∀x c,X.env.cells.lookup x=u_ c->c≠b)/\∀p>X.pn++ot,p.1≠b
variable {ot:oj (o3×Obj)}{σ:St}{H':Hp}
def Inv.fpOk (I:#[I])(U:#[0,s]<=b)(hn:H' b=U_):AX X ot H' b:=by
 rw[_,hn,U5 (Vr I.lt U),I.nofs U,.inr (uY I.sz U),λx c e z=>?_,λp Z z=>?_]
 .erw[I.cell x c e,v,q,<-A8 (Vr q.lt (by rwa[z])) (vM _)]
 .exact A8 (Vr (uG (I.pin p Z).1) (by rwa[z])) (vM _)
structure NE (P:o9)(w:og)(K:o0)(tg:Expr)(J:It)(fp:oj o3)(it:o3)(tn:Nat->o8->Prop):Prop where
 mem:it>fp
 obj:∀i h,tn i h->∀b>fp,∃o,h.get? b=u_ o/\∀v,o.data≠ .cell v
 keep:∀i h h',tn i h->(∀b>fp,∀o,h.get? b=u_ o->h'.get? b=u_ o)->tn i h'
 item:∀(X:Cx),X.prog=P->X.w=w->X.K=K->X.calm=v_->∀(i:Nat) (ot:oj (o3×Obj)) (s:o7) (σ:St) (H:Hp) (E:o6->o7->Prop),#[I]->(∀b>fp,AX X ot H b)->tn i s.heap->J.go i H->
  Ve (Vs P w) X.A (VG (-it)) (λr s1=>∃u,r=u_ u/\
   Ve (Vs P w) X.A (tu tg (-it) u) (λ_ s2=>∃x H',Inv X ot σ H' s2/\il x u/\J.yld i H x H'/\tn (i+1) s2.heap/\∀b>fp,H' b=U_) E s1) E s
 done:∀(X:Cx),X.prog=P->X.w=w->X.K=K->X.calm=v_->∀(i:Nat) (ot:oj (o3×Obj)) (s:o7) (σ:St) (H:Hp) (E:o6->o7->Prop),#[I]->(∀b>fp,AX X ot H b)->tn i s.heap->J.stop i H->
  Ve (Vs P w) X.A (VG (-it)) (λr s1=>r=U_/\Inv X ot σ H s1) E s
 self:∀(A:oh) (i:Nat) (s:o7) (Q:o6->o7->Prop) (E:o6->o7->Prop),tn i s.heap->Q (-it) s->Ve (Vs P w) A (H_ (-it)) Q E s
nonrec abbrev TI:=St->Hp->(It->Hp->Prop)->Prop
abbrev PIE (X:Cx)(ot:oj (o3×Obj))(σ:St)(tg:Expr)(R:It->Hp->Prop)(itv:o6)(s2:o7):Prop:=
 ∃(it:o3) (fp:oj o3) (tn:Nat->o8->Prop) (J:It) (H':Hp),itv= .ref it/\Inv X ot σ H' s2/\NE X.prog X.w X.K tg J fp it tn/\tn 0 s2.heap/\(∀b>fp,AX X ot H' b)/\R J H'
abbrev PI (X:Cx)(tg iter:Expr)(wi:TI):Prop:=
 ∀(ot:oj (o3×Obj)) (s:o7) (σ:St) (H:Hp) (R:It->Hp->Prop),#[I]->wi σ H R->
  Ve #[X,X] X.A (eval iter X.env) (λv s1=>Ve #[X,X] X.A (H_ v) (PIE X ot σ tg R) X.xe s1) X.xe s
def EY {M:GS}{A:oh}{E:o6->o7->Prop}{s:o7}{tg:Expr}{it:o3}{u:o6}{o:Obj}{n:String}{vs:Array o6}{Q:Unit->o7->Prop}(Z:s.heap.get? it=u_ o)(hc:o.cls= .type n)(hd:o.data= .fields vs)
  (hn: ["enumerate","zip","dict_itemiterator","dict_reverseitemiterator","odict_iterator","itertools.zip_longest","itertools.pairwise"].contains n=Vd) (U:Q GB s):Ve M A (tu tg (-it) u) Q E s:=by
 unfold tu;cases tg<;>first
  |exact uC U
  |(cases u<;>first
    |exact uC U
    |(refine A7 (tj Z ?_)
      rw[hc,hd];show Ve M A (if(["enumerate","zip","dict_itemiterator","dict_reverseitemiterator","odict_iterator","itertools.zip_longest","itertools.pairwise"].contains n&&vs[0]? ==u_ (VI _))=v_ then _ else _) Q E s
      rw[A4 (by intro h;rw[hn,TR,0] at h)]
      exact uC U))
abbrev Itl (K:o0)(a:o3):It:=
 ⟨λi H=>∃xs x,SqL K H a xs/\xs[i]? =u_ x,λi H x H'=>H'=H/\∀xs,SqL K H a xs->xs[i]? =u_ x,λi H=>∃xs,SqL K H a xs/\↑xs<=i⟩
abbrev Itt (K:o0)(a:o3):It:=
 ⟨λi H=>∃xs x,SqT K H a xs/\xs[i]? =u_ x,λi H x H'=>H'=H/\∀xs,SqT K H a xs->xs[i]? =u_ x,λi H=>∃xs,SqT K H a xs/\↑xs<=i⟩
abbrev Itr (lo:Int)(n:Nat):It:=[λi _=>i<n:λi H x H'=>H'=H/\x= .int (lo+i):λi _=>n<=i]
variable {K:o0}{tg:Expr}
def C9 {P:o9}(a it:o3):NE P w K tg (Itl K a) [it] it (λi h=>h.IsListIter it a i) where
 mem:=by simp
 obj:=λi h st b U=>by
  let e:b=it:=by simpa using U
  subst e;erw[st,o,e,c,d,<-⟨o,e,λv z=>by rw[d,0] at z⟩]
 keep:=λi h h' st k=>st.at λo e=>k it (by simp) o e
 item:=by
  intro X hP hw hK hc i ot s σ H E I hf st hg;subst hP hw hK;erw[hg,xs,x,hq,hx];erw[I.list hq,its,rv,p,hz];erw[rv.get hx,u,hu,ru];obtain⟨f0,f1,f2,f3,f4,f5⟩:=hf it (by simp)
  refine RN st p.isList (x:=u) (by simpa using hu) λh' Z sb=>?_
  let I1:Inv X ot σ H {s with heap:=h'}:=I.turned (t':=s.toks) (λb o U e=>(sb.2 b U).trans e) f0 f1 f3 f4 f5
  erw[id Z,o,e,c,d,<-⟨u,1,EY (s:={s with heap:=h'}) e c d () (x,H,I1,ru,⟨1,λys hy=>by rwa[I.list_inj hy hq]⟩,Z,λb U=>(hf b U).1)⟩]
 done:=by
  intro X hP hw hK hc i ot s σ H E I hf st hg;subst hP hw hK;erw[hg,xs,hq,hx];erw[I.list hq,its,rv,p,hz];obtain⟨f0,f1,f2,f3,f4,f5⟩:=hf it (by simp)
  let hl:=↑rv;exact FQ (I.ok.hd hc) st p.isList (by simp;omega) λh' eb=>[1:I.turned (t':=s.toks) (λb o U e=>eb b o U e) f0 f1 f3 f4 f5]
 self:=λ_ _ _ _ _ st h=>wpAny_pyIter_listiter st h
def kZ {P:o9}(a it:o3):NE P w K tg (Itt K a) [it] it (λi h=>h.IsTupleIter it a i) where
 mem:=by simp
 obj:=λi h st b U=>by
  let e:b=it:=by simpa using U
  subst e;erw[st,o,e,c,d,<-⟨o,e,λv z=>by rw[d,0] at z⟩]
 keep:=λi h h' st k=>st.at λo e=>k it (by simp) o e
 item:=by
  intro X hP hw hK hc i ot s σ H E I hf st hg;subst hP hw hK;erw[hg,xs,x,hq,hx];erw[I.tuple hq,its,rv,p,hz];erw[rv.get hx,u,hu,ru];obtain⟨f0,f1,f2,f3,f4,f5⟩:=hf it (by simp)
  refine wpAny_pyNext_tuple_item st (show s.heap.IsTuple a its.toArray from p) (x:=u) (by simpa using hu) λh' Z sb=>?_
  let I1:Inv X ot σ H {s with heap:=h'}:=I.turned (t':=s.toks) (λb o U e=>(sb.2 b U).trans e) f0 f1 f3 f4 f5
  erw[id Z,o,e,c,d,<-⟨u,1,EY (s:={s with heap:=h'}) e c d () (x,H,I1,ru,⟨1,λys hy=>by rwa[I.tuple_inj hy hq]⟩,Z,λb U=>(hf b U).1)⟩]
 done:=by
  intro X hP hw hK hc i ot s σ H E I hf st hg;subst hP hw hK;erw[hg,xs,hq,hx];erw[I.tuple hq,its,rv,p,hz];obtain⟨f0,f1,f2,f3,f4,f5⟩:=hf it (by simp)
  let hl:=↑rv;exact wpAny_pyNext_tuple_end (I.ok.hd hc) st (show s.heap.IsTuple a its.toArray from p) (by simp;omega) λh' eb=>[1:I.turned (t':=s.toks) (λb o U e=>eb b o U e) f0 f1 f3 f4 f5]
 self:=λ_ _ _ _ _ st h=>wpAny_pyIter_tupleiter st h
def Ci {P:o9}(it:o3)(lo:Int)(n:Nat):NE P w K tg (Itr lo n) [it] it (λi h=>r6 h it (lo+(i:Nat)*1) ((n:Int)-(i:Nat)) 1) where
 mem:=by simp
 obj:=λi h st b U=>by
  let e:b=it:=by simpa using U
  subst e;exact⟨_,st,λv z=>by
   let z':Data.fields _=Data.cell v:=z;rw[z',0]⟩
 keep:=λi h h' st k=>k it (by simp) _ st
 item:=by
  intro X hP hw hK hc i ot s σ H E I hf st hg;subst hP hw hK;obtain⟨f0,f1,f2,f3,f4,f5⟩:=hf it (by simp)
  let W:=Walks.range (prog:=X.prog) (w:=X.w) (I.ok.hd hc) it lo 1 n;refine vf (n:=1) I.tk (W.item i s _ _ hg st λv h' tk hv Z kk=>?_);intro htk;erw[hv,t,rfl];let I1:Inv X ot σ H {s with heap:=h',toks:=tk}:=I.turned (λb o U e=>kk b o (by simpa using U) e) f0 f1 f3 f4 f5
  rw[0,EY (s:={s with heap:=h',toks:=tk}) (n:="range_iterator") Z rfl rfl () (.int (lo+i),H,I1,[t:?_],[1:1],Z,λb U=>(hf b U).1)]
  rw[Int.mul_one]
 done:=by
  intro X hP hw hK hc i ot s σ H E I hf st hg;subst hP hw hK;obtain⟨f0,f1,f2,f3,f4,f5⟩:=hf it (by simp)
  exact wpAny_pyNext_range_end (I.ok.hd hc) st (by have:n<=i:=hg;omega) λh' eb=>[1:I.turned (t':=s.toks) (λb o U e=>eb b o U e) f0 f1 f3 f4 f5]
 self:=λ_ _ _ _ _ st h=>wpAny_pyIter_rangeiter st h
section
variable {X:Cx}{tg:Expr}
inductive Acl (K:PySem.W.Frag)(R:(It->Hp->Prop))(x:V)(H1:Hp):Prop
 |mk (a:_)(_:x=-a)(_:(∃xs,SqL K H1 a xs))(_:R (Itl K a) H1)
abbrev Adg (K:o0)(tl:TE):TI:=λσ H R=>tl σ H λx H1=>Acl K R x H1
inductive AdE (K:PySem.W.Frag)(R:(It->Hp->Prop))(x:V)(H1:Hp):Prop
 |mk (a:_)(_:x=-a)(_:(∃xs,SqT K H1 a xs))(_:R (Itt K a) H1)
abbrev AeD (K:o0)(tl:TE):TI:=λσ H R=>tl σ H λx H1=>AdE K R x H1
def ZD {l:Expr}{tl:TE}(Z:PE X l tl):PI X tg l (Adg X.K tl):=by
 rw[2,R,I,h];refine thn (Z ot s σ H _ I h) λv s1 zq=>?_;erw[zq,x,H1,U,r1,q1];erw[q1,a,e,[xs,hq],q];subst e;rw[r1,0];erw[U.list hq,its,rv,p,hz];refine V5 p.isList ?_;rw[_,#[0,s1],[#[0,s1]],_,_,H1,1,U.kept (t':=s1.toks) λb o e=>u9 _ e,C9 a _,(_,uD _ rfl,1,1),λb hb=>?_,q];let e:b=#[0,s1]:=by simpa using hb
 subst e;exact U.fpOk (uh _) (U.hok.fresh (uh _))
def wq {l:Expr}{tl:TE}(Z:PE X l tl):PI X tg l (AeD X.K tl):=by
 rw[2,R,I,h];refine thn (Z ot s σ H _ I h) λv s1 zq=>?_;erw[zq,x,H1,U,r1,q1];erw[q1,a,e,[xs,hq],q];subst e;rw[r1,0];erw[U.tuple hq,its,rv,p,hz];refine U6 (show s1.heap.IsTuple a its.toArray from p) ?_
 rw[_,#[0,s1],[#[0,s1]],_,_,H1,1,U.kept (t':=s1.toks) λb o e=>u9 _ e,kZ a _,(_,uD _ rfl,1,1),λb hb=>?_,q];let e:b=#[0,s1]:=by simpa using hb
 subst e;exact U.fpOk (uh _) (U.hok.fresh (uh _))
def Bq {ot:oj (o3×Obj)}{σ:St}{H:Hp}{s:o7}{R:It->Hp->Prop}{E:o6->o7->Prop}{lo hi:Int}{t u v:Tok}{tk:Nat}(I:#[I])(h1: -(2^62)<=lo)(h2:lo<2^62)(h3: -(2^62)<=hi)(h4:hi<2^62)
  (q:R (Itr lo (hi-lo).toNat) H) (htk:0<tk:=by ac_rfl):Ve #[X,X] X.A (H_ (.ref #[0,s])) (PIE X ot σ tg R) E {s with heap:=s.heap.push {cls:= .type "range",data:= .fields #[.int lo t,.int hi u,.int 1 v]},toks:=tk}:=by
 refine wpAny_pyIter_range (IsRange.new ..) (small_one h1 h2 h3 h4) ?_;let U:Inv X ot σ H {s with heap:=s.heap.push {cls:= .type "range",data:= .fields #[.int lo t,.int hi u,.int 1 v]},toks:=tk}:=I.kept λb o e=>u9 _ e
 refine((s.heap.push {cls:= .type "range",data:= .fields #[.int lo t,.int hi u,.int 1 v]}).objs.size,[(s.heap.push {cls:= .type "range",data:= .fields #[.int lo t,.int hi u,.int 1 v]}).objs.size],_,_,H,1,
  U.kept (t':=tk) λb o e=>u9 _ e,Ci _ lo (hi-lo).toNat,?_,λb Z=>?_,q)
 .let e1:lo+((0:Nat):Int)*1=lo:=by simp
  let e2:(((hi-lo).toNat:Nat):Int)-((0:Nat):Int)=pB lo hi 1:=by rw[rangeSize_one];split<;>omega
  show r6 _ _ (lo+((0:Nat):Int)*1) ((((hi-lo).toNat:Nat):Int)-((0:Nat):Int)) 1;rw[e1,e2];exact uD _ rfl
 .let e:b=(s.heap.push {cls:= .type "range",data:= .fields #[.int lo t,.int hi u,.int 1 v]}).objs.size:=by simpa using Z
  subst e;exact U.fpOk (uh _) (U.hok.fresh (uh _))
inductive Ack (R:(It->Hp->Prop))(vs:List V)(H1:Hp):Prop
 |mk (j:Int)(_:vs= [.int j])(_: -(2^62)<=j)(_:j<2^62)(_:R (Itr 0 j.toNat) H1)
abbrev Adf (ta:TA):TI:=λσ H R=>ta σ H λvs H1=>Ack R vs H1
inductive Acj (R:(It->Hp->Prop))(vs:List V)(H1:Hp):Prop
 |mk (i j:Int)(_:vs= [.int i,.int j])(_:(-(2^62)<=i/\i<2^62/\ -(2^62)<=j/\j<2^62))(_:R (Itr i (j-i).toNat) H1)
abbrev Ade (ta:TA):TI:=λσ H R=>ta σ H λvs H1=>Acj R vs H1
def Yw {a:Expr}{ta:TA}{p pos:Pos}(U:Gl X "range")(hm:X.mg "range"=U_)(ha:PA X [a] ta)(Z:Vi [a] X.env= [(Vd,eval a X.env)]):PI X tg (.Call (.Name "range" p) [a] [] pos) (Adf ta):=by
 rw[2,R,I,h];refine HF (ZQ I U hm boot_range (vy (thn (ha pos ot s σ H _ I h) λus s1 zq=>?_) Z rfl));erw[zq,vs,H1,I1,r1,q1];erw[q1,j,e,q1,q2,q];subst e;cases r1 with
 |cons r rr=>
  rw[rr,0];erw[r,t,rfl,<-call_range_1 (Bq I1 () () q1 q2 (by simpa using q))]
def DM {a b:Expr}{ta:TA}{p pos:Pos}(hg:Gl X "range")(hm:X.mg "range"=U_)(ha:PA X [a,b] ta)(hs:Vi [a,b] X.env= [(Vd,eval a X.env),(Vd,eval b X.env)])(U:Vi [b] X.env= [(Vd,eval b X.env)]):
  PI X tg (.Call (.Name "range" p) [a,b] [] pos) (Ade ta):=by
 rw[2,R,I,h];refine HF (ZQ I hg hm boot_range (vy (thn (ha pos ot s σ H _ I h) λus s1 zq=>?_) (by rw[hs,U]) (by rw[U];rfl)));erw[zq,vs,H1,I1,r1,q1]
 erw[q1,i,j,e,[q1,q2,q3,q4],q];subst e;cases r1 with
 |cons r Z=>
  cases Z with
  |cons r' Z=>
   rw[Z,0];erw[r,t,rfl];erw[r',t',rfl,<-call_range_2 (Bq I1 q1 q2 q3 q4 q)]
abbrev AdO (wi:TI)(g:TG)(tb:TS):TS:=λD σ H=>wi σ H λJ H1=>∃W:Nat->Nat->St->Hp->Prop,(∃m,W 0 m σ H1)/\∀i m σ H,W i m σ H->
 (J.stop i H/\D.nx σ H)\/(J.go i H/\∃N:St->Hp->Prop,(∀σ' H',N σ' H'->∃m',m'<m/\W (i+1) m' σ' H')/\∀x H',J.yld i H x H'->g x σ H' λσ2 H2=>tb {D with nx:=N,ct:=N,bk:=D.nx} σ2 H2)
abbrev oF (fp:oj o3)(h:o8):oj (o3×Obj):=fp.filterMap λb=>(h.get? b).map λo=>(b,o)
variable {fp:oj o3}
def xN (U:b>fp)(e:h.get? b=u_ o):(b,o)>oF fp h:=List.mem_filterMap.mpr ⟨b,U,by rw[e];rfl⟩
def En {p:o3×Obj}(U:p>oF fp h):p.1>fp/\h.get? p.1=u_ p.2:=by
 erw[List.mem_filterMap.mp U,b,Z,e];cases q:h.get? b with
 |none=>rw[q,0] at e|some o=>
  rw[q] at e;let e':(b,o)=p:=uL e;subst e';exact[Z:q]
def Inv.pinned (I:#[I])(hf:∀b>fp,AX X ot H b)(ho:∀b>fp,∃o,s.heap.get? b=u_ o/\∀v,o.data≠ .cell v):Inv X (ot++oF fp s.heap) σ H s:=
 I.pins_of λp hp=>(Ae.mp hp).elim (λz=>I.pin p (uT _ z)) λz=>by
  erw[En z,U,e];erw[hf p.1 U,f0,f1,f2,_];erw[ho p.1 U,o,Z,d];rw[e,0] at Z;exact(e,f0,f1,f2,d)
def Inv.unpinned {pl:oj (o3×Obj)}(I:Inv X (ot++pl) σ H s):#[I]:=I.pins_of λp U=>I.pin p (uT _ (vO _ U))
def y7 {U:Expr}{ad:oj Stmt}{wi:TI}{g:TG}{tb:TS}{pos:Pos}(hp:PassesOwn #[X,X] X.A X.env X.xe)(hc:X.calm=v_)(hi:PI X tg U wi)(hg:PG X tg g)(Z:PSs X ad tb)
  (hs:∀x,tJ U X.env x=pure x):PS X (.For tg U ad [] pos) (AdO wi g tb):=by
 rw[2,D,I,h];refine wpAny_For (thn (hi ot s σ H _ I h) λv s1 h1=>thn h1 λao s2 h2=>?_) hs;erw[h2,it,fp,tn,J,H2,e,I2,T,ak,f2,W,[m0,w0],af];subst e;let aa:∀{H':Hp},(∀b>fp,H' b=U_)->∀b>fp,AX X ot H' b:=λhn b Z=>[hn b Z:(f2 b Z).2];refine codeAny_forLoop_any (λn s'=>∃i σ' H',Inv X ot σ' H' s'/\tn i s'.heap/\(∀b>fp,H' b=U_)/\W i n σ' H') ?_ m0 ((0),σ,H2,I2,ak,λb Z=>(f2 b Z).1,w0);rintro n s3 ⟨i,σ3,H3,I3,ag,ah,w3⟩;rcases af i n σ3 H3 w3 with⟨stop,qn⟩|⟨go,N,hN,step⟩
 .refine Ug hp (thn (T.done X rfl rfl rfl hc i ot s3 σ3 H3 X.xe I3 (aa ah) ag stop) λr s4 zq=>?_);erw[zq,hr,I4];subst hr;exact Uv (σ3,H3,I4,qn)
 .refine Ug hp (thn (T.item X rfl rfl rfl hc i ot s3 σ3 H3 X.xe I3 (aa ah) ag go) λr s4 zq=>?_);erw[zq,u,hr,h4];subst hr;refine Ug hp (thn h4 λ_ s5 zq=>?_);erw[zq,x,H5,I5,r5,y5,ae,al];let am:=I5.pinned (aa al) (T.obj _ _ ae);refine Ug hp (thn (hg _ s5 σ3 H5 x u _ am r5 (step x H5 y5)) λ_ s6 zq=>?_);erw[zq,σ6,H6,I6,q6];refine Ug hp (thn (Z _ s6 σ6 H6 _ I6 q6) λf s7 q7=>?_);let ac:∀{σ7:St}{H7:Hp},Inv X (ot++oF fp s5.heap) σ7 H7 s7->N σ7 H7->∃m,m<n/\∃i σ' H',Inv X ot σ' H' s7/\tn i s7.heap/\(∀b>fp,H' b=U_)/\W i m σ' H':=λ{σ7 H7} I7 n7=>by
   erw[hN σ7 H7 n7,m',hm,w7];rw[_,m',hm,i+1,σ7,H7,I7.unpinned,T.keep _ _ _ ae λb Z o e=>(I7.pin (b,o) (uT _ (uT _ (xN Z e)))).1,λb Z=>?_,w7];erw[T.obj _ _ ae b Z,o,e,d,<-(I7.pin (b,o) (uT _ (uT _ (xN Z e)))).2.1]
  cases f with
  |next=>erw[q7,σ7,H7,I7,n7,<-ac I7 n7]|cont=>erw[q7,σ7,H7,I7,n7,<-ac I7 n7]|brk=>erw[q7,σ7,H7,I7,q7,<-(σ7,H7,I7.unpinned,q7)]|ret v=>erw[q7,x7,σ7,H7,I7,r7,q7,<-(x7,σ7,H7,I7.unpinned,r7,q7)]
end
def BS {K:o0}{a:o3}{xs:oj V}{g:TG}{tb:TS}{D:nh}{σ:St}{H:Hp}(U:Nat->St->Hp->Prop)(h0:U 0 σ H)(hl:∀i σ H,i<=↑xs->U i σ H->SqL K H a xs)
  (hs:∀i x σ H,xs[i]? =u_ x->U i σ H->g x σ H λσ2 H2=>tb {D with nx:=U (i+1),ct:=U (i+1),bk:=D.nx} σ2 H2) (hd:∀σ H,U ↑xs σ H->D.nx σ H):
  ∃W:Nat->Nat->St->Hp->Prop,(∃m,W 0 m σ H)/\∀i m σ H,W i m σ H->
   ((Itl K a).stop i H/\D.nx σ H)\/((Itl K a).go i H/\∃N:St->Hp->Prop,(∀σ' H',N σ' H'->∃m',m'<m/\W (i+1) m' σ' H')/\∀x H',(Itl K a).yld i H x H'->g x σ H' λσ2 H2=>tb {D with nx:=N,ct:=N,bk:=D.nx} σ2 H2):=by
 rw[_,λi m σ H=>m=↑xs-i/\i<=↑xs/\U i σ H,(↑xs,by simp,uK _,h0)]
 rintro i m σ H ⟨rfl,hi,p⟩;let q:=hl i σ H hi p;by_cases Z:i<↑xs
 .refine .inr ((xs,xs[i],q,by simp[Z]),U (i+1),λσ' H' p'=>(↑xs-(i+1),(),1,Z,p'),λx H' y=>?_)
  erw[y,e,y];subst e;exact hs i x σ _ (y xs q) p
 .let e:i=↑xs:=by omega
  subst e;exact .inl [[xs:q:uh _]:hd σ H p]
def xB {K:o0}{a:o3}{xs:oj V}{g:TG}{tb:TS}{D:nh}{σ:St}{H:Hp}(U:Nat->St->Hp->Prop)(h0:U 0 σ H)(hl:∀i σ H,i<=↑xs->U i σ H->SqT K H a xs)
  (hs:∀i x σ H,xs[i]? =u_ x->U i σ H->g x σ H λσ2 H2=>tb {D with nx:=U (i+1),ct:=U (i+1),bk:=D.nx} σ2 H2) (hd:∀σ H,U ↑xs σ H->D.nx σ H):
  ∃W:Nat->Nat->St->Hp->Prop,(∃m,W 0 m σ H)/\∀i m σ H,W i m σ H->
   ((Itt K a).stop i H/\D.nx σ H)\/((Itt K a).go i H/\∃N:St->Hp->Prop,(∀σ' H',N σ' H'->∃m',m'<m/\W (i+1) m' σ' H')/\∀x H',(Itt K a).yld i H x H'->g x σ H' λσ2 H2=>tb {D with nx:=N,ct:=N,bk:=D.nx} σ2 H2):=by
 rw[_,λi m σ H=>m=↑xs-i/\i<=↑xs/\U i σ H,(↑xs,by simp,uK _,h0)]
 rintro i m σ H ⟨rfl,hi,p⟩;let q:=hl i σ H hi p;by_cases Z:i<↑xs
 .refine .inr ((xs,xs[i],q,by simp[Z]),U (i+1),λσ' H' p'=>(↑xs-(i+1),(),1,Z,p'),λx H' y=>?_)
  erw[y,e,y];subst e;exact hs i x σ _ (y xs q) p
 .let e:i=↑xs:=by omega
  subst e;exact .inl [[xs:q:uh _]:hd σ H p]
def xl {lo:Int}{n:Nat}{g:TG}{tb:TS}{D:nh}{σ:St}{H:Hp}(U:Nat->St->Hp->Prop)(h0:U 0 σ H)
  (hs:∀i σ H,i<n->U i σ H->g (.int (lo+i)) σ H λσ2 H2=>tb {D with nx:=U (i+1),ct:=U (i+1),bk:=D.nx} σ2 H2) (hd:∀σ H,U n σ H->D.nx σ H):
  ∃W:Nat->Nat->St->Hp->Prop,(∃m,W 0 m σ H)/\∀i m σ H,W i m σ H->
   ((Itr lo n).stop i H/\D.nx σ H)\/((Itr lo n).go i H/\∃N:St->Hp->Prop,(∀σ' H',N σ' H'->∃m',m'<m/\W (i+1) m' σ' H')/\∀x H',(Itr lo n).yld i H x H'->g x σ H' λσ2 H2=>tb {D with nx:=N,ct:=N,bk:=D.nx} σ2 H2):=by
 rw[_,λi m σ H=>m=n-i/\i<=n/\U i σ H,(n,by simp,uK _,h0)]
 rintro i m σ H ⟨rfl,hi,p⟩;by_cases Z:i<n
 .refine .inr (Z,U (i+1),λσ' H' p'=>(n-(i+1),(),1,Z,p'),λx H' y=>?_)
  erw[y,e,y];subst e y;exact hs i σ _ Z p
 .let e:i=n:=by omega
  subst e;exact .inl [uh _:hd σ H p]
nonrec abbrev R2:=V->V->Hp->VK->Prop
abbrev OpR (X:Cx)(f:o6->o6->Sem o6)(r:R2):Prop:=
 ∀(ot:oj (o3×Obj)) (s:o7) (σ:St) (H:Hp) (x y:V) (v u:o6) (Q:VK),#[I]->il x v->il y u->r x y H Q->
  Ve #[X,X] X.A (f v u) (EP X ot σ Q) X.xe s
abbrev UnR (X:Cx)(f:o6->Sem o6)(r:V->Hp->VK->Prop):Prop:=
 ∀(ot:oj (o3×Obj)) (s:o7) (σ:St) (H:Hp) (x:V) (v:o6) (Q:VK),#[I]->il x v->r x H Q->
  Ve #[X,X] X.A (f v) (EP X ot σ Q) X.xe s
abbrev jg (X:Cx)(f:o6)(r:oj V->Hp->VK->Prop):Prop:=
 ∀(ot:oj (o3×Obj)) (s:o7) (σ:St) (H:Hp) (xs:oj V) (us:oj o6) (Q:VK),#[I]->iE xs us->r xs H Q->
  Ve #[X,X] X.A (call f us) (EP X ot σ Q) X.xe s
abbrev AeJ (X:Cx)(r:V->Hp->(Bool->Hp->Prop)->Prop):Prop:=
 ∀(ot:oj (o3×Obj)) (s:o7) (σ:St) (H:Hp) (x:V) (v:o6) (Q:Bool->Hp->Prop),#[I]->il x v->r x H Q->
  Ve #[X,X] X.A (truthy v) (TP X ot σ Q) X.xe s
abbrev tOp (r:R2)(ta tb:TE):TE:=λσ H Q=>ta σ H λx H1=>tb σ H1 λy H2=>r x y H2 Q
abbrev tUn (r:V->Hp->VK->Prop)(ta:TE):TE:=λσ H Q=>ta σ H λx H1=>r x H1 Q
inductive rI (C:Int->Int->Prop)(g:Int->Int->V)(x:V)(y:V)(H:Hp)(Q:VK):Prop
 |mk (i:_)(j:_)(_:x= .int i)(_:y= .int j)(_:C i j)(_:Q (g i j) H)
inductive rI0 (g:Int->Int->V)(x:V)(y:V)(H:Hp)(Q:VK):Prop
 |mk (i:_)(j:_)(_:x= .int i)(_:y= .int j)(_:Q (g i j) H)
inductive rU (g:Int->V)(x:V)(H:Hp)(Q:VK):Prop
 |mk (i:_)(_:x= .int i)(_:Q (g i) H)
section
variable {X:Cx}{a b c:Expr}{ta tb tc:TE}{pos:Pos}
def Adt (ha:PE X a ta)(U:PE X b tb){ot:oj (o3×Obj)}{s:o7}{σ:St}{H:Hp}{R:V->V->Hp->Prop}(I:#[I])
  (h:ta σ H λx H1=>tb σ H1 λy H2=>R x y H2) {Q:o6->o7->Prop}{f:o6->o6->Sem o6}
  (Z:∀v u s2 x y H2,Inv X ot σ H2 s2->il x v->il y u->R x y H2->Ve #[X,X] X.A (f v u) Q X.xe s2):
  Ve #[X,X] X.A (eval a X.env) (λv s₁=>Ve #[X,X] X.A (eval b X.env) (λu s₂=>Ve #[X,X] X.A (f v u) Q X.xe s₂) X.xe s₁) X.xe s:=by
 refine thn (ha ot s σ H _ I h) λv s1 zq=>?_;erw[zq,x,H1,I1,r1,q1];refine thn (U ot s1 σ H1 _ I1 q1) λu s2 zq=>?_;erw[zq,y,H2,I2,r2,q2,<-Z v u s2 x y H2 I2 r1 r2 q2]
def qV {U:Hq}{r:R2}(Z:OpR X (VN U) r)(ha:PE X a ta)(hb:PE X b tb):PE X (.BinOp a U b pos) (tOp r ta tb):=by
 rw[2,Q,I,h];exact wpAny_BinOp (Adt ha hb I h λv u s2 x y H2 I2 rx ry q=>Z ot s2 σ H2 x y v u Q I2 rx ry q)
def Aa8 {U:UnaryOp}{r:V->Hp->VK->Prop}(Z:UnR X (unaryOp U) r)(ha:PE X a ta):PE X (.UnaryOp U a pos) (tUn r ta):=by
 rw[2,Q,I,h];exact UnaryOp_ (thn (ha ot s σ H _ I h) λv s1 ⟨x,H1,I1,r1,q1⟩=>Z ot s1 σ H1 x v Q I1 r1 q1)
def opI {f:o6->o6->Sem o6}{C:Int->Int->Prop}{g:Int->Int->Int}
  (rule:∀(i j:Int) (t u:Tok) (s:o7) (Q:o6->o7->Prop) (E:o6->o7->Prop),C i j->Q (.int (g i j) s.toks) {s with toks:=s.toks+1}->Ve #[X,X] X.A (f (.int i t) (.int j u)) Q E s):
  OpR X f (rI C λi j=> .int (g i j)):=by
 rw[2,x,y,v,u,Q,I,U,Z,h];erw[h,i,j,rfl,rfl,hc,q];erw[U,t,rfl];erw[Z,t',rfl,<-rule i j t t' s _ _ hc (.int (g i j),H,I.tok _,⟨0⟩,q)]
def AdX {f:o6->o6->Sem o6}{g:Int->Int->Int}
  (rule:∀(i j:Int) (t u:Tok) (s:o7) (Q:o6->o7->Prop) (E:o6->o7->Prop),Q (.int (g i j) s.toks) {s with toks:=s.toks+1}->Ve #[X,X] X.A (f (.int i t) (.int j u)) Q E s):
  OpR X f (rI0 λi j=> .int (g i j)):=by
 rw[2,x,y,v,u,Q,I,U,Z,h];erw[h,i,j,rfl,rfl,q];erw[U,t,rfl];erw[Z,t',rfl,<-rule i j t t' s _ _ (.int (g i j),H,I.tok _,⟨0⟩,q)]
def Act {f:o6->o6->Sem o6}{g:Int->Int->Bool}
  (rule:∀(i j:Int) (t u:Tok) (s:o7) (Q:o6->o7->Prop) (E:o6->o7->Prop),Q (.bool (g i j)) s->Ve #[X,X] X.A (f (.int i t) (.int j u)) Q E s):
  OpR X f (rI0 λi j=> .bl (g i j)):=by
 rw[2,x,y,v,u,Q,I,U,Z,h];erw[h,i,j,rfl,rfl,q];erw[U,t,rfl];erw[Z,t',rfl,<-rule i j t t' s _ _ (.bl (g i j),H,I,1,q)]
abbrev AeN (i j:Int):Prop:=0<j/\j<1073741824
abbrev AeM (i j:Int):Prop:=0<=j/\j<=1000000/\i.natAbs<2^64
abbrev Acx (i j:Int):Prop:=(-(2^64)<i/\i<2^64)\/(-(2^64)<j/\j<2^64)
def Acx.ok {i j:Int}(h:Acx i j):IntMulOk i j:=by
 rcases h with⟨h1,h2⟩|⟨h1,h2⟩
 .exact .of_left (FH h1 h2)
 .exact .of_right (FH h1 h2)
def Q1:OpR X (VN .Add) (rI0 λi j=> .int (i+j)):=AdX λ_ _ _ _ _ _ _ q=>add_int q
def MZ:OpR X (VN .Sub) (rI0 λi j=> .int (i-j)):=AdX λ_ _ _ _ _ _ _ q=>sub_int q
def Kq:OpR X (VN .Mult) (rI Acx λi j=> .int (i*j)):=opI λ_ _ _ _ _ _ _ U q=>mul_int q U.ok
def O4:OpR X (VN .FloorDiv) (rI AeN λi j=> .int (i/j)):=opI λi j _ _ _ _ _ U q=>by
 let h1:(0:Int)<j:=U.1;let h2:j<1073741824:=U.2;exact floordiv_int () (by rwa[Int.fdiv_eq_ediv_of_nonneg i ()]) (.inl (PyProof.noPylong_small ()))
def WZ:OpR X (VN .Mod) (rI (λ_ j=>0<j) λi j=> .int (i%j)):=opI λi j _ _ _ _ _ U q=>by
 let h1:(0:Int)<j:=U;exact mod_int' () (by rwa[Int.fmod_eq_emod_of_nonneg i ()])
def Abd:OpR X (VN .Pow) (rI AeM λi j=> .int (i^j.toNat)):=opI λ_ _ _ _ _ _ _ U q=>pow_int_small U.1 U.2.1 U.2.2 q
def unI {f:o6->Sem o6}{g:Int->Int}
  (rule:∀(i:Int) (t:Tok) (s:o7) (Q:o6->o7->Prop) (E:o6->o7->Prop),Q (.int (g i) s.toks) {s with toks:=s.toks+1}->Ve #[X,X] X.A (f (.int i t)) Q E s):
  UnR X f (rU λi=> .int (g i)):=by
 rw[2,x,v,Q,I,U,h];erw[h,i,rfl,q];erw[U,t,rfl,<-rule i t s _ _ (.int (g i),H,I.tok _,⟨0⟩,q)]
def MI:UnR X (unaryOp .USub) (rU λi=> .int (-(i))):=unI λ_ _ _ _ _ q=>neg_int q
abbrev AdQ:V->V->Bool
 | .non,.non=>v_| .non,.int _=>v_| .int _,.non=>v_| .non,.bl _=>v_| .bl _,.non=>v_| .non,.str _=>v_| .str _,.non=>v_
 | .int _,.int _=>v_| .bl _,.bl _=>v_| .str _,.str _=>v_| .byt _,.byt _=>v_
 | .int _,.str _=>v_| .str _,.int _=>v_| .bl _,.str _=>v_| .str _,.bl _=>v_
 |_,_=>Vd
abbrev rEq:R2:=λx y H Q=>AdQ x y=v_/\Q (.bl (decide (x=y))) H
abbrev rNe:R2:=λx y H Q=>AdQ x y=v_/\Q (.bl (!(decide) (x=y))) H
def Ir {i j:Int}:decide (V.int i=V.int j)=(i==j):=by
 rw[U2];simp
def Nz {i j:Bool}:decide (V.bl i=V.bl j)=(i==j):=by
 rw[U2];simp
def Iq {i j:Str}:decide (V.str i=V.str j)=(i==j):=by
 rw[U2];simp
def Iu {i j:Array UInt8}:decide (V.byt i=V.byt j)=(i.toList==j.toList):=by
 rw[U2];rw[i,0];rw[j,0];simp
variable {Q:VK}
def Qv {k U:Bool}(I:#[I])(q:Q (.bl k) H)(e:k=U):EP X ot σ Q (.bool U) s:=by
 subst e;exact(.bl k,H,I,1,q)
def Qd:OpR X (Vm .Eq) rEq:=by
 rw[2,x,y,v,u,Q,I,rx,U,h];erw[h,Z,q];cases x with
 |non=>
  rw[rx,0];cases y with
  |non=>rw[U,0];exact PySem.EqNone.eq_none_none (Qv I q (by simp))|bl j=>rw[U,0];exact PySem.EqNone.eq_none_bool (Qv I q (by simp))|int j=>erw[U,t',rfl,<-PySem.EqNone.eq_none_int (Qv I q (by simp))]|str j=>erw[U,t',rfl,<-PySem.EqNone.eq_none_str (Qv I q (by simp))]|_=>exact A8 (show Vd=v_ from Z) uc
 |bl i=>
  rw[rx,0];cases y with
  |non=>rw[U,0];exact PySem.EqNone.eq_bool_none (Qv I q (by simp))|bl j=>rw[U,0];exact eq_bool (Qv I q Nz)|str j=>erw[U,t',rfl,<-PySem.EqMixed.eq_bool_str (Qv I q (by simp))]|_=>exact A8 (show Vd=v_ from Z) uc
 |int i=>
  erw[rx,t,rfl];cases y with
  |non=>rw[U,0];exact PySem.EqNone.eq_int_none (Qv I q (by simp))|int j=>erw[U,t',rfl,<-eq_int (Qv I q Ir)]|str j=>erw[U,t',rfl,<-PySem.EqMixed.eq_int_str (Qv I q (by simp))]|_=>exact A8 (show Vd=v_ from Z) uc
 |str i=>
  erw[rx,t,rfl];cases y with
  |non=>rw[U,0];exact PySem.EqNone.eq_str_none (Qv I q (by simp))|bl j=>rw[U,0];exact PySem.EqMixed.eq_str_bool (Qv I q (by simp))|int j=>erw[U,t',rfl,<-PySem.EqMixed.eq_str_int (Qv I q (by simp))]|str j=>erw[U,t',rfl,<-eq_str (Qv I q Iq)]|_=>exact A8 (show Vd=v_ from Z) uc
 |byt i=>
  erw[rx,t,rfl];cases y with
  |byt j=>erw[U,t',rfl,<-PySem.W.eq_bytes (Qv I q Iu)]|_=>exact A8 (show Vd=v_ from Z) uc
 |_=>cases y<;>exact A8 (show Vd=v_ from Z) uc
def Ao:OpR X (Vm .NotEq) rNe:=by
 rw[2,x,y,v,u,Q,I,rx,U,h];erw[h,Z,q];cases x with
 |non=>
  rw[rx,0];cases y with
  |non=>rw[U,0];exact PySem.EqNone.ne_none_none (Qv I q (by simp))|bl j=>rw[U,0];exact PySem.EqNone.ne_none_bool (Qv I q (by simp))|int j=>erw[U,t',rfl,<-PySem.EqNone.ne_none_int (Qv I q (by simp))]|str j=>erw[U,t',rfl,<-PySem.EqNone.ne_none_str (Qv I q (by simp))]|_=>exact A8 (show Vd=v_ from Z) uc
 |bl i=>
  rw[rx,0];cases y with
  |non=>rw[U,0];exact PySem.EqNone.ne_bool_none (Qv I q (by simp))|bl j=>rw[U,0];exact ne_bool (Qv I q (Aa not Nz))|str j=>erw[U,t',rfl,<-PySem.EqMixed.ne_bool_str (Qv I q (by simp))]|_=>exact A8 (show Vd=v_ from Z) uc
 |int i=>
  erw[rx,t,rfl];cases y with
  |non=>rw[U,0];exact PySem.EqNone.ne_int_none (Qv I q (by simp))|int j=>erw[U,t',rfl,<-ne_int (Qv I q (Aa not Ir))]|str j=>erw[U,t',rfl,<-PySem.EqMixed.ne_int_str (Qv I q (by simp))]|_=>exact A8 (show Vd=v_ from Z) uc
 |str i=>
  erw[rx,t,rfl];cases y with
  |non=>rw[U,0];exact PySem.EqNone.ne_str_none (Qv I q (by simp))|bl j=>rw[U,0];exact PySem.EqMixed.ne_str_bool (Qv I q (by simp))|int j=>erw[U,t',rfl,<-PySem.EqMixed.ne_str_int (Qv I q (by simp))]|str j=>erw[U,t',rfl,<-ne_str (Qv I q (Aa not Iq))]|_=>exact A8 (show Vd=v_ from Z) uc
 |byt i=>
  erw[rx,t,rfl];cases y with
  |byt j=>erw[U,t',rfl,<-PySem.W.ne_bytes (Qv I q (Aa not Iu))]|_=>exact A8 (show Vd=v_ from Z) uc
 |_=>cases y<;>exact A8 (show Vd=v_ from Z) uc
def qaJ:OpR X (Vm .Lt) (rI0 λi j=> .bl (decide (i<j))):=Act λ_ _ _ _ _ _ _ q=>lt_int q
def DU:OpR X (Vm .LtE) (rI0 λi j=> .bl (decide (i<=j))):=Act λ_ _ _ _ _ _ _ q=>le_int q
def Ap:OpR X (Vm .Gt) (rI0 λi j=> .bl (decide (j<i))):=Act λ_ _ _ _ _ _ _ q=>gt_int q
def Ac5:OpR X (Vm .GtE) (rI0 λi j=> .bl (decide (j<=i))):=Act λ_ _ _ _ _ _ _ q=>ge_int q
def DT:OpR X (Vm .Lt) (λx y H Q=>∃i j,x= .str i/\y= .str j/\Q (.bl (decide (i.cps.toList<j.cps.toList))) H):=by
 rw[2,x,y,v,u,Q,I,U,Z,h];erw[h,i,j,rfl,rfl,q];erw[U,t,rfl];erw[Z,t',rfl,<-lt_str (Qv I q rfl)]
def DV:OpR X (Vm .In) (λx y H Q=>∃i j,x= .str i/\y= .str j/\Q (.bl (!(Hf j i 0 ↑j 1).isEmpty)) H):=by
 rw[2,x,y,v,u,Q,I,U,Z,h];erw[h,i,j,rfl,rfl,q];erw[U,t,rfl];erw[Z,t',rfl,<-in_str (Qv I q rfl)]
def yk:OpR X (Vm .Is) (λx y H Q=>y= .non/\Q (.bl (decide (x= .non))) H):=by
 rw[2,x,y,v,u,Q,I,U,Z,h];erw[h,rfl,q];rw[Z,0];refine is_none_gen (Qv I q ?_);cases x<;>first
  |(rw[U,0];rfl)
  |(erw[U,t,rfl];rfl)
def Zq:OpR X (Vm .IsNot) (λx y H Q=>y= .non/\Q (.bl (!(decide) (x= .non))) H):=by
 rw[2,x,y,v,u,Q,I,U,Z,h];erw[h,rfl,q];rw[Z,0];refine isnot_none_gen (Qv I q ?_);cases x<;>first
  |(rw[U,0];rfl)
  |(erw[U,t,rfl];rfl)
def qr (b:Expr){U:GK}(h:U≠ .In:=by decide)(h2:U≠ .NotIn:=by decide):GW U b=false:=by
 let Z:(U==CmpOp.In)=false:=by cases U<;>first|rfl|exact A8 rfl h
 let e2:(U==CmpOp.NotIn)=false:=by cases U<;>first|rfl|exact A8 rfl h2
 cases b<;>simp[GW,Z,e2]
def Qb {U:GK}{r:R2}(Z:OpR X (Vm U) r)(ha:PE X a ta)(hb:PE X b tb)(hm:GW U b=Vd):PE X (.Compare a [U] [b] pos) (tOp r ta tb):=by
 rw[2,Q,I,h];exact Ft (Adt ha hb I h λv u s2 x y H2 I2 rx ry q=>Z ot s2 σ H2 x y v u Q I2 rx ry q) hm
inductive Acc (Q:(Bool->Hp->Prop))(x:V)(H':Hp):Prop
 |mk (k:_)(_:x= .bl k)(_:Q k H')
abbrev Aax (t:TE):TT:=λσ H Q=>t σ H λx H'=>Acc Q x H'
def qm {U:GK}{r:R2}(Z:OpR X (Vm U) r)(ha:PE X a ta)(hb:PE X b tb)(hm:GW U b=Vd):PT X (.Compare a [U] [b] pos) (Aax (tOp r ta tb)):=by
 rw[2,Q,I,h];refine RI (thn (ha ot s σ H _ I h) λv s1 ⟨x,H1,I1,r1,q1⟩=>thn (hb ot s1 σ H1 _ I1 q1) λu s2 ⟨y,H2,I2,r2,q2⟩=>
  thn (Z ot s2 σ H2 x y v u _ I2 r1 r2 q2) λc s3 ⟨z,H3,I3,r3,k,e,q3⟩=>?_) hm
 subst e;rw[r3,0];exact vE [H3:I3:q3]
abbrev AaI (r r':R2)(ta tb tc:TE):TE:=λσ H Q=>ta σ H λx H1=>tb σ H1 λy H2=>r x y H2 λz H3=>∃k,z= .bl k/\
 (if k=v_ then tc σ H3 λw' H4=>r' y w' H4 Q else Q (.bl Vd) H3)
def Bt {Z U:GK}{r r':R2}(ho:OpR X (Vm Z) r)(aa:OpR X (Vm U) r')(ha:PE X a ta)(hb:PE X b tb)(hc:PE X c tc)
  (hm:lastMarks [Z,U] [b,c]=Vd):PT X (.Compare a [Z,U] [b,c] pos) (Aax (AaI r r' ta tb tc)):=by
 rw[2,Q,I,h];refine isTrue_chain (thn (ha ot s σ H _ I h) λv s1 ⟨x,H1,I1,r1,q1⟩=>test_link (thn (hb ot s1 σ H1 _ I1 q1) λu s2 ⟨y,H2,I2,r2,q2⟩=>
  thn (ho ot s2 σ H2 x y v u _ I2 r1 r2 q2) λd s3 ⟨z,H3,I3,r3,k,e,q3⟩=>?_)) hm
 subst e;rw[r3,0];refine vE ?_;cases k with
 |false=>
  erw[q3,k',e',q'];rw[e',0];exact ite_ff [H3:I3:q']
 |true=>
  refine ite_tt (test_last (thn (hc ot s3 σ H3 _ I3 q3) λw' s4 ⟨z',H4,I4,r4,q4⟩=>thn (aa ot s4 σ H4 y z' u w' _ I4 r2 r4 q4) λd' s5 zq=>?_));erw[zq,z2,H5,I5,r5,k2,e2,q5];subst e2;rw[r5,0];exact vE [H5:I5:q5]
abbrev Ad5 (K:o0)(x:V)(H:Hp)(k:Bool):Prop:=
 match x with
 | .non=>k=Vd| .bl b=>k=b| .int i=>k=(i !=0)| .str y=>↑y<=Vg/\k=((↑y:Int) !=0)| .byt y=>y.size<=Vg/\k=((y.size:Int) !=0)| .ref p=>(∃xs,SqL K H p xs/\k= !(xs.isEmpty))\/(∃xs,SqT K H p xs/\k= !(xs.isEmpty))\/∃kvs,H p=u_ (.dK kvs)/\k= !(kvs.isEmpty)|_=>False
def CN {κ:Type}{kvs:oj (κ×V)}{vs:oj (κ×o6)}(r:KV kvs vs):(!(vs.isEmpty))= !(kvs.isEmpty):=by
 cases r<;>rfl
variable {its:oj o6}
def kJ (r:iE xs its):(!(its.toArray.isEmpty))= !(xs.isEmpty):=by
 cases r<;>simp
def wl:(Vg:Nat)<2^63:=by rw[uB];decide
def Aaq:AeJ X (λx H Q=>∃k,Ad5 X.K x H k/\Q k H):=by
 rw[2,x,v,Q,I,rx,h];erw[h,k,e,q];let hl:=wl;let hs:Vg=16777216:=uB;cases x with
 |non=>
  rw[rx,0];let U:k=false:=e;subst U;exact truthy_none [H:I:q]
 |bl b=>
  rw[rx,0];let U:k=b:=e;subst U;exact vE [H:I:q]
 |int i=>
  erw[rx,t,rfl];let U:k=(i !=0):=e;subst U;exact PySem.P.truthy_int [H:I:q]
 |str y=>
  erw[rx,t,rfl];obtain⟨hy,U⟩:↑y<=Vg/\k=((↑y:Int) !=0):=e;subst U;exact PySem.P.truthy_str () [H:I.tok _:q]
 |byt y=>
  erw[rx,t,rfl];obtain⟨hy,U⟩:y.size<=Vg/\k=((y.size:Int) !=0):=e;subst U;exact PySem.W.truthy_bytes () [H:I.tok _:q]
 |ref p=>
  rw[rx,0];let U:(∃xs,SqL X.K H p xs/\k= !(xs.isEmpty))\/(∃xs,SqT X.K H p xs/\k= !(xs.isEmpty))\/∃kvs,H p=u_ (.dK kvs)/\k= !(kvs.isEmpty):=e;rcases U with⟨xs,hx,U⟩|⟨xs,hx,U⟩|⟨kvs,hx,U⟩
  .subst U;erw[I.list hx,its,r,pl,hz];let Z:=↑r;exact wpAny_truthy_list pl.isList (by simp![ur];omega) ⟨H,I.tok _,by rwa[kJ r]⟩
  .subst U;erw[I.tuple hx,its,r,pl,hz];let Z:=↑r;exact truthy_tuple pl (by simp![ur];omega) ⟨H,I.tok _,by rwa[kJ r]⟩
  .subst U;obtain⟨hz,hS,vs,r,m⟩:↑kvs<=Vg/\(p==Vy)=Vd/\∃vs,KV kvs vs/\s.heap.DictOf (Qg X.prog X.w) p vs:=I.hok p _ hx;let Z:↑kvs=↑vs:=Paired.length r;exact wpAny_truthy_dict hS m () ⟨H,I.tok _,by rwa[CN r]⟩
 |_=>exact(show False from e).elim
def Br (ha:PE X a ta)(Z:∀U,isTrue a X.env U=(do let v<-U;GG a.pos;VW [v] (truthy v))):
  PT X a (λσ H Q=>ta σ H λx H'=>∃k,Ad5 X.K x H' k/\Q k H'):=by
 rw[2,Q,I,h];exact RW (thn (ha ot s σ H _ I h) λv s1 ⟨x,H1,I1,r1,q1⟩=>Aaq ot s1 σ H1 x v Q I1 r1 q1) (Z _)
def QA:OpR X (VN .Add) (λx y H Q=>∃i j,x= .str i/\y= .str j/\↑i+↑j<=Vg/\Q (.str (i++j)) H):=by
 rw[2,x,y,v,u,Q,I,U,Z,h];erw[h,i,j,rfl,rfl,hz,q];erw[U,t,rfl];erw[Z,t',rfl,<-vf (n:=1) I.tk (add_str (λt' tk htk=>(.str (i++j),H,I.tok _,⟨0⟩,q)) hz)]
def xn {x:V}(r:iE [x] us):∃u,us= [u]/\il x u:=by
 cases r with
 |cons U Z=>rw[Z,0];exact[0:U]
def sU {x:V}(r:iE [x,y] us):∃u U,us= [u,U]/\il x u/\il y U:=by
 cases r with
 |cons Z r2=>
  cases r2 with
  |cons r3 r4=>rw[r4,0];exact(_,0,Z,r3)
def Ce:jg X (.builtin "abs") (λxs H Q=>∃i,xs= [.int i]/\Q (.int (if i<0 then-(i) else i)) H):=by
 rw[2,xs,us,Q,I,r,h];erw[h,i,rfl,q];erw[xn r,u,rfl,t,rfl,<-vf (n:=1) I.tk (call_abs_int λu tk htk=>(.int (if i<0 then-(i) else i),H,I.tok _,⟨0⟩,q))]
def sJ (Z:X.calm=v_):jg X (.builtin "min") (λxs H Q=>∃i j,xs= [.int i,.int j]/\Q (.int (if j<i then j else i)) H):=by
 rw[2,xs,us,Q,I,r,h];erw[h,i,j,rfl,q];erw[sU r,u,w',rfl,[t,rfl],[t',rfl]];refine vf (n:=1) I.tk (min_two_ints (I.ok.hd Z) λh' tk k htk=>(_,H,I.kept k,?_,q));by_cases U:j<i
 .rw[A6 U,A6 U];exact⟨0⟩
 .rw[A4 U,A4 U];exact⟨0⟩
def J9:jg X (.type "str") (λxs H Q=>∃i,xs= [.int i]/\i.natAbs.log2<1920/\Q (.str (Vo i)) H):=by
 rw[2,xs,us,Q,I,r,h];erw[h,i,rfl,hz,q];erw[xn r,u,rfl,t,rfl,<-PySem.P.str_of_int hz (.str _,H,I.tok _,⟨0⟩,q)]
def My:jg X (.builtin "ord") (λxs H Q=>∃x,xs= [!x]/\↑x=1/\Q (.int (x.cps.getD 0 0:Nat)) H):=by
 rw[2,xs,us,Q,I,r,h];erw[h,x,rfl,hz,q];erw[xn r,u,rfl,t,rfl,<-ord_of_one hz (.int _,H,I.tok _,⟨0⟩,q)]
abbrev AeL (K:o0)(x:V)(H:Hp)(n:Nat):Prop:=
 match x with
 | .str y=>↑y<=Vg/\n=↑y| .byt y=>y.size<=Vg/\n=y.size| .ref p=>(∃xs,SqL K H p xs/\n=↑xs)\/∃xs,SqT K H p xs/\n=↑xs|_=>False
def qaf:jg X (.builtin "len") (λxs H Q=>∃x n,xs= [x]/\AeL X.K x H n/\Q (.int n) H):=by
 rw[2,xs,us,Q,I,r,h];erw[h,x,n,rfl,e,q];erw[xn r,u,rfl,rx];let hl:=wl;let hs:Vg=16777216:=uB;cases x with
 |str y=>
  erw[rx,t,rfl];obtain⟨hy,Z⟩:↑y<=Vg/\n=↑y:=e;subst Z;exact len_str () (.int _,H,I.tok _,⟨0⟩,q)
 |byt y=>
  erw[rx,t,rfl];obtain⟨hy,Z⟩:y.size<=Vg/\n=y.size:=e;subst Z;exact PySem.W.len_bytes () (.int _,H,I.tok _,⟨0⟩,q)
 |ref p=>
  rw[rx,0];let Z:(∃xs,SqL X.K H p xs/\n=↑xs)\/∃xs,SqT X.K H p xs/\n=↑xs:=e;rcases Z with⟨xs,hx,Z⟩|⟨xs,hx,Z⟩
  .subst Z;erw[I.list hx,its,r',pl,hz];let U:=↑r';exact FE pl.isList (by simp![ur];omega) (.int ↑xs,H,I.tok _,⟨_,by simp![ur];rw[U]⟩,q)
  .subst Z;erw[I.tuple hx,its,r',pl,hz];let U:=↑r';exact len_tuple pl (by simp![ur];omega) (.int ↑xs,H,I.tok _,⟨_,by simp![ur];rw[U]⟩,q)
 |_=>exact(show False from e).elim
end
structure S5 (h:o8)(x dx C:o3)(mA:Str->om o6):Prop where
 obj:h.get? x=u_ (PySem.W.instObj C dx)
 ns:h.Ns1 dx mA
 ne:dx≠x
variable {dx:o3}
set_option tactic.hygienic true in
def Ey {mA:Str->om o6}(n:h.Ns1 dx mA):∃od,h.get? dx=u_ od/\∀name,PySem.W.lookIn name od=u_ (mA name):=by
 erw[n,o,es,ep,Z,hd,hk,_,hm];rw[_,o,Z,λname=>?_];let e:=hm name;unfold nsFind findBy at e;rw[<-Array.find?_toList] at e;unfold PySem.W.lookIn;rw[hd];dsimp only;split
 .rename_i y q
  rw[q] at e;exact Aa u_ e
 .rename_i q
  rw[q] at e;let a:es.toList.any (·.refKey)=false:=by
   rw[Te];intro y hy;erw[hk y (Array.mem_toList_iff.mp hy),z,t,U];simp[Ru,U]
  let a':¬es.toList.any (·.refKey)=true:=by rw[a];exact uc
  rw[A4 a'];exact Aa u_ e
variable {C:o3}
def S5.look {x:o3}{mA:Str->om o6}(I:S5 h x dx C mA):∃od,PySem.W.InstAt h x (PySem.W.instObj C dx) C (u_ od)/\∀name,PySem.W.lookIn name od=u_ (mA name):=
 let⟨od,ho,hl⟩:=Ey I.ns
 [od:(I.obj,1,1,ho):hl]
section
variable {prog:o9}{w:og}{A:oh}{E:o6->o7->Prop}{s:o7}{K:o0}{x dx C f:o3}{mA:Str->om o6}{name:Str}{v:o6}
def SD {U:Bool}{Q:o6->o7->Prop}(X:K.In s.heap)(I:S5 s.heap x dx C mA)(hg:PySem.W.plainGet K C name=v_)(hh:PySem.W.hasDictIn K C=v_)
  (ha:PySem.W.findIn K (-C) name=u_ U_) (hv:mA name=u_ v) (Z:PySem.W.handedIn v=v_) (h:Q v {s with toks:=s.toks+1}):
  Ve #[w,w] A (tF (-x) name U) Q E s:=by
 erw[I.look,od,J,hl,<-PySem.W.get_value X J (PySem.W.plainGet_of hg).1 (PySem.W.findObj_own hh ha rfl (by rw[hl,hv])) Z h]
def Mo {pl:Sem Bool}{Q:o6×oj o6->o7->Prop}(X:K.In s.heap)(I:S5 s.heap x dx C mA)(U:PySem.W.plainGet K C name=v_)
  (Z:PySem.W.findIn K (-C) name=u_ (u_ (-f))) (ht:PySem.W.isFn K (-f)=v_) (hv:mA name=U_) (h:Q (-f,[-x]) s):
  Ve #[w,w] A (GV (-x) name pl) Q E s:=by
 erw[I.look,od,J,hl,<-PySem.W.method_fn X J (PySem.W.plainGet_of U).1 (PySem.W.plainGet_of U).2 Z (beq_iff_eq.mp ht) (by show(PySem.W.lookIn name od).map (·.isSome)=u_ Vd;rw[hl,hv];rfl) h]
def OF {ns:oj Str}{Q:Unit->o7->Prop}(X:K.In s.heap)(I:S5 s.heap x dx C mA)
  (hs:PySem.W.findIn K (-C) "__setattr__"=u_ (u_ (.builtin "object.__setattr__"))) (hp:PySem.W.plainOver K C=v_) (ht:PySem.W.takerIn K C name=u_ U_) (hh:PySem.W.hasDictIn K C=v_)
  (hw:PySem.Within mA ns) (hsz:↑ns<=Vg)
  (h:∀h',S5 h' x dx C (λy=>if y=name then u_ v else mA y)->VT dx s.heap h'->Q GB {s with heap:=h',toks:=s.toks+2}):
  Ve #[w,w] A (setAttr (-x) name v) Q E s:=by
 erw[I.look,od,J,hl];refine PySem.W.set_plain X J hs (PySem.W.osa_open (s:={s with toks:=s.toks+1}) (r:=U_) X J hp ht λb=>?_)
 erw[PySem.W.any_some hh,cd,hc,aa];let hx:s.heap.get? x=u_ (-C,u_ dx,.plain,#[]):=I.obj;refine A7 (uC (A7 (A7 (wpAny_loadPart hx (A7 (PySem.W.Looks.here (s:={s with toks:=s.toks+1}) (PySem.W.looks_clsIn X hc) ?_))))))
 rw[aa];refine uC (a:=u_ dx) (A7 (uC (A7 ?_)));refine wpAny_nsSet1 (s:={s with toks:=s.toks+1}) I.ns λh' U Z=>?_
 erw[U.count (PySem.Within.cons name v hw),oD,af,ag,ac,ad,ae];refine A7 (wpAny_lookBehind ac (by rw[ad];exact pastItsLine_dict (uY ae (by rw[um];omega))) ?_)
 exact uC (h _ [(Z.2 _ (U1 I.ne)).trans I.obj:U:I.ne] Z)
def Ma {R:GL->o7->Prop}{vs:oj o6}{kw:oj (Str×o6)}(X:K.In s.heap)(hm:PySem.W.makesIn K C=v_)
  (hi:PySem.W.findIn K (-C) "__init__"=u_ (u_ (-f))) (U:PySem.W.typeIn K (-f)=u_ (.type "function"))
  (h:VL #[w,w] (A.under (.builtin "type.__call__" [.ref C::vs:kw])) (.call (-f) [.ref (#[0,s]+1)::vs:kw]) (PySem.W.InitBack (#[0,s]+1) R)
   {s with heap:=(s.heap.push PySem.W.emptyDict).push (PySem.W.instObj C #[0,s])}):
  VL #[w,w] A (.call (-C) [vs:kw]) R s:=by
 erw[s,Z,g,d,t,os,<-PySem.W.make_core (PySem.W.makes_of X hm) (PySem.W.looks_findIn X hi) (λself=>PySem.W.bind_fn X self U) (.inl rfl) h]
end
abbrev iN (f:Str)(v:V):oj (Str×V)->oj (Str×V)
 | []=> [(f,v)]|(g,x)::r=>if g=f then(g,v)::r else(g,x)::iN f v r
def qN (f g:Str)(v:V):∀fs:oj (Str×V),(iN f v fs).lookup g=if g=f then u_ v else fs.lookup g
 | []=>by
  show Vz g [(f,v)]=_;by_cases h:g=f
  .let U:(g==f)=true:=beq_iff_eq.mpr h;simp![Vz,U,A6 h]
  .let U:(g==f)=false:=beq_eq_false_iff_ne.mpr h;simp![Vz,U,A4 h]
 |(k,x)::r=>by
  let ih:=qN f g v r;rw[show iN f v ((k,x)::r)=(if k=f then(k,v)::r else(k,x)::iN f v r) from rfl]
  by_cases Z:k=f
  .rw[A6 Z];by_cases h:g=k
   .let U:(g==k)=true:=beq_iff_eq.mpr h;simp![Vz,U,A6 (h.trans Z)]
   .let U:(g==k)=false:=beq_eq_false_iff_ne.mpr h;simp![Vz,U,A4 (λe:g=f=>h (e.trans Z.symm))]
  .rw[A4 Z];by_cases h:g=k
   .let U:(g==k)=true:=beq_iff_eq.mpr h;simp![Vz,U,A4 (λe:g=f=>Z (h.symm.trans e))]
   .let U:(g==k)=false:=beq_eq_false_iff_ne.mpr h;simp![Vz,U];exact ih
def WM (f:Str)(v:V):∀fs:oj (Str×V),f>(iN f v fs).map (·.1)/\∀g,g>fs.map (·.1)->g>(iN f v fs).map (·.1)
 | []=>⟨by simp[iN],λg h=>by simp at h⟩|(k,x)::r=>by
  erw[WM f v r,Z,i2];rw[show iN f v ((k,x)::r)=(if k=f then(k,v)::r else(k,x)::iN f v r) from rfl]
  by_cases U:k=f
  .rw[A6 U];subst U;exact⟨by simp,λg h=>by simpa using h⟩
  .rw[A4 U];rw[_,?_,λg h=>?_]
   .rw[uA];exact uf _ Z
   .rw[uA] at h⊢;rcases Ab.mp h with e|e
    .exact Ab.mpr (.inl e)
    .exact uf _ (i2 g e)
def Wy (f:Str)(v:V):∀fs:oj (Str×V),↑(iN f v fs)<=↑fs+1
 | []=>by simp[iN]|(k,x)::r=>by
  let Z:=Wy f v r;rw[show iN f v ((k,x)::r)=(if k=f then(k,v)::r else(k,x)::iN f v r) from rfl]
  by_cases U:k=f
  .rw[A6 U,um,um];omega
  .rw[A4 U,um,um];omega
variable {v:V}
def nC.some_of {o:om o6}(r:nC (u_ v) o):∃u,o=u_ u/\il v u:=by
 cases o with
 |none=>exact(show False from r).elim|some u=>exact[u:1:r]
def nC.KR {o:om o6}(r:nC U_ o):o=none:=by
 cases o with
 |none=>rfl|some u=>exact(show False from r).elim
def EW (r:il v u):PySem.W.handedIn u=true:=by
 cases v with
 |non=>rw[show u=VZ from r,0];rfl|bl b=>rw[show u=VC b from r,0];rfl|int i=>obtain⟨t,e⟩:=(show∃t,u=Gu i t from r);rw[e,0];rfl|str x=>obtain⟨t,e⟩:=(show∃t,u=VF x t from r);rw[e,0];rfl|byt b=>obtain⟨t,e⟩:=(show∃t,u=Fg b t from r);rw[e,0];rfl|flt b=>obtain⟨t,e⟩:=(show∃t,u=tQ b t from r);rw[e,0];rfl|ref a=>rw[show u=Vj a from r,0];rfl|ty n=>rw[show u=GC n from r,0];rfl
section
variable {P:o9}{w:og}{H H':Hp}{h h':o8}{a C dx:o3}{fs fs':oj (Str×V)}
def qag (hok:HOk P w H h)(e:H a=u_ (.ins C dx fs)):∃mA,S5 h a dx C mA/\(∀f,nC (fs.lookup f) (mA f))/\PySem.Within mA (fs.map (·.1))/\↑fs<=1000/\H dx=u_ (.own a):=by
 obtain⟨d,z,ne,ob,mA,n,r,q⟩:=(show yp P w H h a (.ins C dx fs) from hok a _ e)
 exact(mA,[ob:n:ne],r,q,z,d)
end
structure Cls (K:o0)(C:o3):Prop where
 pg:PySem.W.plainGet K C tY=v_
 hd:PySem.W.hasDictIn K C=v_
 po:PySem.W.plainOver K C=v_
 sa:PySem.W.findIn K (-C) "__setattr__"=u_ (u_ (.builtin "object.__setattr__"))
def Cls.get (c:Cls K C)(f:Str):PySem.W.plainGet K C f=true:=c.pg
abbrev QX (K:o0)(C:o3)(f:Str):Prop:=PySem.W.findIn K (-C) f=u_ U_
def QX.taker {f:Str}(n:QX K C f):PySem.W.takerIn K C f=u_ none:=by
 unfold PySem.W.takerIn;rw[show PySem.W.findIn K (-C) f=u_ U_ from n]
 rfl
structure Aaj (K:o0)(C:o3)(m:Str)(f:o3):Prop where
 at_:PySem.W.findIn K (-C) m=u_ (u_ (-f))
 fn:PySem.W.isFn K (-f)=v_
 kp:PySem.W.keepIn K (-f)=v_
section
variable {X:Cx}{ot:oj (o3×Obj)}{σ:St}{H:Hp}{s:o7}{a C dx:o3}{fs:oj (Str×V)}{f:Str}{v:V}{A:oh}{E:o6->o7->Prop}
def kU {b:Bool}{Q:o6->o7->Prop}(I:#[I])(e:H a=u_ (.ins C dx fs))(c:Cls X.K C)(n:QX X.K C f)(l:fs.lookup f=u_ v)
  (h:∀u s',Inv X ot σ H s'->il v u->Q u s'):Ve #[X,X] A (tF (-a) f b) Q E s:=by
 erw[qag I.hok e,mA,O,r,_,_,_];obtain⟨u,U,ru⟩:=nC.some_of (v:=v) (o:=mA f) (by rw[<-l];exact r f)
 exact SD I.kIn O (c.get f) c.hd n U (EW ru) (h u _ (I.tok _) ru)
def ZI {m:Str}{g:o3}{pl:Sem Bool}{Q:o6×oj o6->o7->Prop}(I:#[I])(e:H a=u_ (.ins C dx fs))(c:Cls X.K C)(k:Aaj X.K C m g)(l:fs.lookup m=U_)
  (h:Q (-g,[-a]) s):Ve #[X,X] A (GV (-a) m pl) Q E s:=by
 erw[qag I.hok e,mA,O,r,_,_,_];let hn:mA m=none:=nC.KR (by rw[<-l];exact r m)
 exact Mo I.kIn O (c.get m) k.at_ k.fn hn h
def kE {y:V}{u:o6}{Q:Unit->o7->Prop}(I:#[I])(e:H a=u_ (.ins C dx fs))(c:Cls X.K C)(n:QX X.K C f)(hl:↑fs<1000)(ry:il y u)
  (h:∀s',Inv X ot σ (upd H a (.ins C dx (iN f y fs))) s'->Q GB s'):Ve #[X,X] A (setAttr (-a) f u) Q E s:=by
 erw[qag I.hok e,mA,O,r,wi,_,Z];let hz:(fs.map (·.1)).length<=sizeLine:=by rw[u7,uB];omega
 refine OF I.kIn O c.sa c.po n.taker c.hd wi hz λh' U sb=>h _ ?_;let hd:∃o,h'.get? dx=u_ o:=let⟨o,_,_,e',_⟩:=U.ns;[o:e'];refine I.write (x:=a) (e:=dx) (by rw[e];exact VH) (.inr Z) (λb q hb z=>(sb.2 b hb).trans z) hd ?_
 refine(by rwa[qk O.ne],?_,O.ne,U.obj,_,U.ns,λg=>?_,λg hg=>?_)
 .have:=Wy f y fs;omega
 .show nC ((iN f y fs).lookup g) (if g=f then u_ u else mA g)
  rw[qN];by_cases q:g=f
  .rwa[A6 q,A6 q]
  .rw[A4 q,A4 q];exact r g
 .by_cases q:g=f
  .rw[q];exact(WM f y fs).1
  .refine(WM f y fs).2 g (wi g λz=>hg ?_);show(if g=f then u_ u else mA g)=U_
   rw[A4 q];exact z
def Inv.made (I:#[I]):Inv X ot σ (upd (upd H #[0,s] (.own (#[0,s]+1))) (#[0,s]+1) (.ins C #[0,s] []))
  {s with heap:=(s.heap.push PySem.W.emptyDict).push (PySem.W.instObj C #[0,s])}:=by
 let U:(s.heap.push PySem.W.emptyDict).get? #[0,s]=u_ PySem.W.emptyDict:=uD s.heap rfl;let e2:((s.heap.push PySem.W.emptyDict).push (PySem.W.instObj C #[0,s])).get? (#[0,s]+1)=u_ (PySem.W.instObj C #[0,s]):=by
  have:=uD (s.heap.push PySem.W.emptyDict) (o:=PySem.W.instObj C #[0,s]) rfl
  rwa[vn] at this
 let e3:(s.heap.push PySem.W.emptyDict).Ns #[0,s] (λ_=>U_):=(PySem.W.emptyDict,#[],_,U,1,(λe Z=>A8 Z (by simp)),λ_=>rfl)
 let I1:=I.laid (a:=#[0,s]) (o:= .own (#[0,s]+1)) (h':=s.heap.push PySem.W.emptyDict) (t':=s.toks) (λb u q=>u9 _ q) (uh _) [_:U];refine I1.laid (a:=#[0,s]+1) (o:= .ins C #[0,s] []) (t':=s.toks) (λb u q=>u9 _ q) (Hu (vn _ _)) ?_;let ne:#[0,s]≠#[0,s]+1:=uU (V9 _);refine(by rw[qk ne,qg],uK _,ne,e2,λ_=>U_,(pM e3).at λo q=>u9 _ q,λ_=>VH,λy hy=>A8 rfl hy)
def ST {prog:o9}{w:og}{env:Env}{e:Expr}{f:Str}{pos:Pos}{s:o7}{Q:o6->o7->Prop}(U:Gh e f env (eval e env)=eval e env)
  (h:Ve #[w,w] A (eval e env) (λo Z=>Ve #[w,w] A (tF o f v_) Q E Z) E s):Ve #[w,w] A (eval (.Attribute e f pos) env) Q E s:=
 Attribute_any_ h (by rw[arm_eval_Attribute,U])
end
inductive AdB (K:PySem.W.Frag)(f:Str)(Q:VK)(x:V)(H1:Hp):Prop
 |mk (a:_)(C:_)(dx:_)(fs:_)(v:_)(_:x=-a)(_:H1 a=u_ (.ins C dx fs))(_:Cls K C)(_:QX K C f)(_:fs.lookup f=u_ v)(_:Q v H1)
abbrev AcK (K:o0)(ta:TE)(f:Str):TE:=λσ H Q=>ta σ H λx H1=>AdB K f Q x H1
inductive AdD (K:PySem.W.Frag)(f:Str)(D:nh)(σ:St)(y:V)(x:V)(H2:Hp):Prop
 |mk (a:_)(C:_)(dx:_)(fs:_)(_:x=-a)(_:H2 a=u_ (.ins C dx fs))(_:Cls K C)(_:QX K C f)(_:↑fs<1000)(_:D.nx σ (upd H2 a (.ins C dx (iN f y fs))))
abbrev Aen (K:o0)(ta tv:TE)(f:Str):TS:=λD σ H=>tv σ H λy H1=>ta σ H1 λx H2=>AdD K f D σ y x H2
abbrev Ad9 (X:Cx)(op:Hq)(rd:V->V->Hp->VK->Prop):Prop:=
 ∀(ot:oj (o3×Obj)) (s:o7) (σ:St) (H:Hp) (x y:V) (u v:o6) (Q:VK),#[I]->il x u->il y v->rd x y H Q->Ve #[X,X] X.A (tN op u v) (EP X ot σ Q) X.xe s
inductive ME (K:PySem.W.Frag)(tv:TE)(rd:V->V->Hp->VK->Prop)(f:Str)(D:nh)(σ:St)(x:V)(H1:Hp):Prop
 |mk (a:_)(C:_)(dx:_)(fs:_)(v:_)(_:x=-a)(_:H1 a=u_ (.ins C dx fs))(_:Cls K C)(_:QX K C f)(_:fs.lookup f=u_ v)(_:tv σ H1 λy H2=>rd v y H2 λz H3=>∃dx' fs',H3 a=u_ (.ins C dx' fs')/\↑fs'<1000/\D.nx σ (upd H3 a (.ins C dx' (iN f z fs'))))
abbrev OJ (K:o0)(ta tv:TE)(rd:V->V->Hp->VK->Prop)(f:Str):TS:=λD σ H=>ta σ H λx H1=>ME K tv rd f D σ x H1
section
variable {X:Cx}{o e value:Expr}{f:Str}{pos pos' tpos:Pos}{ta tv:TE}
def qQ (U:PE X e ta)(Z:Gh e f X.env (eval e X.env)=eval e X.env):PE X (.Attribute e f pos) (AcK X.K ta f):=by
 rw[2,Q,I,h];refine ST Z (thn (U ot s σ H _ I h) λu s1 zq=>?_);erw[zq,x,H1,I1,rx,a,C,dx,fs,v,ex,ea,c,n,l,q];subst ex;obtain rfl:u=Vj a:=rx;exact kU I1 ea c n l λu' s2 I2 ru=>(v,H1,I2,ru,q)
def Qn (ha:PE X o ta)(U:PE X value tv)(Z:h_ value (u_ (.Attribute o f pos')) pos.line X.env=pure Vd):PS X (.Assign [.Attribute o f pos'] value pos) (Aen X.K ta tv f):=by
 rw[2,D,I,h];refine plainObj_wpAny_Assign_Attribute (thn (U ot s σ H _ I h) λu s1 ⟨y,H1,I1,ry,q⟩=>thn (ha ot s1 σ H1 _ I1 q) λov s2 zq=>?_) Z;erw[zq,x,H2,I2,rx,a,C,dx,fs,ex,ea,c,n,l,q2];subst ex;obtain rfl:ov=Vj a:=rx;exact kE I2 ea c n l ry λs3 I3=>(σ,_,I3,q2)
def JX {op:Hq}{rd:V->V->Hp->VK->Prop}(ha:PE X o ta)(hv:PE X value tv)(U:Ad9 X op rd):PS X (.AugAssign (.Attribute o f tpos) op value pos) (OJ X.K ta tv rd f):=by
 rw[2,D,I,h];refine wpAny_AugAssign_AttributeAny (thn (ha ot s σ H _ I h) λov s1 zq=>?_);erw[zq,x,H1,I1,rx,a,C,dx,fs,v,ex,ea,c,n,l,q];subst ex;obtain rfl:ov=Vj a:=rx;refine kU I1 ea c n l λu s2 I2 ru=>thn (hv ot s2 σ H1 _ I2 q) λw3 s3 ⟨y,H2,I3,ry,q3⟩=>thn (U ot s3 σ H2 v y u w3 _ I3 ru ry q3) λw4 s4 zq=>?_;erw[zq,z,H3,I4,rz,dx',fs',Z,l',q4,<-kE I4 Z c n l' rz λs5 I5=>(σ,_,I5,q4)]
inductive Aez (x:V)(y:V)(H:Hp)(Q:VK):Prop
 |mk (i:_)(j:_)(_:x= .int i)(_:y= .int j)(_:Q (.int (i+j)) H)
def oX:Ad9 X .Add Aez:=by
 rintro ot s σ H x y u v Q I U Z ⟨i,j,rfl,rfl,q⟩;obtain⟨t,rfl⟩:=(show∃t,u=Gu i t from U)
 obtain⟨t',rfl⟩:=(show∃t',v=Gu j t' from Z)
 exact pJ (.int (i+j),H,I.tok _,⟨0⟩,q)
end
section
variable {X:Cx}{ot:oj (o3×Obj)}{σ:St}{H:Hp}{s:o7}{A:oh}{E:o6->o7->Prop}{Q:o6->o7->Prop}{c:o6}{b:Bool}
inductive Cg (K:PySem.W.Frag)(H:Hp):V->Value->Prop where
 |non:Cg K H .non (.type "NoneType")
 |bl (x:Bool):Cg K H (.bl x) (.type "bool")
 |int (i:Int):Cg K H (.int i) (.type "int")
 |str (x:Str):Cg K H (!x) (.type "str")
 |flt (x:UInt64):Cg K H (.flt x) (.type "float")
 |lst {a:Addr}{xs:List V}(e:H a=u_ (.lst xs)):Cg K H (-a) (.type "list")
 |frz {a:Addr}{o:Obj}{xs:List V}(e:H a=u_ (.frz o (.lst xs))):Cg K H (-a) (.type "list")
 |tup {a:Addr}{xs:List V}(e:H a=u_ (¬xs)):Cg K H (-a) (.type "tuple")
 |dK {a:Addr}{kvs:List (Key×V)}(e:H a=u_ (.dK kvs)):Cg K H (-a) (.type "dict")
 |dT {a:Addr}{kvs:List (List Key×V)}(e:H a=u_ (.dT kvs)):Cg K H (-a) (.type "dict")
 |ins {a C dx:Addr}{fs:List (Str×V)}(e:H a=u_ (.ins C dx fs))(cl:Cls K C)(ha:PySem.W.findIn K (-C) "__class__"=u_ (u_ (.builtin "object.__class__")))
   (hn:PySem.W.specialIn K (.builtin "object.__class__") "__get__"=u_ (u_ (.builtin "getset_descriptor.__get__"))) (htk:PySem.W.takesIn K (.builtin "object.__class__")=u_ v_)
   (hm:PySem.W.mroIn K C (.type "object")=u_ v_):Cg K H (-a) (-C)
def EN {x:V}{t:o6}(I:#[I])(U:il x u)(ty:Cg X.K H x t)(e:PySem.W.kitOne X.K t c=u_ b)(h:∀tk,Q (.bool b) {s with toks:=tk}):
  Ve #[X,X] A (call (.builtin "isinstance") [u,c]) Q E s:=by
 cases ty with
 |non=>rw[show u=VZ from U,0];exact vG PySem.W.kitx_none I.kIn VH e (λz=>nomatch z) h|bl y=>rw[show u=VC y from U,0];exact vG PySem.W.kitx_bool I.kIn VH e (λz=>nomatch z) h|int i=>obtain⟨t,q⟩:=(show∃t,u=Gu i t from U);rw[q,0];exact vG PySem.W.kitx_int I.kIn VH e (λz=>nomatch z) h|str y=>obtain⟨t,q⟩:=(show∃t,u=VF y t from U);rw[q,0];exact vG PySem.W.kitx_str I.kIn VH e (λz=>nomatch z) h|flt y=>obtain⟨t,q⟩:=(show∃t,u=tQ y t from U);rw[q,0];exact vG PySem.W.kitx_float I.kIn VH e (λz=>nomatch z) h| @lst a xs ea=>
  rw[show u=Vj a from U,0]
  obtain⟨_,_,n,_,h1⟩:=(show yp X.prog X.w H s.heap a (.lst xs) from I.hok a _ ea)
  exact vG PySem.W.kitx_list I.kIn [_:h1:1] e (λz=>nomatch z) h
 | @frz a ob xs ea=>
  rw[show u=Vj a from U,0]
  obtain⟨_,_,_,n,_,h1⟩:=(show yp X.prog X.w H s.heap a (.frz ob (.lst xs)) from I.hok a _ ea)
  exact vG PySem.W.kitx_list I.kIn [_:h1:1] e (λz=>nomatch z) h
 | @tup a xs ea=>
  rw[show u=Vj a from U,0]
  obtain⟨_,_,_,p⟩:=(show yp X.prog X.w H s.heap a (¬xs) from I.hok a _ ea)
  erw[p,o,h1,h2,_,<-vG PySem.W.kitx_tuple I.kIn [o:h1:h2] e (λz=>nomatch z) h]
 | @dK a kvs ea=>
  rw[show u=Vj a from U,0]
  obtain⟨_,_,vs,_,p⟩:=(show yp X.prog X.w H s.heap a (.dK kvs) from I.hok a _ ea)
  erw[p,o,es,ep,h1,h2,_,<-vG PySem.W.kitx_dict I.kIn [o:h1:h2.1] e (λz=>nomatch z) h]
 | @dT a kvs ea=>
  rw[show u=Vj a from U,0]
  obtain⟨_,_,xs,_,o,es,ep,h1,h2,_⟩:=(show yp X.prog X.w H s.heap a (.dT kvs) from I.hok a _ ea)
  exact vG PySem.W.kitx_dict I.kIn [o:h1:h2.1] e (λz=>nomatch z) h
 | @ins a C dx fs ea cl ha hn htk hm=>
  rw[show u=Vj a from U,0]
  erw[qag I.hok ea,mA,O,_];erw[O.look,od,J,_,<-vG (PySem.W.kitx_own (cl.get _) cl.hd ha hn htk hm) I.kIn J e (λz=>nomatch z) h]
end
structure mC (k:Nat)(A:oh):Prop where
 hd:A.handled=U_
 dp:A.depth+3*k+5<recursionLimit
 un:A.units+16*k+200<Vn
variable {j:Nat}
def mC.mono {k:Nat}(r:mC k A)(h:j<=k):mC j A:=⟨r.hd,by have:=r.dp;omega,by have:=r.un;omega⟩
def mC.deeper {k:Nat}(r:mC (k+1) A)(env:Env):mC k (A.deeper env):=
 ⟨r.hd,by have:=r.dp;show A.depth+1+3*k+5<_;omega,by have:=r.un;show A.units+3+16*k+200<_;omega⟩
def CI {kw:oj (Str×o6)}:(A.under (.builtin "type.__call__" [.ref C::us:kw])).depth=A.depth+1:=by
 first|rfl|simp[Tt,Code.weight,Code.isCreation,Code.isGuard,Code.isCaller,Rt,T_,guardIds]
def CH {kw:oj (Str×o6)}:(A.under (.builtin "type.__call__" [.ref C::us:kw])).units=A.units+1:=by
 first|rfl|simp[Tt,Code.cUnits,Rt,T_]
def mC.make {k:Nat}(r:mC (k+1) A)(C:o3)(us:oj o6)(kw:oj (Str×o6)):mC k (A.under (.builtin "type.__call__" [.ref C::us:kw])):=
 ⟨r.hd,by have:=r.dp;rw[CI];omega,by have:=r.un;rw[CH];omega⟩
def mC.depth {k:Nat}(r:mC k A):A.depth<recursionLimit:=by have:=r.dp;omega
def mC.units {k:Nat}(r:mC k A):A.units+64<cLine:=by have:=r.un;omega
def mC.units0 {k:Nat}(r:mC k A):A.units<cLine:=by have:=r.un;omega
abbrev Aaz:TA:=λ_ H Q=>Q [] H
abbrev IU (ta:TE)(tr:TA):TA:=λσ H Q=>ta σ H λx H1=>tr σ H1 λxs H2=>Q (x::xs) H2
section
variable {X:Cx}{e:Expr}{es:oj Expr}{te:TE}{t:TA}{pos:Pos}
def qd:PA X [] Aaz:=λ_ _ _ _ H Q I h=>UG ([],H,I,.nil,h)
def qb (ha:PE X e te)(U:PA X es t)(Z:Vi (e::es) X.env=(Vd,eval e X.env)::Vi es X.env:=by rfl):PA X (e::es) (IU te t):=by
 intro pos ot s σ H Q I h;rw[Z];show Ve _ _ (Td ((Vd,eval e X.env)::Vp pos (Vi es X.env))) _ _ s;refine U7 (thn (ha ot s σ H _ I h) λu s1 zq=>?_);erw[zq,x,H1,I1,r1,q1,<-thn (U pos ot s1 σ H1 _ I1 q1) λus s2 ⟨xs,H2,I2,r2,q2⟩=>(x::xs,H2,I2,.cons r1 r2,q2)]
abbrev Aec (t:TA):TE:=λσ H Q=>t σ H λxs H1=>↑xs<=Vg/\∀p,H1 p=U_->Q (-p) (upd H1 p (¬xs))
abbrev Aeh (t:TA):TE:=λσ H Q=>t σ H λxs H1=>↑xs<=Vg/\∀p,H1 p=U_->Q (-p) (upd H1 p (.lst xs))
def qA {x1}(h:PA X es t):PE X (.Tuple es x1 pos) (Aec t):=by
 rw[2,Q,I,Z];refine wpAny_Tuple_spliced (thn (h pos ot s σ H _ I Z) λus s1 ⟨xs,H1,U,r,z,q⟩=>⟨by rwa[<-↑r],?_⟩)
 let hf:H1 #[0,s1]=none:=U.hok.fresh (uh _);rw[_,.ref #[0,s1],upd H1 #[0,s1] (¬xs),U.laid (t':=s1.toks) (λb u e=>u9 _ e) (uh _) ?_,1,q _ hf];exact(z,us,r,(_,uD _ rfl,1,0))
def QE (h:PA X es t):PE X (.List es pos) (Aeh t):=by
 rw[2,Q,I,Z];refine wpAny_List_spliced (thn (h pos ot s σ H _ I Z) λus s1 ⟨xs,H1,U,r,z,q⟩=>⟨by rwa[<-↑r],?_⟩)
 let hf:H1 #[0,s1]=none:=U.hok.fresh (uh _);rw[_,.ref #[0,s1],upd H1 #[0,s1] (.lst xs),U.laid (t':=s1.toks) (λb u e=>u9 _ e) (uh _) ?_,1,q _ hf];exact(z,us,(0),r,uD _ rfl)
end
nonrec abbrev Sp:=oj V->Hp->VK->XK->Prop
nonrec abbrev CXT:=oj Env->Hp->o7->XK->o6->o7->Prop
structure Aab (P:o9)(w:og)(K:o0)(mg:Str->om o6)(base:o8)(A:oh)(outer:oj Env)(s:o7)(H:Hp):Prop where
 frames:A.frames=u_ outer
 mod:Mod K mg base
 bs:∀b o,base.get? b=u_ o->s.heap.get? b=u_ o/\H b=U_
 bsz:base.objs.size<=#[0,s]
 funs:s.heap.FunFrames base outer
 frf:∀b>frs outer,H b=U_
 hok:HOk P w H s.heap
 bare:G6 s.gens
abbrev CE (outer:oj Env)(P:o9)(w:og)(H:Hp)(s:o7)(Q:VK)(u:o6)(s':o7):Prop:=
 ∃v H',s'.os=s.os/\G6 s'.gens/\0<s'.toks/\Un (frs outer) [] H H' s.heap s'.heap/\HOk P w H' s'.heap/\il v u/\Q v H'
abbrev CR (CX:CXT)(outer:oj Env)(P:o9)(w:og)(H:Hp)(s:o7)(Q:VK)(E:XK)(r:GL)(s':o7):Prop:=
 match r with
 | .ok (.ret u)=>CE outer P w H s Q u s'| .ok _=>False| .error e=>CX outer H s E e s'
structure FnOk (P:o9)(w:og)(K:o0)(mg:Str->om o6)(base:o8)(CX:CXT)(k:Nat)(f:o3)(fd:Vh)(ps:oj Str)(sp:Sp):Prop where
 len:∀vs H Q E,sp vs H Q E->↑vs=↑ps
 run:∀(A:oh) (outer:oj Env) (s:o7) (H:Hp) (args:Args) (us:oj o6) (vs:oj V) (Q:VK) (E:XK),mC k A->Aab P w K mg base A outer s H->GQ s fd args (ps.zip us)->iE vs us->sp vs H Q E->(0<s.toks\/∃x r,ps=x::r/\fd.scope.names.lookup x=u_ .local)->
  VL (Vs P w) A (.call (-f) args) (CR CX outer P w H s Q E) s
variable {mg:Str->om o6}{base:o8}
def Aab.make {P:o9}{outer:oj Env}(e:Aab P w K mg base A outer s H)(C:o3)(us:oj o6)(kw:oj (Str×o6)):
  Aab P w K mg base (A.under (.builtin "type.__call__" [.ref C::us:kw])) outer s H:=(by first|exact e.frames|(simpa [Tt,Code.envs,T_,pushEnvs] using e.frames),e.mod,e.bs,e.bsz,e.funs,e.frf,e.hok,e.bare)
section
variable {X:Cx}{ot:oj (o3×Obj)}{σ:St}{H:Hp}{s s':o7}
def Inv.env0 (I:#[I]):Aab X.prog X.w X.K X.mg X.base X.A X.stack s H:=
 (I.ok.frames,I.ok.mod,I.bs,uY I.ok.bsz I.sz,I.stack,I.stkFree,I.hok,I.bare)
variable {Q:VK}
def Inv.after (I:#[I])(h:CE X.stack X.prog X.w H s Q u s'):EP X ot σ Q u s':=by
 erw[h,v,H',os,bare,htk,un,hok,r,q];erw[s',Z,g,d,t,U];obtain rfl:U=s.os:=os;exact(v,H',I.call (h':=Z) (g':=g) (d':=d) (t':=t) (ch:= []) un hok bare (λb z=>A8 z (by simp)),r,q)
end
abbrev AcO (sp:Sp)(dvs:oj V)(E:XK)(t:TA):TE:=λσ H Q=>t σ H λvs H1=>sp (vs++dvs) H1 Q E
inductive Acf (C:Addr)(m:Str)(sp:Sp)(dvs:List V)(E:XK)(t:TA)(σ:St)(Q:VK)(x:V)(H1:Hp):Prop
 |mk (a:_)(dx:_)(fs:_)(_:x=-a)(_:H1 a=u_ (.ins C dx fs))(_:fs.lookup m=U_)(_:t σ H1 λvs H2=>sp (x::(vs++dvs)) H2 Q E)
abbrev AaC (C:o3)(m:Str)(sp:Sp)(dvs:oj V)(E:XK)(ta:TE)(t:TA):TE:=λσ H Q=>ta σ H λx H1=>Acf C m sp dvs E t σ Q x H1
abbrev AcJ (C:o3)(sp:Sp)(dvs:oj V)(E:XK)(t:TA):TE:=λσ H Q=>t σ H λvs H1=>∀x dx,H1 x=U_->H1 dx=U_->dx≠x->
 sp (.ref x::(vs++dvs)) (upd (upd H1 dx (.own x)) x (.ins C dx [])) (λv H2=>v= .non/\Q (-x) H2) E
abbrev XJ (K:o0)(fd:Vh)(ps:oj Str)(ds:oj o6):Prop:=
 ∀(s:o7) (us:oj o6),K.In s.heap->↑(us++ds)=↑ps->GQ s fd [us:[]] (ps.zip (us++ds))
variable {fd:Vh}
def XJ.all {ps:oj Str}(h:∀us:oj o6,↑us=↑ps->Gn fd [us:[]]=pure (ps.zip us)):XJ K fd ps []:=λs us _ U=>by
 rw[vH] at U⊢;exact .of_eq (h us U)
abbrev zj (CX:CXT)(X:Cx)(E:XK):Prop:=∀(ot:oj (o3×Obj)) (σ:St) (H:Hp) (s:o7) (e:o6) (s':o7),#[I]->CX X.stack H s E e s'->X.xe e s'
section
variable {X:Cx}{CX:CXT}{k:Nat}{f C:o3}{fd:Vh}{ps:oj Str}{sp:Sp}{dvs:oj V}{ds:oj o6}{E:XK}{x m:Str}{p pos apos:Pos}{e o:Expr}{es:oj Expr}{ta:TE}{t:TA}
def Bj {ot:oj (o3×Obj)}{σ:St}{H:Hp}{s:o7}{Q:VK}{us:oj o6}{vs:oj V}(F:FnOk X.prog X.w X.K X.mg X.base CX k f fd ps sp)(hr:mC k X.A)(hb:XJ X.K fd ps ds)(hd:iE dvs ds)(hx:zj CX X E)
  (I:#[I]) (r:iE vs us) (h:sp (vs++dvs) H Q E):Ve #[X,X] X.A (call (-f) us) (EP X ot σ Q) X.xe s:=by
 let Z:iE (vs++dvs) (us++ds):=r.append hd;let hl:↑(us++ds)=↑ps:=by rw[<-↑Z];exact F.len _ _ _ _ h
 refine Hc (Uw (F.run X.A X.stack s H [us:[]] (us++ds) (vs++dvs) Q E hr I.env0 (hb s us I.kIn hl) Z h (.inl I.tk)) λr s' U=>?_);cases r with
 |error e=>exact hx ot σ H s e s' I U|ok fl=>
  cases fl with
  |ret u=>exact I.after U|next=>exact Vw U|brk=>exact Vw U|cont=>exact Vw U
def qt (F:FnOk X.prog X.w X.K X.mg X.base CX k f fd ps sp)(hr:mC k X.A)(hg:Gl X x)(hm:X.mg x=u_ (-f))(hk:PySem.W.keepIn X.K (-f)=v_)(hb:XJ X.K fd ps ds)(hd:iE dvs ds)(hx:zj CX X E)
  (ha:PA X (e::es) t) (U:(x==("__debug__":Str))=Vd) (he:Vi (e::es) X.env=(Vd,eval e X.env)::Vi es X.env) (Z:(Vp pos (Vi es X.env)).any (·.1)=Vd):
  PE X (.Call (.Name x p) (e::es) [] pos) (AcO sp dvs E t):=by
 rw[2,Q,I,h];refine Uq (Wm I hg hm ?_ U);refine Ur (h₀:=X.base) I.ok.mod.kin hk (thn (ha pos ot s σ H _ I h) λus s1 ⟨vs,H1,I1,r,q⟩=>[I1.kIn:?_]) he Z;exact Bj F hr hb hd hx I1 r q
def Qh {pl:Sem Bool}(he:PE X o ta)(c:Cls X.K C)(hm:Aaj X.K C m f)(F:FnOk X.prog X.w X.K X.mg X.base CX k f fd ps sp)(hr:mC k X.A)(hb:XJ X.K fd ps ds)(hd:iE dvs ds)(hx:zj CX X E)(ha:PA X (e::es) t)
  (U:Vi (e::es) X.env=(Vd,eval e X.env)::Vi es X.env) (Z:(Vp pos (Vi es X.env)).any (·.1)=Vd)
  (ht:eval (.Call (.Attribute o m apos) (e::es) [] pos) X.env=(do
   let ov<-eval o X.env
   GG apos.atName
   let(f,first)<-VW [ov] (GV ov m pl)
   Hi pos f first (Vp pos (Vi (e::es) X.env)) (Gj pos (Gf [] X.env)))):
  PE X (.Call (.Attribute o m apos) (e::es) [] pos) (AaC C m sp dvs E ta t):=by
 rw[2,Q,I,h];refine PySem.W.methodCall_KW (pl:=pl) (thn (he ot s σ H _ I h) λu s1 zq=>?_) ht;erw[zq,x,H1,I1,rx,a,dx,fs,ex,ea,l,q];subst ex;obtain rfl:u=Vj a:=rx;refine ZI I1 ea c hm l ?_;refine Ur (first:= [-a]) (h₀:=X.base) I.ok.mod.kin hm.kp (thn (ha pos ot s1 σ H1 _ I1 q) λus s2 ⟨vs,H2,I2,r,q2⟩=>[I2.kIn:?_]) U Z;exact Bj (us:= .ref a::us) (vs:= .ref a::vs) F hr hb hd hx I2 (.cons rfl r) q2
def Qx {pl:Sem Bool}(Z:PE X o ta)(c:Cls X.K C)(hm:Aaj X.K C m f)(F:FnOk X.prog X.w X.K X.mg X.base CX k f fd ps sp)(hr:mC k X.A)(hb:XJ X.K fd ps ds)(hd:iE dvs ds)(hx:zj CX X E)
  (ht:eval (.Call (.Attribute o m apos) [] [] pos) X.env=(do
   let ov<-eval o X.env
   GG apos.atName
   let(f,first)<-VW [ov] (GV ov m pl)
   Hi pos f first (Vp pos (Vi [] X.env)) (Gj pos (Gf [] X.env)))):
  PE X (.Call (.Attribute o m apos) [] [] pos) (AaC C m sp dvs E ta Aaz):=by
 rw[2,Q,I,h];refine PySem.W.methodCall_KW (pl:=pl) (thn (Z ot s σ H _ I h) λu s1 zq=>?_) ht;erw[zq,x,H1,U,rx,a,dx,fs,ex,ea,l,q];subst ex;obtain rfl:u=Vj a:=rx;refine ZI U ea c hm l ?_;exact PySem.W.callWith_K0 (first:= [-a]) U.kIn hm.kp (Bj (us:= [-a]) (vs:= [-a]) F hr hb hd hx U (.cons rfl .nil) q)
structure Mk (K:o0)(C f:o3):Prop where
 makes:PySem.W.makesIn K C=v_
 init:PySem.W.findIn K (-C) "__init__"=u_ (u_ (-f))
 fn:PySem.W.isFn K (-f)=v_
 kp:PySem.W.keepIn K (-C)=v_
def Lp {ot:oj (o3×Obj)}{σ:St}{H:Hp}{s:o7}{Q:VK}{us:oj o6}{vs:oj V}(M:Mk X.K C f)(F:FnOk X.prog X.w X.K X.mg X.base CX k f fd ps sp)(hr:mC (k+1) X.A)(hb:XJ X.K fd ps ds)(hd:iE dvs ds)
  (hx:zj CX X E) (I:#[I]) (r:iE vs us)
  (h:∀x dx,H x=U_->H dx=U_->dx≠x->sp (.ref x::(vs++dvs)) (upd (upd H dx (.own x)) x (.ins C dx [])) (λv H2=>v= .non/\Q (-x) H2) E):
  Ve #[X,X] X.A (call (-C) us) (EP X ot σ Q) X.xe s:=by
 let hq:=h (#[0,s]+1) #[0,s] (I.hok.fresh (Ue _)) (I.hok.fresh (uh _)) (uU (V9 _));let Z:=Inv.made (C:=C) I;let r2:iE (V.ref (#[0,s]+1)::(vs++dvs)) (Vj (#[0,s]+1)::(us++ds)):= .cons rfl (r.append hd);let hl:↑(Vj (#[0,s]+1)::us++ds)=↑ps:=by
  let e:=↑r2;rw[F.len _ _ _ _ hq] at e;exact e.symm
 refine Hc (Ma (f:=f) I.kIn M.makes M.init (beq_iff_eq.mp M.fn) (Uw (F.run _ X.stack _ _ [Vj (#[0,s]+1)::us:[]] (Vj (#[0,s]+1)::(us++ds)) _ _ E (hr.make C us [])
  (Z.env0.make C us []) (hb _ (Vj (#[0,s]+1)::us) Z.kIn hl) r2 hq (.inl Z.tk)) λr s' U=>?_))
 cases r with
 |error e=>exact hx ot σ _ _ e s' Z U|ok fl=>
  cases fl with
  |ret u=>
   erw[Z.after U,v,H',I3,rv,ev,q3];subst ev;exact[rv:(V.ref (#[0,s]+1),H',I3,1,q3)]
  |next=>exact Vw U|brk=>exact Vw U|cont=>exact Vw U
def xD (M:Mk X.K C f)(F:FnOk X.prog X.w X.K X.mg X.base CX k f fd ps sp)(hr:mC (k+1) X.A)(hg:Gl X x)(hm:X.mg x=u_ (-C))(hb:XJ X.K fd ps ds)(hd:iE dvs ds)(hx:zj CX X E)
  (ha:PA X (e::es) t) (U:(x==("__debug__":Str))=Vd) (he:Vi (e::es) X.env=(Vd,eval e X.env)::Vi es X.env) (Z:(Vp pos (Vi es X.env)).any (·.1)=Vd):
  PE X (.Call (.Name x p) (e::es) [] pos) (AcJ C sp dvs E t):=by
 rw[2,Q,I,h];refine Uq (Wm I hg hm ?_ U);refine Ur (h₀:=X.base) I.ok.mod.kin M.kp (thn (ha pos ot s σ H _ I h) λus s1 ⟨vs,H1,I1,r,q⟩=>[I1.kIn:?_]) he Z;exact Lp M F hr hb hd hx I1 r q
end
structure qx (N P:oj Str)(sc:Vv):Prop where
 kind:sc.kind= .function
 co:sc.isCoroutine=Vd
 gen:sc.isGenerator=Vd
 nd:N.Nodup
 pre:N.take ↑P=P
 par:∀x>P,sc.names.lookup x=u_ .local\/sc.names.lookup x=u_ .cell
 nofree:∀y>sc.names,y.2≠ .free
def sL {kindOf:Str->om VR}{x:Str}:∀{binds:oj (Str×o6)}{m:Str->om o6},(∀v,(x,v)∉binds)->VP kindOf binds m x=m x
 | [],_,_=>rfl|(n,v)::r,m,h=>by
  unfold VP;rw[sL λw U=>h w (uf _ U)];split
  .have:x≠n:=by rintro rfl;exact h v ug
   simp[this]
  .rfl
def sN {kindOf:Str->om VR}{x:Str}:∀{binds:oj (Str×o6)}{m:Str->om o6},(∀v,(x,v)∉binds)->VU kindOf binds m x=m x
 | [],_,_=>rfl|(n,v)::r,m,h=>by
  unfold VU;rw[sN λw U=>h w (uf _ U)];split
  .rfl
  .have:x≠n:=by rintro rfl;exact h v ug
   simp[this]
def sM {kindOf:Str->om VR}{x:Str}{v:o6}:∀{P:oj Str}{vs:oj o6}{i:Nat}{m:Str->om o6},P.Nodup->P[i]? =u_ x->vs[i]? =u_ v->kindOf x=u_ .local->
  VP kindOf (P.zip vs) m x=u_ v
 | [],_,_,_,_,h,_,_=>by simp at h|_::_,[],_,_,_,_,h,_=>by simp at h|p::P,w::vs,0,m,nd,h1,h2,hk=>by
  simp at h1 h2;subst h1;subst h2;show VP kindOf ((p,w)::P.zip vs) m p=_;unfold VP;rw[sL λv U=>(List.nodup_cons.mp nd).1 (TM U).1,A6 hk];simp
 |p::P,w::vs,i+1,m,nd,h1,h2,hk=>by
  show VP kindOf ((p,w)::P.zip vs) m x=_;unfold VP;exact sM (i:=i) (List.nodup_cons.mp nd).2 (by simpa using h1) (by simpa using h2) hk
def sO {kindOf:Str->om VR}{x:Str}{v:o6}:∀{P:oj Str}{vs:oj o6}{i:Nat}{m:Str->om o6},P.Nodup->P[i]? =u_ x->vs[i]? =u_ v->kindOf x≠u_ .local->
  VU kindOf (P.zip vs) m x=u_ v
 | [],_,_,_,_,h,_,_=>by simp at h|_::_,[],_,_,_,_,h,_=>by simp at h|p::P,w::vs,0,m,nd,h1,h2,hk=>by
  simp at h1 h2;subst h1;subst h2;show VU kindOf ((p,w)::P.zip vs) m p=_;unfold VU;rw[sN λv U=>(List.nodup_cons.mp nd).1 (TM U).1,A4 hk];simp
 |p::P,w::vs,i+1,m,nd,h1,h2,hk=>by
  show VU kindOf ((p,w)::P.zip vs) m x=_;unfold VU;exact sO (i:=i) (List.nodup_cons.mp nd).2 (by simpa using h1) (by simpa using h2) hk
abbrev qar (N:oj Str)(vs:oj V):St:=vs.map u_++rq (↑N-↑vs) U_
abbrev cxOf (CX:CXT)(P:o9)(w:og)(K:o0)(mg:Str->om o6)(base:o8)(N:oj Str)(qual:Str)(scope:Vv)(f:o3)(cd:o6)(A:oh)(outer:oj Env)(s:o7)(H:Hp)(E:XK):Cx where
 prog:=P
 w:=w
 K:=K
 mg:=mg
 base:=base
 A:=A.deeper (Vk qual scope #[0,s] f cd)
 N:=N
 s₀:=s
 H₀:=H
 env:=Vk qual scope #[0,s] f cd
 outer:=outer
 stack:=Vk qual scope #[0,s] f cd::outer
 ex:= []
 calm:=v_
 fn:=λ_=>v_
 pn:= []
 xe:=λe s'=>Ve (Vs P w) (A.deeper (Vk qual scope #[0,s] f cd)) (Tw (Vk qual scope #[0,s] f cd) e) (λ_ s''=>CX outer H s E e s'') (λe' s''=>CX outer H s E e' s'') s'
variable {n:Nat}{x:Str}
def Cd {sc:Vv}(h:sc.names.lookup x=u_ .cell):∃c,(GT n sc.names []).lookup x=u_ c:=by
 let q:=PySem.W.cellsFrom_some sc.names n [] (.inl h);exact Option.isSome_iff_exists.mp q
def ET {CX:CXT}{P:o9}{w:og}{K:o0}{mg:Str->om o6}{base:o8}{N ps:oj Str}{qual:Str}{scope:Vv}{f:o3}{cd:o6}{A:oh}{outer:oj Env}{s s1:o7}{H:Hp}{E:XK}{us:oj o6}{vs:oj V}
  (S:qx N ps scope) (hd:A.handled=U_) (e0:Aab P w K mg base A outer s H) (hl:↑vs=↑ps) (r:iE vs us)
  (x:Hg s #[0,s] (VP (Vk qual scope #[0,s] f cd).kindOf (ps.zip us) λ_=>U_) (GT (#[0,s]+1) scope.names []) (VU (Vk qual scope #[0,s] f cd).kindOf (ps.zip us) λ_=>U_) s1) (ac:0<s1.toks):
  Inv (cxOf CX P w K mg base N qual scope f cd A outer s H E) [] (qar N vs) H s1:=by
 let ad:↑ps<=↑N:=by have:=Aa Gm S.pre;rw[uQ] at this;omega
 erw[x.done,h1,tk,rfl,hk];let U:∀b:o3,b∉(cxOf CX P w K mg base N qual scope f cd A outer s H E).ex:=λb z=>A8 (show b>([]:oj o3) from z) (by simp)
 rw[_,(e0.mod,S.kind,1,1,uh _,λy z c h1 h2=>?_,λy Z=>?_,λy c _ h=>?_,λ_=>hd,Around.frames_deeper e0.frames,.inr [1:1],λb z=>A8 z (U b),e0.bs,e0.bsz,λb _ _=>U b,λb z=>A8 z (U b),e0.funs,e0.frf),1,e0.bare,Un.kept hk,[_:x.toInCall.ns:λi y v h1 h2 h3=>?_],λy c h=>[_:x.cell y c h],e0.hok.fresh (uh _),λy c h=>?_,λp hp=>A8 (show p>([]:oj (o3×Obj)) from hp) (by simp),e0.hok.kept hk,?_,ac]
 .exact name_of_addr x.apart (vV h1) (vV h2)
 .let Z:scope.names.lookup y=u_ .cell\/scope.names.lookup y=u_ .free:=Z;rcases Z with Z|Z
  .exact Cd Z
  .exact A8 rfl (S.nofree _ (vV Z))
 .exact Ui (x.above y c (vV h))
 .let hi:i<↑vs:=by
   unfold qar at h2;by_cases hi:i<↑vs
   .exact hi
   .rw[UK (by simpa using hi)] at h2
    rw[Rb] at h2;split at h2<;>cases h2
  let ha:vs[i]? =u_ v:=by
   unfold qar at h2;rw[UM (by simpa using hi),uH] at h2
   cases e:vs[i]? with
   |none=>rw[e,0] at h2|some a=>rw[e,0] at h2;rfl
  erw[r.get ha,u,hu,rv];let hp:ps[i]? =u_ y:=by
   rwa[<-S.pre,List.getElem?_take_of_lt ()]
  let aa:ps.Nodup:=by rw[<-S.pre];exact S.nd.sublist (Rh _ _)
  rw[_,u,rv];rcases S.par y (uW hp) with k|k
  .exact .inl [k:sM aa hp hu k]
  .erw[Cd (n:=#[0,s]+1) k,c,e];refine .inr (.inl k,c,e,?_);let q:=x.cell y c e;rw[sO aa hp hu (by show scope.names.lookup y≠_;rw[k];decide)] at q
   exact q
 .exact e0.hok.fresh (Ui (x.above y c (vV h)))
 .unfold qar;show _=↑N;rw[uw,u7,R7];omega
def AS {M:GS}{A:oh}{E:o6->o7->Prop}{s₀ s:o7}{m cm:Str->om o6}{env:Env}(f:Str×o6->PUnit->Sem (ForInStep PUnit))(hf:∀n v u,f (n,v) u=(do HD env n v;pure (.yield ⟨⟩)))(U:env.scope.kind= .function)
  (n:Str) (v:o6) (r:oj (Str×o6)) (Q:PUnit->o7->Prop) (x:Hg s₀ env.locals m env.cells cm s) (hl:env.kindOf n=u_ .local)
  (aa:∀x>r,env.kindOf x.1=u_ .local\/(env.kindOf x.1=u_ .cell/\(env.cells.lookup x.1).isSome=v_))
  (h:∀s',Hg s₀ env.locals (VP env.kindOf ((n,v)::r) m) env.cells (VU env.kindOf ((n,v)::r) cm) s'->0<s'.toks->Q ⟨⟩ s'):Ve M A (VV ((n,v)::r) ⟨⟩ f) Q E s:=by
 rw[Ux,hf];refine A7 (A7 (rm hl x.toInCall.ns (λh' ac Z=>uC ?_) (by rw[U];rfl)))
 let x1:Hg s₀ env.locals (λy=>if y=n then u_ v else m y) env.cells cm {s with heap:=h',toks:=s.toks+1}:=by
  rw[_,(?_,ac,λb o e=>?_,x.toInCall.fresh),λk c hc=>?_,x.apart,x.above]
  .erw[x.toInCall.same,h₁,tk,rfl,<-[h':0]]
  .have:=x.toInCall.keep b o e;exact Z.extBut b o (uU (Vr (uG e) x.toInCall.fresh)) (x.toInCall.keep b o e)
  .exact(x.cell k c hc).sameBut Z (U5 (x.above k c (mem_of_lookup hc)))
 refine vf (n:=1) (Va (uK _)) (wpAny_bindParams f hf U r _ _ _ _ x1 aa λs' y h1=>h s' ?_ h1);unfold VP VU;rw[A6 hl,A6 hl];exact y
def Er {M:GS}{A:oh}{E:o6->o7->Prop}{s:o7}{scope:Vv}{globals:o3}{binds:oj (Str×o6)}{qual:Str}{func:om o3}{U:o6}{builtins:o3}{Q:Env->o7->Prop}
  (aa:scope.kind= .function)
  (ac:∀x>binds,scope.names.lookup x.1=u_ .local\/(scope.names.lookup x.1=u_ .cell/\((GT (#[0,s]+1) scope.names []).lookup x.1).isSome=v_))
  (htk:0<s.toks\/∃n v r,binds=(n,v)::r/\scope.names.lookup n=u_ .local)
  (hq:∀en,en=newEnv scope #[0,s] globals (GT (#[0,s]+1) scope.names []) qual func U U_ builtins->
   ∀s',Hg s en.locals (VP en.kindOf binds λ_=>U_) en.cells (VU en.kindOf binds λ_=>U_) s'->0<s'.toks->Q en s'):
  Ve M A (Tf scope globals [] binds qual func U U_ builtins) Q E s:=by
 rcases htk with htk|⟨n,v,r,rfl,hl⟩
 .exact vf (n:=1) htk (wpAny_newFunctionEnv_cells aa ac λenv he s' x h1=>hq env he s' x h1)
 .simp![Tf,Tc,UV,if_false];refine A7 (wpAny_alloc ?_);refine A7 (wpAny_layCells _ (λname kind cells=>by cases ad:kind==Gg<;>simp[ad]) _ _ _ _ ?_)
  let Z:=cellsFrom_ok scope.names (s.heap.push {cls:= .type "frame",data:= .dict #[]}) (#[0,s]+1) [] [λ_ _ hm=>(nomatch hm):RS] (by rw[vn];exact uh _);rw[vn] at Z;rw[show({s with heap:=s.heap.push {cls:= .type "frame",data:= .dict #[]}}:o7).heap.objs.size=#[0,s]+1 from vn ..]
  exact A7 (AS (s₀:=s) (env:=newEnv scope #[0,s] globals (GT (#[0,s]+1) scope.names []) qual func U U_ builtins)
   _ (λ_ _ _=>rfl) aa n v r _
   ((⟨_,_,by rfl⟩,(Heap.Ns.new s.heap (.type "frame")).keeps (rF _ _),λb o e=>rF _ _ b o (u9 _ e),uh _),
    λm c hc=>(Z.empty m c (mem_of_lookup hc)).1,Z.apart,λn c hm=>(Z.empty n c hm).2)
   hl (λy hy=>ac y (uf _ hy)) λs' x h1=>uC (hq _ rfl s' x h1))
def AbP {CX:CXT}{P:o9}{w:og}{K:o0}{mg:Str->om o6}{base:o8}{k:Nat}{f:o3}{name qual:Str}{U:Arguments}{Z:oj Stmt}{scope:Vv}{dV kV doc pm cdv ct oc:o6}{an od:om o3}
  {osl:Array (om o6)}{N ps:oj Str}{sp:Sp} (lk:K.lookup f=u_ (oc,od,.func (PySem.W.fnOf name qual U Z scope dV kV doc pm an cdv ct),osl)) (af:PySem.W.codeIn K cdv qual=v_) (S:qx N ps scope)
  (len:∀vs H Q E,sp vs H Q E->↑vs=↑ps)
  (aa:∀(A:oh) (outer:oj Env) (s:o7) (H:Hp) (vs:oj V) (Q:VK) (E:XK),mC k (A.deeper (Vk qual scope #[0,s] f cdv))->sp vs H Q E->
   ∃t,PSs (cxOf CX P w K mg base N qual scope f cdv A outer s H E) Z t/\t {nx:=λ_ H'=>Q .non H',rt:=Q} (qar N vs) H):
  FnOk P w K mg base CX (k+1) f (PySem.W.fnOf name qual U Z scope dV kV doc pm an cdv ct) ps sp:=by
 rw[_,len,λA outer s H args us vs Q E hr e0 hb r ad htk=>?_];let hl:=len _ _ _ _ ad;let KX:K.In s.heap:=e0.mod.kin.keeps λb o e=>(e0.bs b o e).1;let ag:s.heap.NoLimit:=e0.mod.nolimit.keeps λb o e=>(e0.bs b o e).1;let ac:∀y>ps.zip us,scope.names.lookup y.1=u_ .local\/(scope.names.lookup y.1=u_ .cell/\((GT (#[0,s]+1) scope.names []).lookup y.1).isSome=v_):=λ⟨n,v⟩ hy=>by
  rcases S.par n (TM hy).1 with q|q
  .exact .inl q
  .exact .inr [q:PySem.W.cellsFrom_some _ _ _ (.inl q)]
 let ae:0<s.toks\/∃n v r,ps.zip us=(n,v)::r/\scope.names.lookup n=u_ .local:=by
  rcases htk with h|⟨y,q,e,hy⟩
  .exact .inl h
  .have:↑us=↑ps:=by rwa[<-↑r]
   subst e
   match us,this with
   |u::us',_=>exact .inr (y,u,q.zip us',1,hy)
 refine codeAny_call_function hr.depth (KX _ _ lk) rfl S.co S.gen rfl (PySem.W.codeRec_of KX af) (hb _ _ _ _ ?_);refine Er S.kind ac ae λenv he s1 x ah=>?_;subst he;rw[_,ag.keeps x.toInCall.keep,codeAny_func ?_];erw[aa A outer s H vs Q E (hr.deeper _) ad,t,ht,hq];let I:Inv (cxOf CX P w K mg base N qual scope f cdv A outer s H E) [] (qar N vs) H s1:=ET S hr.hd e0 hl r x ah;refine vz (ht [] s1 (qar N vs) H _ I hq) (λfl s' hs=>?_) λe s' hs=>hs;let fin:∀{σ':St}{H':Hp}{v:V}{u:o6},Inv (cxOf CX P w K mg base N qual scope f cdv A outer s H E) [] σ' H' s'->il v u->Q v H'->CE outer P w H s Q u s':=
  λ{σ' H' v u} J rv q=>(v,H',J.os,J.bare,J.tk,J.base,J.hok,rv,q)
 cases fl with
 |ret u=>
  erw[hs,v,σ',H',J,rv,q,<-fin J rv q]
 |next=>
  erw[hs,σ',H',J,q,<-fin (v:=V.non) (u:=VZ) J rfl q]
 |brk=>
  erw[hs,_,_,_,q,<-Vw q]
 |cont=>
  erw[hs,_,_,_,q,<-Vw q]
section
variable {X:Cx}{x:Str}{p pos:Pos}{e:Expr}{es:oj Expr}{t:TA}{id T:String}{r:oj V->Hp->VK->Prop}
abbrev tCB (r:oj V->Hp->VK->Prop)(t:TA):TE:=λσ H Q=>t σ H λvs H1=>r vs H1 Q
def qz (hc:jg X (.builtin id) r)(hg:Gl X x)(hm:X.mg x=U_)(hv:GO x=u_ (.builtin id))(ha:PA X (e::es) t)(hn:x≠"__name__")(U:(x==("__debug__":Str))=Vd)
  (he:Vi (e::es) X.env=(Vd,eval e X.env)::Vi es X.env) (Z:(Vp pos (Vi es X.env)).any (·.1)=Vd):PE X (.Call (.Name x p) (e::es) [] pos) (tCB r t):=by
 rw[2,Q,I,h];refine Uq (ZQ I hg hm hv ?_ hn U);exact pR (thn (ha pos ot s σ H _ I h) λus s1 ⟨vs,H1,I1,r1,q1⟩=>hc ot s1 σ H1 vs us Q I1 r1 q1) he Z
def Qj (hc:jg X (.type T) r)(hg:Gl X x)(hm:X.mg x=U_)(hv:GO x=u_ (.type T))(ha:PA X (e::es) t)(hn:x≠"__name__")(U:(x==("__debug__":Str))=Vd)
  (he:Vi (e::es) X.env=(Vd,eval e X.env)::Vi es X.env) (Z:(Vp pos (Vi es X.env)).any (·.1)=Vd):PE X (.Call (.Name x p) (e::es) [] pos) (tCB r t):=by
 rw[2,Q,I,h];refine Uq (ZQ I hg hm hv ?_ hn U);exact vy (thn (ha pos ot s σ H _ I h) λus s1 ⟨vs,H1,I1,r1,q1⟩=>hc ot s1 σ H1 vs us Q I1 r1 q1) he Z
end
end L2
namespace HT
open PySem PyProof.Rows
section
variable {prog:o9}{w:og}{A:oh}{E:o6->o7->Prop}{s:o7}
def cat_tup {t b:o3}{vs ws:oj o6}{Q:o6->o7->Prop}(ht:GY s.heap t vs.toArray)(hb:GY s.heap b ws.toArray)(hv:vs≠ [])
  (h1:ws= []->Q (-t) s) (h2:ws≠ []->Q (.ref #[0,s]) {s with heap:=s.heap.push {cls:= .type "tuple",data:= .seq (vs++ws).toArray}})
  (hsz:↑vs+↑ws<=Vg):Ve #[w,w] A (VN .Add (-t) (-b)) Q E s:=by
 erw[id ht,[cls,dd,data,sl],ho,hc,n,hd];erw[id hb,[af,Z,ae,aa],U,ac,n2,ad];simp only at hc hd ac ad;subst hc hd ac ad;let e:vs.toArray++ws.toArray=(vs++ws).toArray:=by simp
 by_cases hw:ws= []
 .exact T9 [_:ho:1] [_:U:1] tM Fa PySem.F.slot_tuple_add UW (UQ _ _)
   (tuple_addW1 t b vs.toArray ws.toArray n n2 dd Z sl aa (by simpa using hv) (by simp[hw])) [ho:U:h1 hw]
 .refine T9 [_:ho:1] [_:U:1] tM Fa PySem.F.slot_tuple_add UW (UQ _ _)
   (tuple_addW2 t b vs.toArray ws.toArray n n2 dd Z sl aa (by simpa using hv) (by simpa using hw) (by rwa[ur,ur])) [ho:U:?_]
  rw[e];exact h2 hw
abbrev sIx (n d:Nat):om Int->Nat
 |none=>d|some v=>if v<0 then(v+(n:Int)).toNat else min v.toNat n
def sIx_none (n d:Nat):sIx n d U_=d:=rfl
def sIx_nat (n d k:Nat):sIx n d (u_ (k:Int))=min k n:=by
 show(if(k:Int)<0 then((k:Int)+(n:Int)).toNat else min (k:Int).toNat n)=min k n
 rw[A4 (),Tp]
def AaV (n d:Nat)(hd:d<=n)(o:om Int):sIx n d o<=n:=by
 cases o with
 |none=>exact hd|some v=>
  show(if v<0 then(v+(n:Int)).toNat else min v.toNat n)<=n
  by_cases U:v<0
  .rw[A6 U];omega
  .rw[A4 U];exact Nat.min_le_right _ _
def Iy (v:Int)(n d:Nat):(if v<0 then max (v+(n:Int)) 0 else min v (n:Int))=((sIx n d (u_ v):Nat):Int):=by
 show(if v<0 then max (v+(n:Int)) 0 else min v (n:Int))=(((if v<0 then(v+(n:Int)).toNat else min v.toNat n):Nat):Int)
 by_cases U:v<0
 .simp![A6 U];omega
 .simp![A4 U];omega
def CY (lo hi:om Int)(n:Nat):tR lo hi 1 (n:Int)=(((sIx n 0 lo:Nat):Int),((sIx n n hi:Nat):Int)):=by
 let h1:¬((1:Int)<0):=by omega
 unfold tR;simp![h1,if_false];refine Prod.ext ?_ ?_
 .cases lo with|none=>rfl|some v=>exact Iy v n 0
 .cases hi with|none=>rfl|some v=>exact Iy v n n
def Cw (i j:Nat):HM (i:Int) (j:Int) 1=j-i:=by
 unfold HM;let h1:GT.gt (1:Int) 0:=by omega
 simp![h1,if_true,Int.ediv_one];split<;>omega
def KL {v:o6}{o:om Int}{Q:om Int->o7->Prop}(p:VY v o)(h:Q o s):Ve #[w,w] A (Ph v) Q E s:=by
 cases p with
 |none=>exact RZ h|int i t=>exact slicePart_int h
def JI {sl:o3}{vl vu:o6}{lo hi:om Int}{n:Nat}{Q:Int×Int×Nat->o7->Prop}(hs:s.heap.IsSliceOf sl vl vu .none)(pl:VY vl lo)(pu:VY vu hi)
  (h:Q (((sIx n 0 lo:Nat):Int),1,sIx n n hi-sIx n 0 lo) s):Ve #[w,w] A (Ro (-sl) (pure (n:Int))) Q E s:=by
 erw[id hs,os,U,aa,Z];unfold Ro Pc;refine A7 (A7 (vk U Z (x:=vl) rfl (A7 (vk U Z (x:=vu) rfl (A7 (vk U Z (x:= .none) rfl (uC ?_)))))));refine A7 (RZ ?_);show Ve _ _ (if((1:Int)==0)=v_ then _ else _) _ _ s
 rw[A4 ()]
 refine A7 (KL pl (A7 (KL pu (A7 (uC ?_)))));show Ve _ _ (match tR lo hi 1 (n:Int) with|(lo,hi)=>pure (lo,(1:Int),HM lo hi 1)) _ _ s
 rw[CY lo hi n];show Ve _ _ (pure (((sIx n 0 lo:Nat):Int),(1:Int),HM ((sIx n 0 lo:Nat):Int) ((sIx n n hi:Nat):Int) 1)) _ _ s;rw[Cw];exact uC h
def Lu (xs:Array o6)(i k:Nat):((Vq k).filterMap λ(m:Nat)=>xs[((i:Int)+(m:Int)*1).toNat]?).toArray=((xs.toList.drop i).take k).toArray:=by
 let e:(λ(m:Nat)=>xs[((i:Int)+(m:Int)*1).toNat]?)=λm=>xs[i+m]? :=by
  funext m
  have:((i:Int)+(m:Int)*1).toNat=i+m:=by omega
  rw[this]
 rw[e];have:=pick_run xs i k;rw[List.filterMap_map] at this;let e2:((λx=>xs[x]?)∘λx=>i+x)=λm=>xs[i+m]? :=rfl;rw[e2] at this;rw[this]
def getItem_tuple_cut {t sl:o3}{items:Array o6}{vl vu:o6}{lo hi:om Int}{Q:o6->o7->Prop}(Z:GY s.heap t items)(hs:s.heap.IsSliceOf sl vl vu .none)(pl:VY vl lo)(pu:VY vu hi)
  (hw:¬(sIx items.size 0 lo=0/\sIx items.size items.size hi=items.size))
  (h:Q (.ref #[0,s]) {s with heap:=s.heap.push {cls:= .type "tuple",data:= .seq ((items.toList.drop (sIx items.size 0 lo)).take (sIx items.size items.size hi-sIx items.size 0 lo)).toArray}})
  (hsz:items.size<=Vg):Ve #[w,w] A (VO (-t) (-sl)) Q E s:=by
 let U:sizeOk (.seq ((items.toList.drop (sIx items.size 0 lo)).take (sIx items.size items.size hi-sIx items.size 0 lo)).toArray):=by
  show((items.toList.drop (sIx items.size 0 lo)).take (sIx items.size items.size hi-sIx items.size 0 lo)).toArray.size<=Vg;rw[ur,uQ,vh,vo];omega
 let hj:sIx items.size items.size hi<=items.size:=AaV _ _ (uh _) hi;erw[id hs,os,aa,ac,af];let ad:s.TypeIs (-sl) "slice":=[os:aa:ac];unfold VO
 try with_reducible refine VS ?_
 first|refine A7 (uC ?_)|skip
 refine A7 (rg Z.typeIs () ?_)
 refine A7 (vq (name:=Gy "__getitem__") Z.typeIs vW
  (vQ vW Z.typeIs pk ?_ (FN _ _)))
 show Ve _ _ (Ry (-t)>>=_) _ _ s;refine A7 (rC Z ?_);refine A7 (Gk ad ?_);rw[A6 ()]
 refine A7 (JI hs pl pu ?_);let ae:¬((((sIx items.size 0 lo:Nat):Int)==0&&(1:Int)==1&&(sIx items.size items.size hi-sIx items.size 0 lo)==items.size)=v_):=by
  intro q;rw[uE,uE] at q;let q1:((sIx items.size 0 lo:Nat):Int)=0:=eq_of_beq q.1.1;let q2:sIx items.size items.size hi-sIx items.size 0 lo=items.size:=eq_of_beq q.2;exact hw [():()]
 show Ve _ _ (if(((sIx items.size 0 lo:Nat):Int)==0&&(1:Int)==1&&(sIx items.size items.size hi-sIx items.size 0 lo)==items.size)=v_ then _ else _) _ _ s
 rw[A4 ae,Lu]
 first
  |exact A7 (m:=Gr _) (vv (uC ⟨0,uC h⟩) U)
  |exact A7 (m:=Gr _) (vv (A7 (uC (uC ⟨0,uC h⟩))) U)
  |exact A7 (A7 (m:=Gr _) (vv (uC (uC ⟨0,uC h⟩)) U))
  |exact A7 (A7 (m:=Gr _) (vv (uC ⟨0,uC h⟩) U))
end
end HT
namespace L2
open PySem PySem.Spec PyProof.Rows
nonrec abbrev TO:=St->Hp->(om Int->Hp->Prop)->Prop
abbrev PO (X:Cx)(e:om Expr)(t:TO):Prop:=
 ∀(ot:oj (o3×Obj)) (s:o7) (σ:St) (H:Hp) (Q:om Int->Hp->Prop),#[I]->t σ H Q->
  Ve #[X,X] X.A (evalPart e X.env) (λu s'=>∃o H',Inv X ot σ H' s'/\VY u o/\Q o H') X.xe s
abbrev De:TO:=λ_ H Q=>Q U_ H
inductive Acd (Q:(Option Int->Hp->Prop))(x:V)(H1:Hp):Prop
 |mk (i:_)(_:x= .int i)(_:Q (u_ i) H1)
abbrev AcH (t:TE):TO:=λσ H Q=>t σ H λx H1=>Acd Q x H1
def CQ {ns:oj Int}:∀{us:oj o6},iE (ns.map V.int) us->GJ us ns:=by
 induction ns with
 |nil=>intro us r;rw[Uy,0] at r;exact .nil|cons n ns U=>
  intro us r;rw[uA] at r;cases r with
  |cons Z r2=>
   erw[Z,t,e];subst e;exact .cons n t (U r2)
section
variable {X:Cx}{e:Expr}{te:TE}{lo hi:om Expr}{tl th:TO}{pos p2:Pos}
def yi:PO X U_ De:=by
 rw[2,Q,I,h];rw[tO];exact uC (U_,H,I,.none,h)
def yf (h:PE X e te):PO X (u_ e) (AcH te):=by
 rw[2,Q,I,U];rw[RV];refine thn (h ot s σ H _ I U) λu s1 zq=>?_;erw[zq,x,H1,Z,r1,q1];erw[q1,i,rfl,q];erw[r1,t,rfl,<-(u_ i,H1,Z,.int i t,q)]
abbrev SlR (X:Cx)(r:V->om Int->om Int->Hp->VK->Prop):Prop:=
 ∀(ot:oj (o3×Obj)) (s:o7) (σ:St) (H:Hp) (x:V) (v vl vu:o6) (lo hi:om Int) (sl:o3) (Q:VK),#[I]->il x v->s.heap.IsSliceOf sl vl vu .none->VY vl lo->VY vu hi->r x lo hi H Q->
  ∃T id,HI (.type T) "__getitem__"=pure (u_ (.builtin id))/\s.TypeIs v T/\Ve #[X,X] X.A (VO v (-sl)) (EP X ot σ Q) X.xe s
def SlR.or {r r':V->om Int->om Int->Hp->VK->Prop}(h:SlR X r)(h':SlR X r'):SlR X (λx lo hi H Q=>r x lo hi H Q\/r' x lo hi H Q):=by
 rw[2,x,v,U,Z,lo,hi,sl,Q,I,rx,hs,pl,pu,q];rcases q with q|q
 .exact h ot s σ H x v U Z lo hi sl Q I rx hs pl pu q
 .exact h' ot s σ H x v U Z lo hi sl Q I rx hs pl pu q
abbrev tSl (r:V->om Int->om Int->Hp->VK->Prop)(te:TE)(tl th:TO):TE:=λσ H Q=>te σ H λx H1=>tl σ H1 λl H2=>th σ H2 λu H3=>r x l u H3 Q
def QK {r:V->om Int->om Int->Hp->VK->Prop}(hr:SlR X r)(he:PE X e te)(hl:PO X lo tl)(hu:PO X hi th):PE X (.Subscript e (.Slice lo hi U_ p2) pos) (tSl r te tl th):=by
 rw[2,Q,I,h];refine tD (thn (he ot s σ H _ I h) λv s1 zq=>?_);erw[zq,x,H1,I1,r1,q1];refine Fi (thn (hl ot s1 σ H1 _ I1 q1) λZ s2 ⟨l,H2,I2,pl,q2⟩=>thn (hu ot s2 σ H2 _ I2 q2) λvu U zq=>?_);erw[zq,u,H3,I3,pu,q3];rw[tO];refine uC ?_;let I4:Inv X ot σ H3 {U with heap:=U.heap.push {cls:= .type "slice",data:= .fields #[Z,vu,.none]}}:=I3.kept (t':=U.toks) λb ob q=>u9 _ q
 erw[hr ot {U with heap:=U.heap.push {cls:= .type "slice",data:= .fields #[Z,vu,.none]}} σ H3 x v Z vu l u #[0,U] Q I4 r1 (rK ..) pl pu q3,T,id,hT,ht,hg]
 show Ve #[X,X] X.A (HX e (.Slice lo hi U_ p2) v (.ref #[0,U])) (EP X ot σ Q) X.xe {U with heap:=U.heap.push {cls:= .type "slice",data:= .fields #[Z,vu,.none]}}
 exact Hx (ops:= [.ref #[0,U],v]) ht hT hg #[w]
abbrev nE (xs:oj V)(lo hi:om Int):oj V:=(xs.drop (HT.sIx ↑xs 0 lo)).take (HT.sIx ↑xs ↑xs hi-HT.sIx ↑xs 0 lo)
def XU (xs:oj V)(lo hi:om Int):↑(nE xs lo hi)<=↑xs:=by
 unfold nE;rw[uQ,vh];omega
inductive Aep (K:PySem.W.Frag)(x:V)(lo:Option Int)(hi:Option Int)(H:Hp)(Q:VK):Prop
 |mk (a:_)(xs:_)(_:x=-a)(_:SqT K H a xs)(_:¬(HT.sIx ↑xs 0 lo=0/\HT.sIx ↑xs ↑xs hi=↑xs))(_:∀p,H p=U_->Q (-p) (upd H p (.tup (nE xs lo hi))))
def AaR:SlR X (Aep X.K):=by
 rw[2,x,v,vl,vu,lo,hi,sl,Q,I,rx,hs,pl,pu,h];erw[h,a,xs,rfl,hx,hw,q];rw[rx,0];erw[I.tuple hx,its,r,Z,hz];let U:its.toArray.size=↑xs:=by rw[ur];exact r.length.symm
 rw[_,"tuple",_,PyProof.Rows.slot_tuple_getitem.lookup,Z.typeIs];refine HT.getItem_tuple_cut Z hs pl pu (by rwa[U]) ?_ (by rwa[U])
 rw[U];rw[_,.ref #[0,s],_,I.laid (t':=s.toks) (o:= .tup (nE xs lo hi)) (λb ob q=>u9 _ q) (uh _) ?_,1,q _ (I.hok.fresh (uh _))];exact(uY (XU xs lo hi) hz,_,(r.drop (HT.sIx ↑xs 0 lo)).take (HT.sIx ↑xs ↑xs hi-HT.sIx ↑xs 0 lo),Hk _ _)
inductive AcY (K:PySem.W.Frag)(x:V)(y:V)(H:Hp)(Q:VK):Prop
 |mk (a:_)(b:_)(xs:_)(ys:_)(_:x=-a)(_:y=-b)(_:SqT K H a xs)(_:SqT K H b ys)(_:xs≠ [])(_:↑xs+↑ys<=Vg)(_:(ys= []->Q (-a) H))(_:(ys≠ []->∀p,H p=U_->Q (-p) (upd H p (.tup (xs++ys)))))
variable {xs:oj V}{us:oj o6}
def iE.nil_iff (r:iE xs us):us= []↔xs= []:=by
 cases r with
 |nil=>simp|cons _ _=>simp
def O5:OpR X (VN .Add) (AcY X.K):=by
 rw[2,x,y,v,u,Q,I,rx,ry,h];erw[h,a,b,xs,ys,rfl,rfl,ha,hb,hx,hz,q1,q2];rw[rx,0];rw[ry,0];erw[I.tuple ha,its,Z,p1,_];erw[I.tuple hb,aa,U,p2,_];refine HT.cat_tup p1 p2 (λz=>hx (Z.nil_iff.mp z)) (λz=>(-a,H,I,1,q1 (U.nil_iff.mp z))) (λz=>?_) (by rwa[<-↑Z,<-↑U])
 rw[_,.ref #[0,s],_,I.laid (t':=s.toks) (o:= .tup (xs++ys)) (λb ob q=>u9 _ q) (uh _) ?_,1,q2 (λw=>z (U.nil_iff.mpr w)) _ (I.hok.fresh (uh _))];exact(by rwa[uw],_,Z.append U,Hk _ _)
end
abbrev ixN (n:Nat)(i:Int):om Nat:=if 0<=i then(if i<n then u_ i.toNat else U_) else if-(n:Int)<=i then u_ (i+n).toNat else U_
abbrev atI {α:Type}(xs:oj α)(i:Int):om α:=(ixN ↑xs i).bind λj=>xs[j]?
variable {n j:Nat}
def AB {i:Int}(h:ixN n i=u_ j):Hn i n=u_ j/\j<n/\ -(n:Int)<=i/\i<n:=by
 unfold ixN at h;by_cases h0:0<=i
 .rw[A6 h0] at h;by_cases h1:i<n
  .rw[A6 h1] at h;let e:i.toNat=j:=uL h;exact(by rw[TN h0 h1,e],(),(),h1)
  .rw[A4 h1,0] at h
 .rw[A4 h0] at h;by_cases h1: -(n:Int)<=i
  .rw[A6 h1] at h;let e:(i+n).toNat=j:=uL h;exact(by rw[TQ () h1,e],(),h1,())
  .rw[A4 h1,0] at h
def qau {α:Type}{xs:oj α}{i:Int}{v:α}(h:atI xs i=u_ v):∃j,Hn i ↑xs=u_ j/\xs[j]? =u_ v/\j<↑xs/\ -(↑xs:Int)<=i/\i<↑xs:=by
 unfold atI at h;cases e:ixN ↑xs i with
 |none=>rw[e,0] at h|some j=>
  rw[e] at h;erw[AB e,h1,h2,h3,h4,<-(j,h1,h,h2,h3,h4)]
def qy {α:Type}{xs:oj α}{v:α}(h:xs[j]? =u_ v):atI xs (j:Int)=u_ v:=by
 let U:j<↑xs:=(Ag.mp h).1;let e:ixN ↑xs (j:Int)=u_ j:=by
  unfold ixN;rw[A6 (),A6 ()];simp
 unfold atI;rw[e];exact h
def qal {α:Type}(xs:oj α)(v:α):atI (xs++ [v]) (-1)=u_ v:=by
 let U:↑(xs++ [v])=↑xs+1:=by simp
 let e:ixN ↑(xs++ [v]) (-1)=u_ ↑xs:=by
  unfold ixN;rw[U,A4 (),A6 ()]
  congr 1
  omega
 unfold atI;rw[e];show(xs++ [v])[↑xs]? =u_ v;simp
abbrev S3 (b:Expr):Prop:=∀o i,Ho b Vd o i=HH [o,i] (VO o i)
abbrev IxR (X:Cx)(r:R2):Prop:=
 ∀(value slice:Expr) (ot:oj (o3×Obj)) (s:o7) (σ:St) (H:Hp) (x y:V) (v u:o6) (Q:VK),#[I]->il x v->il y u->r x y H Q->
  Ho slice Vd v u=HH [v,u] (VO v u)->Ve #[X,X] X.A (HX value slice v u) (EP X ot σ Q) X.xe s
abbrev MtR (X:Cx)(id:String)(r:V->oj V->Hp->VK->Prop):Prop:=
 ∀(ot:oj (o3×Obj)) (s:o7) (σ:St) (H:Hp) (x:V) (xs:oj V) (v:o6) (us:oj o6) (Q:VK),#[I]->il x v->iE xs us->r x xs H Q->
  Ve #[X,X] X.A (call (.builtin id) (v::us)) (EP X ot σ Q) X.xe s
section
variable {X:Cx}{a b:Expr}{ta tb:TE}{pos:Pos}
def IxR.or {r r':R2}(h:IxR X r)(h':IxR X r'):IxR X (λx y H Q=>r x y H Q\/r' x y H Q):=by
 intro value slice ot s σ H x y v u Q I U Z q hs;rcases q with q|q
 .exact h value slice ot s σ H x y v u Q I U Z q hs
 .exact h' value slice ot s σ H x y v u Q I U Z q hs
def qE {r:R2}(U:IxR X r)(ha:PE X a ta)(Z:PE X b tb)(hs:S3 b):PE X (.Subscript a b pos) (tOp r ta tb):=by
 rw[2,Q,I,h];exact tD (Adt ha Z I h λv u s2 x y H2 I2 rx ry q=>U a b ot s2 σ H2 x y v u Q I2 rx ry q (hs _ _))
inductive AdT (K:PySem.W.Frag)(x:V)(y:V)(H:Hp)(Q:VK):Prop
 |mk (p:_)(xs:_)(i:_)(v:_)(_:x=-p)(_:y= .int i)(_:SqL K H p xs)(_:atI xs i=u_ v)(_:Q v H)
inductive OQ (K:PySem.W.Frag)(x:V)(y:V)(H:Hp)(Q:VK):Prop
 |mk (p:_)(xs:_)(i:_)(v:_)(_:x=-p)(_:y= .int i)(_:SqT K H p xs)(_:atI xs i=u_ v)(_:Q v H)
inductive AdS (x:V)(y:V)(H:Hp)(Q:VK):Prop
 |mk (z:_)(i:_)(c:_)(_:x= !z)(_:y= .int i)(_:↑z<=Vg)(_:atI z.cps.toList i=u_ c)(_:Q (.str ⟨#[c]⟩) H)
def QP:IxR X (AdT X.K):=by
 intro value slice ot s σ H x y v u Q I rx ry h hs;erw[h,p,xs,i,z,rfl,rfl,hq,he,q];rw[rx,0];erw[ry,t,rfl];erw[I.list hq,its,r,pl,hz];erw[qau he,j,h1,h2,h3,h4,h5];erw[r.get h2,w,ew,U];let hl:=↑r;let hn:=wl;let fin:EP X ot σ Q w s:=(z,H,I,U,q);by_cases h0:0<=i
 .let Z:i.toNat=j:=by
   rw[TN h0 h5] at h1;exact uL h1
  exact item_listR pl.isList h0 () (by rw[Z];simpa using ew) fin hs
 .let Z:(i+(its.toArray.size:Int)).toNat=j:=by
   rw[TQ () h4] at h1
   rw[ur,<-hl];exact uL h1
  exact rp (x:=w) pl.isList.typeIs slot_list_getitem.lookup
   (wpAny_getItem_list_neg (Q:=λr s'=>r=w/\EP X ot σ Q r s') pl.isList () (by rw[ur]<;>omega) () (by rw[Z];simpa using ew) [1:fin]) hs
def qB:IxR X (OQ X.K):=by
 intro value slice ot s σ H x y v u Q I Z ry h hs;erw[h,p,xs,i,z,rfl,rfl,hq,he,q];rw[Z,0];erw[ry,t,rfl];erw[I.tuple hq,its,r,pl,hz];erw[qau he,j,h1,h2,h3,h4,h5];erw[r.get h2,w,ew,U];let hl:=↑r;let hn:=wl;let fin:EP X ot σ Q w s:=(z,H,I,U,q);exact rp (x:=w) pl.typeIs slot_tuple_getitem.lookup
  (getItem_tuple (j:=j) (Q:=λr s'=>r=w/\EP X ot σ Q r s') pl () () (by rwa[ur,<-hl]) (by simpa using ew) [1:fin]) hs
def BM:IxR X AdS:=by
 intro value slice ot s σ H x y v u Q I U Z h hs;erw[h,z,i,c,rfl,rfl,hz,he,q];erw[U,t,rfl];erw[Z,t',rfl];erw[qau he,j,h1,h2,h3,h4,h5];let hl:↑z.cps.toList=↑z:=by simp[G7]
 rw[hl] at h1 h4 h5;let hn:=wl;exact Hx (vY s z t) slot_str_getitem.lookup (getItem_str (c:=c) (by
  let e1:decide (i< -(2^63:Int))=false:=ud ()
  let e2:decide (i≥2^63)=false:=ud ()
  rw[e1,e2,Rz]) (by rw[h1];simpa using h2) (.str ⟨#[c]⟩,H,I.tok _,⟨0⟩,q)) hs
abbrev rIx (K:o0):R2:=λx y H Q=>AdT K x y H Q\/OQ K x y H Q\/AdS x y H Q
def zB:IxR X (rIx X.K):=QP.or (qB.or BM)
def CF (its:oj o6)(n j:Nat)(u:o6):Hm (·.setIfInBounds j u) {cls:= .type "list",data:= .seq its.toArray n}={cls:= .type "list",data:= .seq (its.set j u).toArray n}:=by
 simp[Hm]
def Inv.lst {ot:oj (o3×Obj)}{σ:St}{H:Hp}{s:o7}{p:o3}{xs:oj V}(I:#[I])(h:H p=u_ (.lst xs)):
  ∃(its:oj o6) (n:Nat),iE xs its/\s.heap.get? p=u_ {cls:= .type "list",data:= .seq its.toArray n}/\↑xs<=sizeLine:=by
 erw[I.hok p _ h,z,its,n,r,e,<-(its,n,r,e,z)]
def Inv.lstUpd {ot:oj (o3×Obj)}{σ:St}{H:Hp}{s:o7}{p:o3}{xs ys:oj V}{its its':oj o6}{n U:Nat}{f:Obj->Obj}(I:#[I])(h:H p=u_ (.lst xs))
  (ho:s.heap.get? p=u_ {cls:= .type "list",data:= .seq its.toArray n}) (Z:f {cls:= .type "list",data:= .seq its.toArray n}={cls:= .type "list",data:= .seq its'.toArray U}) (r:iE ys its') (hz:↑ys<=Vg) (t:Nat) (ht:0<t:=by ac_rfl):
  Inv X ot σ (upd H p (.lst ys)) {s with heap:=s.heap.update p f,toks:=t}:=by
 let e:(s.heap.update p f).get? p=u_ {cls:= .type "list",data:= .seq its'.toArray U}:=by
  rw[tT f ho (by rw[Z]<;>rfl),Z]
 refine I.write (x:=p) (e:=p) (by rw[h];trivial) (.inl rfl) (λb u hb q=>(T2 _ _ (U1 hb)).trans q) [_:e] ?_
 exact(hz,its',U,r,e)
inductive AcT (o:V)(i:V)(v:V)(H:Hp)(Q:(Hp->Prop)):Prop
 |mk (p:_)(xs:_)(k:_)(j:_)(_:o=-p)(_:i= .int k)(_:H p=u_ (.lst xs))(_:ixN ↑xs k=u_ j)(_:Q (upd H p (.lst (xs.set j v))))
def Bh:Ad7 X AcT:=by
 rw[2,o,i,v,ov,iv,u,Q,I,ro,ri,rv,h];erw[h,p,xs,k,j,rfl,rfl,hp,hj,q];rw[ro,0];erw[ri,t,rfl];erw[I.lst hp,its,n,r,U,hz];erw[AB hj,h1,h2,h3,h4];let Z:=↑r;let hn:=wl;let I':Inv X ot σ (upd H p (.lst (xs.set j v))) {s with heap:=s.heap.update p (Hm (·.setIfInBounds j u))}:=
  I.lstUpd hp U (CF its n j u) (r.set rv j) (by rwa[rD]) s.toks
 by_cases h0:0<=k
 .let hk:k.toNat=j:=by
   rw[TN h0 h4] at h1;exact uL h1
  exact PySem.W.ki_setAt U h0 () (by rwa[ur,<-Z]) (by rw[hk];exact[_:I':q])
 .let hk:(k+(its.toArray.size:Int)).toNat=j:=by
   rw[TQ () h3] at h1
   rw[ur,<-Z];exact uL h1
  exact PySem.W.ki_setBack U () (by rwa[ur,<-Z]) () (by rw[hk];exact[_:I':q])
def nU (lo hi:om Int)(n:Nat):(gV lo hi U_ n).1=((HT.sIx n 0 lo:Nat):Int)/\(gV lo hi U_ n).2.1=((HT.sIx n n hi:Nat):Int)/\(gV lo hi U_ n).2.2=1:=by
 rw[_,?_,?_,1]
 .cases lo with
  |none=>simp[gV,HT.sIx]|some i=>
   simp![gV,HT.sIx,Rm,show GT.gt (1:Int) 0 by decide,if_true]
   by_cases h:i<0
   .simp![h,if_true]<;>omega
   .simp![h,if_false]<;>omega
 .cases hi with
  |none=>simp[gV,HT.sIx]|some i=>
   simp![gV,HT.sIx,Rm,show GT.gt (1:Int) 0 by decide,if_true]
   by_cases h:i<0
   .simp![h,if_true]<;>omega
   .simp![h,if_false]<;>omega
def KW (its:oj o6)(lo hi:om Int):TX its.toArray lo hi U_=((its.drop (HT.sIx ↑its 0 lo)).take (HT.sIx ↑its ↑its hi-HT.sIx ↑its 0 lo)).toArray:=by
 erw[nU lo hi its.toArray.size,h1,h2,h3];unfold TX;rw[h1,h2,h3];simp![sliceRange_one,pick_run,ur]<;>rfl
inductive Aeq (K:PySem.W.Frag)(x:V)(lo:Option Int)(hi:Option Int)(H:Hp)(Q:VK):Prop
 |mk (a:_)(xs:_)(_:x=-a)(_:SqL K H a xs)(_:∀p,H p=U_->Q (-p) (upd H p (.lst (nE xs lo hi))))
def qaK:SlR X (Aeq X.K):=by
 rw[2,x,v,vl,vu,lo,hi,sl,Q,I,rx,hs,pl,pu,h];erw[h,a,xs,rfl,hx,q];rw[rx,0];erw[I.list hx,its,r,Z,hz];let U:=↑r;rw[_,"list",_,slot_list_getitem.lookup,Z.isList.typeIs];refine Re Z.isList hs pl pu .none (by simp) ?_ (by rw[ur]<;>omega)
 rw[KW,<-U];rw[_,.ref #[0,s],_,I.laid (t':=s.toks) (o:= .lst (nE xs lo hi)) (λb ob q=>u9 _ q) (uh _) ?_,1,q _ (I.hok.fresh (uh _))];exact(uY (XU xs lo hi) hz,_,(0),(r.drop (HT.sIx ↑xs 0 lo)).take (HT.sIx ↑xs ↑xs hi-HT.sIx ↑xs 0 lo),uD _ rfl)
abbrev ZE:V->Bool
 | .non=>v_| .bl _=>v_| .int _=>v_| .str _=>v_|_=>Vd
abbrev eqV:V->V->Bool
 | .non,.non=>v_| .bl a,.bl b=>a==b| .bl a,.int b=>(if a then 1 else 0)==b| .int a,.bl b=>a==(if b then 1 else 0)| .int a,.int b=>a==b| .str a,.str b=>a==b|_,_=>Vd
variable {A:oh}{s:o7}{y:V}{u:o6}
def AbR {x:V}{v:o6}(Z:il y u)(U:il x v)(fy:ZE y=v_)(fx:ZE x=v_):VJ A s u v (eqV y x):=by
 cases y with
 |non=>
  rw[Z,0];cases x with
  |non=>rw[U,0];exact Tl _|bl b=>rw[U,0];exact Pe b|int b=>erw[U,t,rfl,<-Fv b t]|str b=>erw[U,t,rfl,<-rS b t]|_=>exact A8 (show Vd=v_ from fx) uc
 |bl a=>
  rw[Z,0];cases x with
  |non=>rw[U,0];exact pI a|bl b=>rw[U,0];exact Ra a b|int b=>erw[U,t,rfl,<-pH a b t]|str b=>erw[U,t,rfl,<-pE a b t]|_=>exact A8 (show Vd=v_ from fx) uc
 |int a=>
  erw[Z,t',rfl];cases x with
  |non=>rw[U,0];exact Fk a t'|bl b=>rw[U,0];exact pA a t' b|int b=>erw[U,t,rfl,<-rV a t' b t]|str b=>erw[U,t,rfl,<-Fd a t' b t]|_=>exact A8 (show Vd=v_ from fx) uc
 |str a=>
  erw[Z,t',rfl];cases x with
  |non=>rw[U,0];exact ph a t'|bl b=>rw[U,0];exact pP a t' b|int b=>erw[U,t,rfl,<-tV a t' b t]|str b=>erw[U,t,rfl,<-pc a t' b t]|_=>exact A8 (show Vd=v_ from fx) uc
 |_=>exact A8 (show Vd=v_ from fy) uc
abbrev eqU (x:V)(u:o6):Bool:=match u with
 | .none=>eqV .non x| .bool b=>eqV (.bl b) x| .int i _=>eqV (.int i) x| .str z _=>eqV (!z) x|_=>Vd
def Ny {x:V}(r:il y u)(f:ZE y=v_):eqU x u=eqV y x:=by
 cases y with
 |non=>rw[r,0];rfl|bl b=>rw[r,0];rfl|int i=>erw[r,t,rfl];rfl|str z=>erw[r,t,rfl];rfl|_=>exact A8 (show Vd=v_ from f) uc
def WU {x:V}:∀{xs:oj V}{us:oj o6},iE xs us->xs.all ZE=v_->us.any (eqU x)=xs.any λy=>eqV y x
 |_,_,.nil,_=>rfl|y::xs,u::us,.cons r t,f=>by
  rw[vN,uE] at f;rw[UH,UH,Ny r f.1,WU t f.2]
def zq {A:oh}{s:o7}{x:V}{v:o6}(Z:il x v)(fx:ZE x=v_):∀{xs:oj V}{us:oj o6},iE xs us->xs.all ZE=v_->∀u>us,VJ A s u v (eqU x u)
 |_,_,.nil,_=>λu U=>by rw[U,0]|y::xs,u::us,.cons r t,f=>λu' U=>by
  rw[vN,uE] at f;rcases Ab.mp U with rfl|U
  .rw[Ny r f.1];exact AbR r Z f.1 fx
  .exact zq Z fx t f.2 u' U
abbrev inV (x:V)(xs:oj V):Bool:=xs.any λy=>eqV y x
inductive rIn (K:PySem.W.Frag)(neg:Bool)(x:V)(y:V)(H:Hp)(Q:VK):Prop
 |mk (p:_)(xs:_)(_:y=-p)(_:(SqL K H p xs\/SqT K H p xs))(_:ZE x=v_)(_:xs.all ZE=v_)(_:Q (.bl (if neg then !(inV) x xs else inV x xs)) H)
def QV:OpR X (Vm .In) (rIn X.K Vd):=by
 rw[2,x,y,v,u,Q,I,rx,ry,h];erw[h,p,xs,rfl,U,fx,fs,q];rw[ry,0];rcases U with U|U
 .erw[I.list U,its,r,pl,hz];refine rZ (eqU x) pl.isList (λw Z=>zq rx fx r fs w (by simpa using Z)) (.bl _,H,I,1,?_)
  rw[show its.toArray.any (eqU x)=its.any (eqU x) by simp,WU r fs]
  exact q
 .erw[I.tuple U,its,r,pl,hz];refine FA (eqU x) pl (λw Z=>zq rx fx r fs w (by simpa using Z)) (.bl _,H,I,1,?_)
  rw[show its.toArray.any (eqU x)=its.any (eqU x) by simp,WU r fs]
  exact q
def xg:OpR X (Vm .NotIn) (rIn X.K v_):=by
 rw[2,x,y,v,u,Q,I,rx,ry,h];erw[h,p,xs,rfl,U,fx,fs,q];rw[ry,0];rcases U with U|U
 .erw[I.list U,its,r,pl,hz];refine SeqAt.notIn_listAt (eqU x) pl.isList (λw Z=>zq rx fx r fs w (by simpa using Z)) (.bl _,H,I,1,?_)
  rw[show its.toArray.any (eqU x)=its.any (eqU x) by simp,WU r fs]
  exact q
 .erw[I.tuple U,its,r,pl,hz];refine SeqAt.notIn_tupleAt (eqU x) pl (λw Z=>zq rx fx r fs w (by simpa using Z)) (.bl _,H,I,1,?_)
  rw[show its.toArray.any (eqU x)=its.any (eqU x) by simp,WU r fs]
  exact q
def oJ:OpR X (Vm .NotIn) (λx y H Q=>∃i j,x= .str i/\y= .str j/\Q (.bl (!(!(Hf j i 0 ↑j 1).isEmpty))) H):=by
 rw[2,x,y,v,u,Q,I,U,Z,h];erw[h,i,j,rfl,rfl,q];erw[U,t,rfl];erw[Z,t',rfl,<-notIn_str (.bl _,H,I,1,q)]
def qG:jg X (.builtin "len") (λxs H Q=>∃p ys,xs= [-p]/\(SqL X.K H p ys\/SqT X.K H p ys)/\Q (.int ↑ys) H):=by
 rw[2,xs,us,Q,I,r,h];erw[h,p,ys,rfl,Z,q];erw[xn r,u,rfl,rx];rw[rx,0];let hn:=wl;rcases Z with Z|Z
 .erw[I.list Z,its,r',pl,hz];let U:=↑r';exact FE pl.isList (by simp![ur]<;>omega) (.int ↑ys,H,I.tok _,⟨s.toks+1,by rw[ur,U]⟩,q)
 .erw[I.tuple Z,its,r',pl,hz];let U:=↑r';exact len_tuple pl (by simp![ur]<;>omega) (.int ↑ys,H,I.tok _,⟨s.toks+1,by rw[ur,U]⟩,q)
def wk:jg X (.builtin "len") (λxs H Q=>∃z,xs= [!z]/\↑z<=Vg/\Q (.int ↑z) H):=by
 rw[2,xs,us,Q,I,r,h];erw[h,z,rfl,hz,q];erw[xn r,u,rfl,t,rfl];let hn:=wl;exact len_str () (.int ↑z,H,I.tok _,⟨0⟩,q)
def sK:jg X (.type "list") (λxs H Q=>∃p ys,xs= [-p]/\(SqL X.K H p ys\/SqT X.K H p ys)/\∀l,H l=U_->Q (-l) (upd H l (.lst ys))):=by
 rw[2,xs,us,Q,I,r,h];erw[h,p,ys,rfl,Z,q];erw[xn r,u,rfl,rx];rw[rx,0];let fin:∀(its:oj o6),iE ys its->↑ys<=Vg->∀(h':o8) (U:Nat),(∀b o',s.heap.get? b=u_ o'->h'.get? b=u_ o')->
   h'.get? #[0,s]=u_ {cls:= .type "list",dict:=U_,data:= .seq its.toArray U,slots:= #[]}->EP X ot σ Q (.ref #[0,s]) {s with heap:=h'}:=λits r' hz h' U kp e=>
  (.ref #[0,s],_,I.laid (t':=s.toks) kp (uh _) (show yp X.prog X.w _ h' _ (.lst ys) from(hz,its,U,r',e)),1,q _ (I.hok.fresh (uh _)))
 rcases Z with Z|Z
 .erw[I.list Z,its,r',pl,hz];let aa:=↑r';erw[pl.isList,o,ho,hc,n,hd,<-Rr p (.inl rfl) ho hc hd (λh' U kp e=>fin its r' hz h' U kp e) (by simp![ur]<;>omega)]
 .erw[I.tuple Z,its,r',pl,hz];let aa:=↑r';erw[pl,o,ho,hc,n,hd,<-Rr p (.inr rfl) ho hc hd (λh' U kp e=>fin its r' hz h' U kp e) (by simp![ur]<;>omega)]
def Qk:jg X (.type "tuple") (λxs H Q=>∃p ys,xs= [-p]/\((SqL X.K H p ys/\∀l,H l=U_->Q (-l) (upd H l (¬ys)))\/(SqT X.K H p ys/\Q (-p) H))):=by
 rw[2,xs,us,Q,I,r,h];erw[h,p,ys,rfl,h];erw[xn r,u,rfl,rx];rw[rx,0];rcases h with⟨U,q⟩|⟨U,q⟩
 .erw[I.list U,its,r',pl,hz];let Z:=↑r';refine call_tuple_list pl.isList (λh' kp=>?_) (by simp![ur]<;>omega)
  let I1:Inv X ot σ H {s with heap:=h'}:=I.kept (t':=s.toks) kp
  let I2:Inv X ot σ (upd H h'.objs.size (¬ys)) {s with heap:=h'.push {cls:= .type "tuple",data:= .seq its.toArray}}:=
   I1.laid (t':=s.toks) (λb o e=>u9 _ e) (uh _) (show yp X.prog X.w _ _ _ (¬ys) from(hz,its,r',Hk _ _))
  exact(-h'.objs.size,_,I2,1,q _ (I1.hok.fresh (uh _)))
 .erw[I.tuple U,its,r',pl,hz,<-call_tuple_same pl (-p,H,I,1,q)]
abbrev tyV (K:o0)(T:String)(x:V)(H:Hp):Prop:=match x with
 | .str _=>T="str"| .int _=>T="int"| .ref p=>(T="list"/\∃xs,SqL K H p xs)\/(T="tuple"/\∃o,K.lookup p=u_ o/\o.cls= .type "tuple"/\o.dict=U_)\/
   (T="dict"/\((∃kvs,H p=u_ (.dK kvs))\/∃kvs,H p=u_ (.dT kvs)))\/(T="set"/\∃S n,H p=u_ (.set S n))
 |_=>False
variable {ot:oj (o3×Obj)}{σ:St}{H:Hp}
def MJ {T:String}{x:V}{v:o6}(I:#[I])(r:il x v)(ty:tyV X.K T x H):
  s.TypeIs v T/\∀a,v= .ref a->∃ob,s.heap.get? a=u_ ob/\ob.dict=none:=by
 cases x with
 |str z=>
  erw[r,t,rfl];rw[show T="str" from ty,0]
  exact[vY s z t:λ_ e=>nomatch e]
 |int i=>
  erw[r,t,rfl];rw[show T="int" from ty,0]
  exact[typeIs_int s i t:λ_ e=>nomatch e]
 |ref p=>
  rw[r,0];rcases ty with⟨rfl,xs,Z⟩|⟨rfl,o,U,hc,hd⟩|⟨rfl,U⟩|⟨rfl,S,n,U⟩
  .erw[I.list Z,its,_,pl,_];rw[_,pl.isList.typeIs,λa e=>?_];rw[e,0];erw[pl,o,n,e,c,hd,_,<-[o:e:hd]]
  .rw[_,[o:I.kIn p o U:hc],λa e=>?_];rw[e,0];exact[o:I.kIn _ o U:hd]
  .let z:∃o,s.heap.get? p=u_ o/\o.ExactDict:=by
    rcases U with⟨kvs,U⟩|⟨kvs,U⟩
    .erw[I.hok p _ U,_,_,_,_,o,_,_,e,ex,_,<-[o:e:ex]]
    .erw[I.hok p _ U,_,_,_,_,o,_,_,e,ex,_,<-[o:e:ex]]
   erw[z,o,e,ex];rw[_,[o:e:ex.1],λa e2=>?_];rw[e2,0];exact[o:e:ex.2.1]
  .erw[I.hok p _ U,o,_,_,_,e,ex,_];rw[_,[o:e:ex.1],λa e2=>?_];rw[e2,0];exact[o:e:ex.2.1]
 |_=>exact Vw ty
abbrev Aej (K:o0)(T:String)(r:V->oj V->Hp->VK->Prop)(to:TE):TE:=λσ H Q=>to σ H λx H1=>tyV K T x H1/\r x [] H1 Q
abbrev tBM (K:o0)(T:String)(r:V->oj V->Hp->VK->Prop)(to:TE)(t:TA):TE:=λσ H Q=>to σ H λx H1=>tyV K T x H1/\t σ H1 λxs H2=>r x xs H2 Q
variable {o e:Expr}{es:oj Expr}{to:TE}{t:TA}{name:Str}{apos cpos:Pos}{T id:String}{r:V->oj V->Hp->VK->Prop}
def MY (pa:Tb T)(slot:Slot T name id)(aa:HY (.builtin id)=pure (.type "method_descriptor"))(hm:MtR X id r)(ho:PE X o to)
  (U:Gh o name X.env (eval o X.env)=eval o X.env) (Z:(apos.endLine==cpos.line)=v_):PE X (.Call (.Attribute o name apos) [] [] cpos) (Aej X.K T r to):=by
 rw[2,Q,I,h];refine FR U Z (thn (ho ot s σ H _ I h) λv s1 zq=>?_);erw[zq,x,H1,I1,r1,ty,q1];erw[MJ I1 r1 ty,h1,h2,<-(T,id,pa,slot,aa,h1,h2,vU rfl (PySem.evalArgs_none (hm ot s1 σ H1 x [] v [] Q I1 r1 .nil q1)))]
def YS (pa:Tb T)(slot:Slot T name id)(ad:HY (.builtin id)=pure (.type "method_descriptor"))(hm:MtR X id r)(ho:PE X o to)(ha:PA X (e::es) t)
  (Z:Gh o name X.env (eval o X.env)=eval o X.env:=by rfl)
  (ac:((Vp cpos (Vi (e::es) X.env)).all (λx=> !(x).1)&&(Gj cpos (Gf [] X.env)).all (λx=>x.1.isSome)
   &&decide (↑(e::es)+↑([]:oj GD)+(if([]:oj GD).isEmpty then 0 else 1)<30))=true:=by rfl)
  (aa:(apos.endLine==cpos.line)=true:=by rfl) (hs:Vi (e::es) X.env=(Vd,eval e X.env)::Vi es X.env:=by rfl) (U:(Vp cpos (Vi es X.env)).any (·.1)=false:=by rfl):
  PE X (.Call (.Attribute o name apos) (e::es) [] cpos) (tBM X.K T r to t):=by
 rw[2,Q,I,h];refine wpAny_Call_method_late Z ac aa rfl (thn (ho ot s σ H _ I h) λv s1 zq=>?_);erw[zq,x,H1,I1,r1,ty,q1];erw[MJ I1 r1 ty,h1,h2];rw[_,T,id,pa,slot,ad,h1,h2];let hA:=ha cpos ot s1 σ H1 _ I1 q1;rw[hs] at hA⊢;refine vU (by show(Vd||(Vp cpos (Vi es X.env)).any (·.1))=Vd;rw[U]<;>rfl) (Uf ?_)
 exact thn hA λus s2 ⟨vs,H2,I2,r2,q2⟩=>hm ot s2 σ H2 x vs v us Q I2 r1 r2 q2
end
abbrev MtM (X:Cx)(id:String)(r:V->oj V->Hp->VK->Prop):Prop:=
 ∀(ot:oj (o3×Obj)) (s:o7) (σ:St) (H:Hp) (x:V) (xs:oj V) (v:o6) (us:oj o6) (Q:VK),#[I]->il x v->iE xs us->r x xs H Q->
  Ve #[X,X] X.A (call (.builtin id) (v::us)) (EP X ot σ Q) X.xe s
def iE.one:∀{x:V}{us:oj o6},iE [x] us->∃u,us= [u]/\il x u
 |_,_,.cons r .nil=>[0:r]
def iE.zero:∀{us:oj o6},iE [] us->us= []
 |_,.nil=>rfl
variable {xs:oj V}{us:oj o6}
def iE.dropLast (h:iE xs us):iE xs.dropLast us.dropLast:=by
 induction h with
 |nil=>exact .nil|cons r t U=>
  cases t with
  |nil=>exact .nil|cons q t'=>exact .cons r U
def iE.eraseIdx:∀{xs:oj V}{us:oj o6} (i:Nat),iE xs us->iE (xs.eraseIdx i) (us.eraseIdx i)
 |_,_,_,.nil=> .nil|_,_,0,.cons _ t=>t|_,_,i+1,.cons r t=> .cons r (iE.eraseIdx i t)
def CT {α:Type}(l:oj α):l.eraseIdx (↑l-1)=l.dropLast:=by
 induction l with
 |nil=>rfl|cons a r U=>
  cases r with
  |nil=>rfl|cons b r=>
   let e:↑(a::b::r)-1=(↑(b::r)-1)+1:=by
    let h1:↑(a::b::r)=↑r+2:=rfl;let h2:↑(b::r)=↑r+1:=rfl;omega
   rw[e,List.eraseIdx_cons_succ,U]
   all_goals rfl
def oS {α:Type}:∀(l:oj α) (i:Nat),↑(l.eraseIdx i)<=↑l
 | [],_=>uh _|_::_,0=>Ue _|_::r,i+1=>Va (oS r i)
section
variable {X:Cx}{ot:oj (o3×Obj)}{σ:St}{H:Hp}{s:o7}{l b:o3}{xs ys zs:oj V}
def Inv.lset {its its':oj o6}{n:Nat}{f:Array o6->Array o6}{t':Nat}(I:#[I])(U:H l=u_ (.lst xs))
  (e:s.heap.get? l=u_ {cls:= .type "list",data:= .seq its.toArray n}) (Z:f its.toArray=its'.toArray) (hv:iE ys its') (hz:↑ys<=Vg) (ht:0<t':=by ac_rfl):
  Inv X ot σ (upd H l (.lst ys)) {s with heap:=s.heap.update l (Hm f),toks:=t'}:=by
 let q:=PySem.IsL.update e f;rw[Z] at q;refine I.write (x:=l) (e:=l) (by rw[U];exact trivial) (.inl rfl) (λb' u hb hu=>(T2 s.heap (Hm f) (U1 hb)).trans hu) [_:q] ?_
 exact(hz,its',_,hv,q)
variable {its:oj o6}{t':Nat}
def Inv.lnew (I:#[I])(U:iE ys its)(hz:↑ys<=Vg)(Z:0<t':=by ac_rfl):
  Inv X ot σ (upd H #[0,s] (.lst ys)) {s with heap:=s.heap.push {cls:= .type "list",data:= .seq its.toArray},toks:=t'}:=
 I.laid (λ_ _ q=>u9 _ q) (uh _) (hz,its,(0),U,uD _ rfl)
def Inv.fresh (I:#[I]):H #[0,s]=none:=I.hok.fresh (uh _)
def Inv.lstM (I:#[I])(U:H l=u_ (.lst xs)):↑xs<=Vg/\∃(its:oj o6) (n:Nat),iE xs its/\↑xs=↑its/\s.heap.get? l=u_ {cls:= .type "list",data:= .seq its.toArray n}:=by
 erw[I.hok l _ U,z,its,n,r,e,<-(z,its,n,r,↑r,e)]
def L5 (h:n<=Vg):TK n=false:=by
 unfold TK;exact ud ()
end
section
variable {X:Cx}
inductive OT (x:V)(vs:List V)(H:Hp)(Q:VK):Prop
 |mk (l:_)(xs:_)(y:_)(_:x=-l)(_:vs= [y])(_:H l=u_ (.lst xs))(_:↑xs<Vg)(_:Q .non (upd H l (.lst (xs++ [y]))))
def Y7:MtM X "list.append" OT:=by
 rw[2,x,vs,v,us,Q,I,Z,rv,h];erw[h,l,xs,y,rfl,rfl,U,hz,q];rw[Z,0];erw[rv.one,u,rfl,ru];erw[I.lstM U,z,its,n,r,hl,e];refine vP F.slot_list_append [_:e:1] F.entry_list_append (F.args_list_append_2 _ _) (PySem.list_append l its.toArray n u (by rw[ur];omega)) [e:?_]
 rw[_,.non,_,I.lset (its':=its++ [u]) U e (by simp) (r.append (.cons ru .nil)) ?_,1,q]
 rw[uw,U8];omega
inductive OS (x:V)(vs:List V)(H:Hp)(Q:VK):Prop
 |mk (l:_)(b:_)(xs:_)(zs:_)(_:x=-l)(_:vs= [-b])(_:H l=u_ (.lst xs))(_:H b=u_ (.lst zs))(_:↑xs+↑zs<=Vg)(_:Q .non (upd H l (.lst (xs++zs))))
def oP:MtM X "list.extend" OS:=by
 rw[2,x,vs,v,us,Q,I,rx,rv,h];erw[h,l,b,xs,zs,rfl,rfl,hH,hB,hz,q];rw[rx,0];erw[rv.one,u,rfl,ru];rw[ru,0];erw[I.lstM hH,z,its,n,r,hl,e];erw[I.lstM hB,z2,U,n2,r2,aa,e2];let hsz:its.toArray.size+U.toArray.size<=sizeLine:=by rw[ur,ur];omega
 let Z:¬(!(its.toArray.isEmpty)&&TK (its.toArray.size+U.toArray.size))=true:=by
  rw[L5 hsz,Tv];exact uc
 refine vP F.slot_list_extend [_:e:1] F.entry_list_extend (F.args_list_extend_2 _ _)
  (pG l its.toArray n b U.toArray n2 Z (by rw[ur];omega) ()) [e:e2:?_]
 rw[_,.non,_,I.lset (its':=its++U) hH e (by simp) (r.append r2) ?_,1,q]
 rw[uw];omega
inductive Aer (x:V)(vs:List V)(H:Hp)(Q:VK):Prop
 |mk (l:_)(xs:_)(y:_)(_:x=-l)(_:vs= [])(_:H l=u_ (.lst xs))(_:xs[↑xs-1]? =u_ y)(_:Q y (upd H l (.lst xs.dropLast)))
def Ng:MtM X "list.pop" Aer:=by
 rw[2,x,vs,v,us,Q,I,rx,rv,h];erw[h,l,xs,y,rfl,rfl,hH,hy,q];rw[rx,0];let U:=rv.zero;subst U;erw[I.lstM hH,z,its,n,r,hl,e];erw[r.get hy,u,hu,ru];let Z:its.toArray[its.toArray.size-1]? =u_ u:=by
  show its.toArray[↑its-1]? =u_ u;rwa[<-Uz,<-hl]
 refine vP F.slot_list_pop [_:e:1] F.entry_list_pop (F.args_list_pop_1 _) (pT l its.toArray n u Z (by rw[ur];omega)) [e:?_]
 rw[_,y,_,I.lset (its':=its.dropLast) hH e ?_ r.dropLast ?_,ru,q]
 .show its.toArray.eraseIdxIfInBounds (its.toArray.size-1)=its.dropLast.toArray;rw[ur,Rf,CT]
 .rw[List.length_dropLast];omega
inductive Aa0 (x:V)(vs:List V)(H:Hp)(Q:VK):Prop
 |mk (l:_)(xs:_)(i:_)(k:_)(y:_)(_:x=-l)(_:vs= [.int i])(_:H l=u_ (.lst xs))(_: -(2^63)<=i)(_:i<2^63)(_:Hn i ↑xs=u_ k)(_:xs[k]? =u_ y)(_:Q y (upd H l (.lst (xs.eraseIdx k))))
def BE:MtM X "list.pop" Aa0:=by
 rw[2,x,vs,v,us,Q,I,rx,rv,h];erw[h,l,xs,i,k,y,rfl,rfl,Z,h1,h2,hk,hy,q];rw[rx,0];erw[rv.one,u,rfl,ru];erw[ru,t,rfl];erw[I.lstM Z,z,its,n,r,hl,e];erw[r.get hy,w,hw,U];refine vP F.slot_list_pop [_:e:1] F.entry_list_pop (F.args_list_pop_2 _ _)
  (pD l its.toArray n i t k w (fitsIndex_both h1 h2) (by rwa[ur,<-hl]) (by rwa[<-Uz]) (by rw[ur];omega)) [e:?_]
 rw[_,y,_,I.lset (its':=its.eraseIdx k) Z e ?_ (r.eraseIdx k) ?_,U,q]
 .show its.toArray.eraseIdxIfInBounds k=(its.eraseIdx k).toArray;rw[Rf]
 .have:=oS xs k;omega
inductive Aey (x:V)(y:V)(H:Hp)(Q:VK):Prop
 |mk (l:_)(b:_)(xs:_)(zs:_)(_:x=-l)(_:y=-b)(_:H l=u_ (.lst xs))(_:H b=u_ (.lst zs))(_:↑xs+↑zs<=Vg)(_:∀p,H p=U_->Q (-p) (upd H p (.lst (xs++zs))))
def wN:OpR X (VN .Add) Aey:=by
 rw[2,x,y,v,u,Q,I,Z,ry,h];erw[h,l,b,xs,zs,rfl,rfl,hH,hB,hz,q];rw[Z,0];rw[ry,0];erw[I.lstM hH,z,its,n,r,hl,e];erw[I.lstM hB,z2,U,n2,r2,aa,e2];refine PySem.P.add_list e e2 ?_ (by rw[ur,ur];omega)
 let ea:its.toArray++U.toArray=(its++U).toArray:=by simp
 rw[ea];exact(.ref _,_,I.lnew (t':=s.toks) (r.append r2) (by rw[uw];omega),1,q _ I.fresh)
end
section
variable {prog:o9}{w:og}{A:oh}{E:o6->o7->Prop}{s:o7}
set_option maxRecDepth 100000 in
end
section
variable {κ:Type}[DecidableEq κ]
abbrev iP (kvs:oj (κ×V))(k:κ):om V:=(kvs.find? λkv=>decide (kv.1=k)).map (·.2)
abbrev lV (kvs:oj (κ×V))(k:κ)(v:V):oj (κ×V):=
 if(kvs.any λkv=>decide (kv.1=k))=v_ then kvs.map (λkv=>if kv.1=k then(kv.1,v) else kv) else kvs++ [(k,v)]
abbrev JS (kvs:oj (κ×V))(k:κ):oj (κ×V):=kvs.filter λkv=>decide (kv.1≠k)
def KP {k:κ}:iP ([]:oj (κ×V)) k=none:=rfl
def Q2 {p:κ×V}{r:oj (κ×V)}{k:κ}(e:p.1=k):iP (p::r) k=u_ p.2:=by simp[iP,vi,e]
def QR {p:κ×V}{r:oj (κ×V)}{k:κ}(e:¬p.1=k):iP (p::r) k=iP r k:=by simp[iP,vi,e]
def xO (k:κ):∀kvs:oj (κ×V),(kvs.any λkv=>decide (kv.1=k))=(iP kvs k).isSome
 | []=>rfl|p::r=>by
  rw[UH];by_cases e:p.1=k
  .simp![Q2 e,u8 e,Rx,Option.isSome_some]
  .rw[QR e,ud e,tL];exact xO k r
def AY (k j:κ)(y:V):∀kvs:oj (κ×V),iP (kvs.map λkv=>if kv.1=k then(kv.1,y) else kv) j=(iP kvs j).map λx=>if j=k then y else x
 | []=>rfl|p::r=>by
  let U:=AY k j y r;rw[uA];by_cases h:p.1=k
  .rw[A6 h];by_cases e:p.1=j
   .rw[Q2 (p:=(p.1,y)) e,Q2 e,Hy,A6 (e.symm.trans h)]
   .rw[QR (p:=(p.1,y)) e,QR e,U]
  .rw[A4 h];by_cases e:p.1=j
   .rw[Q2 (p:=p) e,Q2 e,Hy,A4 (λz=>h (e.trans z))]
   .rw[QR (p:=p) e,QR e,U]
def nQ (k j:κ)(y:V):∀kvs:oj (κ×V),iP kvs k=U_->iP (kvs++ [(k,y)]) j=if j=k then u_ y else iP kvs j
 | [],_=>by
  by_cases e:k=j
  .rw[A6 e.symm];exact Q2 (p:=(k,y)) e
  .rw[A4 (λz=>e z.symm)];exact QR (p:=(k,y)) e
 |p::r,hn=>by
  rw[UN];let U:¬p.1=k:=λz=>by rw[Q2 z,0] at hn
  rw[QR U] at hn;let Z:=nQ k j y r hn;by_cases e:p.1=j
  .rw[Q2 e,Q2 e,A4 (λz=>U (e.trans z))]
  .rw[QR e,QR e,Z]
def zR (kvs:oj (κ×V))(k j:κ)(y:V):iP (lV kvs k y) j=if j=k then u_ y else iP kvs j:=by
 unfold lV;by_cases a:(kvs.any λkv=>decide (kv.1=k))=v_
 .rw[A6 a,AY];rw[xO] at a;by_cases e:j=k
  .erw[Option.isSome_iff_exists.mp a,x,U];rw[A6 e,e,U,Hy,A6 rfl]
  .rw[A4 e];cases iP kvs j with|none=>rfl|some x=>rw[Hy,A4 e]
 .rw[A4 a];refine nQ k j y kvs ?_;rw[xO] at a;cases q:iP kvs k with|none=>rfl|some x=>rw[q] at a;exact(a rfl).elim
def yA (kvs:oj (κ×V))(k:κ)(v:V):↑(lV kvs k v)<=↑kvs+1:=by
 unfold lV;split
 .rw[u7];omega
 .rw[uw,um,HW];omega
variable {kvs:oj (κ×V)}
def wH {k:κ}(v:V)(h:iP kvs k=U_):lV kvs k v=kvs++ [(k,v)]:=by
 unfold lV;rw[xO,h];exact A4 ()
def nC.isSome_eq {o:om V}{u:om o6}(r:nC o u):o.isSome=u.isSome:=by
 cases o with
 |none=>cases u with
  |none=>rfl|some _=>exact(show False from r).elim
 |some _=>cases u with
  |none=>exact(show False from r).elim|some _=>rfl
def nC.getD {o:om V}{u:om o6}{d:V}{d':o6}(r:nC o u)(rd:il d d'):il (o.getD d) (u.getD d'):=by
 cases o with
 |none=>cases u with
  |none=>exact rd|some _=>exact(show False from r).elim
 |some _=>cases u with
  |none=>exact(show False from r).elim|some _=>exact r
variable {vs:oj (κ×o6)}
def KV.val (r:KV kvs vs)(k:κ):nC (iP kvs k) (VQ vs k):=by
 unfold KV at r
 induction r with
 |nil=>exact VH| @cons p q ps qs h t ih=>
  erw[h,h1,h2];by_cases e:p.1=k
  .let U:q.1=k:=h1.symm.trans e;let b:VQ (q::qs) k=u_ q.2:=by simp[VQ,vi,U]
   rwa[Q2 e,b]
  .let U:¬q.1=k:=λz=>e (h1.trans z);let b:VQ (q::qs) k=VQ qs k:=by simp[VQ,vi,U]
   rw[QR e,b];exact ih
def KV.any (r:KV kvs vs)(k:κ):(kvs.any λkv=>decide (kv.1=k))=vs.any λkv=>decide (kv.1=k):=by
 unfold KV at r
 induction r with
 |nil=>rfl|cons h t U=>rw[UH,UH,U,h.1]
variable {y:V}{u:o6}
def KV.repl (r:KV kvs vs)(k:κ)(U:il y u):
  KV (kvs.map λkv=>if kv.1=k then(kv.1,y) else kv) (vs.map λkv=>if kv.1=k then(kv.1,u) else kv):=by
 unfold KV at r⊢
 induction r with
 |nil=>exact .nil| @cons p q ps qs h t ih=>
  rw[uA,uA];refine .cons ?_ ih;erw[h,h1,h2];by_cases e:p.1=k
  .rw[A6 e,A6 (h1.symm.trans e)];exact[h1:U]
  .rw[A4 e,A4 (λz=>e (h1.trans z))];exact[h1:h2]
def KV.put (r:KV kvs vs)(k:κ)(U:il y u):KV (lV kvs k y) (GF vs k u):=by
 unfold lV GF;rw[r.any k];by_cases e:(vs.any λkv=>decide (kv.1=k))=v_
 .rw[A6 e,A6 e];exact r.repl k U
 .rw[A4 e,A4 e];exact Paired.snoc r [1:U]
def KV.drop (r:KV kvs vs)(k:κ):KV (JS kvs k) (without vs k):=by
 unfold KV at r⊢;unfold JS without
 induction r with
 |nil=>exact .nil| @cons p q ps qs h t ih=>
  erw[h,h1,h2];rw[vR,vR];by_cases e:p.1=k
  .let a:¬decide (p.1≠k)=true:=by simp[e]
   let b:¬decide (q.1≠k)=true:=by simp[h1.symm.trans e]
   rw[A4 a,A4 b];exact ih
  .let U:¬q.1=k:=λz=>e (h1.trans z);let a:decide (p.1≠k)=true:=by simp[e]
   let b:decide (q.1≠k)=true:=by simp[U]
   rw[A6 a,A6 b];exact .cons [h1:h2] ih
def KV.keys (r:KV kvs vs):kvs.map (·.1)=vs.map (·.1):=by
 unfold KV at r
 induction r with
 |nil=>rfl|cons h t U=>rw[uA,uA,U,h.1]
def KV.length (r:KV kvs vs):↑kvs=↑vs:=Paired.length r
def BZ (kvs:oj (κ×V))(k:κ):↑(JS kvs k)<=↑kvs:=TB _ _
end
variable {w:og}{u:o6}
def oU {P:o9}{k:Key}(r:il (kV k) u):(Qg P w).is k u=true:=by
 cases k with
 |inl i=>obtain⟨t,e⟩:=(show∃t,u=Gu i t from r);subst e;exact At P w i t|inr x=>obtain⟨t,e⟩:=(show∃t,u=VF x t from r);subst e;exact Wq P w x t
def oV {P:o9}{w:og}:∀{ks:oj Key}{us:oj o6},iE (ks.map kV) us->ItemsAre (Qg P w) ks us
 | [],_,r=>by rw[Uy,0] at r;exact .nil|k::ks,_,r=>by
  rw[uA] at r;cases r with
  |cons h t=>exact .cons (oU h) (oV t)
nonrec abbrev KT (H:Hp):oj (oj Key×V)->oj (oj Key×o3×o6)->Prop:=Paired λp q=>p.1=q.1/\H q.2.1=u_ (.tup (p.1.map kV))/\il p.2 q.2.2
variable {H:Hp}
def KT.val {kvs:oj (oj Key×V)}{xs:oj (oj Key×o3×o6)}(r:KT H kvs xs)(k:oj Key):nC (iP kvs k) ((Gi xs k).map (·.2)):=by
 induction r with
 |nil=>exact VH| @cons p q ps qs h t ih=>
  erw[h,h1,_,h2];by_cases e:p.1=k
  .let U:q.1=k:=h1.symm.trans e;let b:Gi (q::qs) k=u_ q.2:=by simp[Gi,vi,U]
   rwa[Q2 e,b]
  .let U:¬q.1=k:=λz=>e (h1.trans z);let b:Gi (q::qs) k=Gi qs k:=by simp[Gi,vi,U]
   rw[QR e,b];exact ih
variable {y:V}
def KT.repl {kvs:oj (oj Key×V)}{xs:oj (oj Key×o3×o6)}(r:KT H kvs xs)(k:oj Key)(U:il y u):
  KT H (kvs.map λkv=>if kv.1=k then(kv.1,y) else kv) (xs.map (putAt k u)):=by
 induction r with
 |nil=>exact .nil| @cons p q ps qs h t ih=>
  rw[uA,uA];refine .cons ?_ ih;erw[h,h1,h2,h3];unfold putAt;by_cases e:p.1=k
  .rw[A6 e,A6 (h1.symm.trans e)];exact[h1:h2:U]
  .rw[A4 e,A4 (λz=>e (h1.trans z))];exact[h1:h2:h3]
variable {b:o3}
def KT.put {kvs:oj (oj Key×V)}{xs:oj (oj Key×o3×o6)}(r:KT H kvs xs)(k:oj Key)(Z:H b=u_ (.tup (k.map kV)))(U:il y u):
  KT H (lV kvs k y) (storedH xs k b u):=by
 let e:(kvs.any λkv=>decide (kv.1=k))=(Gi xs k).isSome:=by
  rw[xO,(r.val k).isSome_eq,tU]
 unfold lV storedH;rw[e];by_cases q:(Gi xs k).isSome=v_
 .rw[A6 q,A6 q];exact r.repl k U
 .rw[A4 q,A4 q];exact Paired.snoc r [1:Z:U]
variable {H':Hp}
def KT.keeps {kvs:oj (oj Key×V)}{xs:oj (oj Key×o3×o6)}(r:KT H kvs xs)(U:∀b ys,H b=u_ (¬ys)->H' b=u_ (¬ys)):KT H' kvs xs:=
 Paired.mapP r λ_ _ z=>[z.1:U _ _ z.2.1:z.2.2]
section
variable {P:o9}{w:og}{H:Hp}{h:o8}{a:o3}
def AaY {u:HO}(ok:HOk P w H h)(e:Rd H a u):yp P w H h a u:=e.ok ok
def Zl {kvs:oj (Key×V)}(ok:HOk P w H h)(e:Rd H a (.dK kvs)):↑kvs<=Vg/\(a==Vy)=Vd/\∃vs,KV kvs vs/\h.DictOf (Qg P w) a vs:=
 show yp P w H h a (.dK kvs) from AaY ok e
def SN {kvs:oj (Key×V)}(ok:HOk P w H h)(e:H a=u_ (.dK kvs)):↑kvs<=Vg/\(a==Vy)=Vd/\∃vs,KV kvs vs/\h.DictOf (Qg P w) a vs:=Zl ok (.inl e)
def kY {ks:oj Key}(ok:HOk P w H h)(e:H a=u_ (.tup (ks.map kV))):(G_ (Qg P w)).is h ks a:=by
 obtain⟨_,its,r,o,h1,h2,n,h3⟩:=(show yp P w H h a (.tup (ks.map kV)) from ok a _ e)
 exact(o,its.toArray,n,h1,h2,h3,by simpa using oV r)
def sx {kvs:oj (oj Key×V)}(ok:HOk P w H h)(e:Rd H a (.dT kvs)):↑kvs<=Vg/\(a==Vy)=Vd/\
  ∃xs,KT H kvs xs/\h.DictOfH (G_ (Qg P w)) a xs:=by
 obtain⟨z,y,xs,r,o,es,ep,h1,h2,h3,h4,h5⟩:=(show yp P w H h a (.dT kvs) from AaY ok e)
 rw[_,z,y,xs,r,o,es,ep,h1,h2,h3,h4,λx U=>?_,h5];let all:∀{l:oj (oj Key×V)}{m:oj (oj Key×o3×o6)},KT H l m->∀x>m,(G_ (Qg P w)).is h x.1 x.2.1:=by
  intro l m q
  induction q with
  |nil=>intro x U;exact nomatch U| @cons p q ps qs hq t ih=>
   intro x U;rcases Ab.mp U with e|U
   .subst e;exact kY ok (by rw[<-hq.1];exact hq.2.1)
   .exact ih x U
 exact all r x U
def Adp {kvs:oj (oj Key×V)}(ok:HOk P w H h)(e:H a=u_ (.dT kvs)):↑kvs<=Vg/\(a==Vy)=Vd/\
  ∃xs,KT H kvs xs/\h.DictOfH (G_ (Qg P w)) a xs:=sx ok (.inl e)
end
abbrev mT (H:Hp)(a:o3)(y:V)(r:om V):Prop:=
 (∃kvs k,Rd H a (.dK kvs)/\y=kV k/\r=iP kvs k)\/∃kvs k b,Rd H a (.dT kvs)/\y= .ref b/\H b=u_ (.tup (k.map kV))/\r=iP kvs k
abbrev C4 (H:Hp)(a:o3)(y v:V)(H':Hp):Prop:=
 (∃kvs k,H a=u_ (.dK kvs)/\y=kV k/\↑kvs<Vg/\H'=upd H a (.dK (lV kvs k v)))\/
 ∃kvs k b,H a=u_ (.dT kvs)/\y= .ref b/\H b=u_ (.tup (k.map kV))/\↑kvs<Vg/\H'=upd H a (.dT (lV kvs k v))
def mT.k {H:Hp}{a:o3}{kvs:oj (Key×V)}{k:Key}(e:H a=u_ (.dK kvs)):mT H a (kV k) (iP kvs k):= .inl (kvs,k,.inl e,1,1)
def C4.k {H:Hp}{a:o3}{kvs:oj (Key×V)}{k:Key}{v:V}(e:H a=u_ (.dK kvs))(U:↑kvs<Vg):C4 H a (kV k) v (upd H a (.dK (lV kvs k v))):= .inl (kvs,k,e,1,U,1)
section
variable {X:Cx}{ot:oj (o3×Obj)}{σ:St}{H:Hp}{s:o7}{a:o3}{y v:V}{u r:o6}{o:om V}{A:oh}{E:o6->o7->Prop}
def Inv.big (I:#[I]):Vy<#[0,s]:=by
 let h:VA<#[0,s]:=(I.mod.glob.keeps I.bk).lt;exact HP () h
def Iw {Q:o6->o7->Prop}(hu:A.units+1<Vn)(I:#[I])(g:mT H a y (u_ v))(ry:il y u)(h:∀Z s',Inv X ot σ H s'->il v Z->Q Z s'):
  Ve #[X,X] A (VO (-a) u) Q E s:=by
 rcases g with⟨kvs,k,e,ey,l⟩|⟨kvs,k,b,e,ey,eb,l⟩
 .subst ey;erw[Zl I.hok e,z,hd,vs,rel,dd];obtain⟨Z,hw,U⟩:=nC.some_of (v:=v) (o:=VQ vs k) (by rw[l];exact rel.val k)
  exact rY (oU ry) dd.mapOf hw (h Z _ (I.tok _) U)
 .subst ey;rw[show u=Vj b from ry,0]
  erw[sx I.hok e,z,hd,xs,rel,dd];obtain⟨Z,hw,U⟩:=nC.some_of (v:=v) (o:=(Gi xs k).map (·.2)) (by rw[l];exact rel.val k)
  erw[Option.map_eq_some_iff.mp hw,p,hp,aa];refine wpAny_getItem_heap (Us hu) (kY I.hok eb) dd hp ?_;rw[aa];exact h Z _ (I.tok _) U
def AeH {Q:o6->o7->Prop}(hu:A.units+1<Vn)(I:#[I])(g:mT H a y o)(Z:il y u)(h:∀s',Inv X ot σ H s'->Q (.bool o.isSome) s'):
  Ve #[X,X] A (Vm .In u (-a)) Q E s:=by
 rcases g with⟨kvs,k,e,U,l⟩|⟨kvs,k,b,e,U,eb,l⟩
 .subst U;erw[Zl I.hok e,z,hd,vs,rel,dd];refine Rc (oU Z) hd dd.mapOf ?_;rw[<-(rel.val k).isSome_eq,<-l];exact h _ (I.tok _)
 .subst U;rw[show u=Vj b from Z,0]
  erw[sx I.hok e,z,hd,xs,rel,dd];refine wpAny_in_heap (Us hu) (kY I.hok eb) hd dd ?_;let q:=(rel.val k).isSome_eq;rw[tU] at q;rw[<-q,<-l];exact h _ (I.tok _)
def SQ {Q:o6->o7->Prop}(hu:A.units+1<Vn)(I:#[I])(g:mT H a y o)(Z:il y u)(h:∀s',Inv X ot σ H s'->Q (.bool (!(o.isSome))) s'):
  Ve #[X,X] A (Vm .NotIn u (-a)) Q E s:=by
 rcases g with⟨kvs,k,e,U,l⟩|⟨kvs,k,b,e,U,eb,l⟩
 .subst U;erw[Zl I.hok e,z,hd,vs,rel,dd];refine rM (oU Z) hd dd.mapOf ?_;rw[<-(rel.val k).isSome_eq,<-l];exact h _ (I.tok _)
 .subst U;rw[show u=Vj b from Z,0]
  erw[sx I.hok e,z,hd,xs,rel,dd];refine wpAny_notIn_heap (Us hu) (kY I.hok eb) hd dd ?_;let q:=(rel.val k).isSome_eq;rw[tU] at q;rw[<-q,<-l];exact h _ (I.tok _)
variable {h':o8}{t':Nat}
def qaw {ob:HO}(I:#[I])(mu:Mut (H a))(U:VT a s.heap h')(Z:∃q,h'.get? a=u_ q)(new:yp X.prog X.w (upd H a ob) h' a ob)(ht:0<t':=by ac_rfl):
  Inv X ot σ (upd H a ob) {s with heap:=h',toks:=t'}:=
 I.write (x:=a) (e:=a) mu (.inl rfl) (λb q hb z=>(U.2 b hb).trans z) Z new
def sF {P:o9}{kvs:oj (Key×V)}{vs:oj (Key×o6)}(z:↑kvs<=Vg)(hd:(a==Vy)=Vd)(rel:KV kvs vs)(dd:h'.DictOf (Qg P w) a vs):
  yp P w H' h' a (.dK kvs):=(z,hd,vs,rel,dd)
def Iv {Q:Unit->o7->Prop}(hu:A.units+1<Vn)(I:#[I])(g:C4 H a y v H')(ry:il y u)(rv:il v r)(h:∀s',Inv X ot σ H' s'->Q GB s'):
  Ve #[X,X] A (F0 (-a) u r) Q E s:=by
 rcases g with⟨kvs,k,e,ey,l,eH⟩|⟨kvs,k,b,e,ey,eb,l,eH⟩
 .subst ey eH;erw[SN I.hok e,z,hd,vs,rel,dd];let hz:↑vs<=sizeLine:=by rwa[<-↑rel]
  let hl:↑(lV kvs k v)<=sizeLine:=by have:=yA kvs k v;omega
  refine wpAny_setItem_pairs (hsz:=hz) (oU ry) dd λh' U hs=>h _ ?_;let he:∃q,h'.get? a=u_ q:=let⟨q,_,_,Z,_⟩:=U;[q:Z];exact qaw I (by rw[e];exact VH) hs he (sF hl hd (rel.put k rv) U)
 .subst ey eH;rw[show u=Vj b from ry,0]
  erw[Adp I.hok e,z,hd,xs,rel,dd];let hz:↑xs<=sizeLine:=by rwa[<-Paired.length rel]
  let hl:↑(lV kvs k v)<=sizeLine:=by have:=yA kvs k v;omega
  refine wpAny_setItem_heap (hsz:=hz) (Us hu) (kY I.hok eb) dd λh' U hs=>h _ ?_;erw[U,q,es,ep,Z,h2,h3,h4,_,h5];refine qaw I (by rw[e];exact VH) hs [q:Z] (hl,hd,_,(rel.put k eb rv).keeps λc ys ec=>?_,q,es,ep,Z,h2,h3,h4,h5)
  rw[qk (Ac6 ec e (λz=>nomatch z))];exact ec
end
section
variable {X:Cx}{ot:oj (o3×Obj)}{σ:St}{H:Hp}{s:o7}{a:o3}{kvs:oj (Key×V)}{k:Key}{u:o6}{A:oh}{E:o6->o7->Prop}
def Adr {v:V}{more:oj o6}{Q:o6->o7->Prop}(I:#[I])(e:H a=u_ (.dK kvs))(ry:il (kV k) u)(l:iP kvs k=u_ v)(hm:more= []\/∃x,more= [x])
  (h:∀U s',Inv X ot σ (upd H a (.dK (JS kvs k))) s'->il v U->Q U s'):Ve #[X,X] A (call (.builtin "dict.pop") (.ref a::u::more)) Q E s:=by
 erw[SN I.hok e,z,hd,vs,rel,dd];obtain⟨U,hw,aa⟩:=nC.some_of (v:=v) (o:=VQ vs k) (by rw[<-l];exact rel.val k)
 let hp:(keyPart u).isSome=true:=by
  cases k with
  |inl i=>obtain⟨t,q⟩:=(show∃t,u=Gu i t from ry);subst q;rfl|inr x=>obtain⟨t,q⟩:=(show∃t,u=VF x t from ry);subst q;rfl
 let ha:argsOk "dict.pop" ⟨.ref a::u::more,[]⟩:=by
  rcases hm with q|⟨x,q⟩
  .subst q;exact PySem.F.args_dict_pop_2 _ _
  .subst q;exact PySem.F.args_dict_pop_3 _ _ _
 refine Hd PySem.F.slot_dict_pop dd.typeIs PySem.F.entry_dict_pop ha (meets_dict_pop_there (Qg X.prog X.w) a (oU ry) more hm hp)
  (vs,U,dd,by rwa[<-↑rel],hw,λh' Z hs=>h U _ ?_ aa)
 let he:∃q,h'.get? a=u_ q:=let⟨q,_,_,hq,_⟩:=Z;[q:hq];exact qaw I (by rw[e];exact VH) hs he (sF (uY (BZ kvs k) z) hd (rel.drop k) Z)
def Ads {Q:o6->o7->Prop}(I:#[I])(e:Rd H a (.dK kvs))(h:∀t s',Inv X ot σ H s'->Q (.int ↑kvs t) s'):Ve #[X,X] A (call (.builtin "len") [-a]) Q E s:=by
 erw[Zl I.hok e,z,hd,vs,rel,dd];refine call_len_dict hd dd (by rw[<-↑rel];rw[uB] at z;omega) ?_
 rw[<-↑rel];exact h _ _ (I.tok _)
end
abbrev Ad8 (i:Expr):Prop:=∀ov iv,Ho i Vd ov iv=HH [ov,iv] (VO ov iv)
def NQ {prog:o9}{w:og}{A:oh}{E:o6->o7->Prop}{s:o7}{env:Env}{value slice:Expr}{pos:Pos}{T id:String}{Q:o6->o7->Prop}
  (hl:HI (.type T) "__getitem__"=pure (u_ (.builtin id))) (hs:Ad8 slice)
  (h:Ve #[w,w] A (eval value env) (λo s₁=>Ve #[w,w] A (eval slice env) (λi U=>U.TypeIs o T/\Ve #[w,w] A (VO o i) Q E U) E s₁) E s):
  Ve #[w,w] A (eval (.Subscript value slice pos) env) Q E s:=by
 refine tD (vz h (λo s₁ h₁=>vz h₁ (λi U Z=>?_) λ_ _ x=>x) λ_ _ x=>x);erw[Z,hT,Z];unfold HX;refine A7 ?_;rw[getitemInPython_of_ne hT.not_modules];refine A7 (wpAny_specialOf hT hl ?_);let fin:Ve #[w,w] A (Ho slice Vd o i) (λr s₃=>Ve #[w,w] A (letTemporaryGo value o r>>=λ_=>pure r) Q E s₃) E U:=by
  rw[hs o i];exact wpAny_operating (vz Z (λr s₃ h₃=>A7 (wpAny_letTemporaryGo (uC h₃))) λ_ _ x=>x)
 first
  |exact uC (A7 fin)
  |exact A7 (uC (A7 fin))
  |exact A7 fin
variable {X:Cx}{ot:oj (o3×Obj)}{σ:St}{s:o7}{a:o3}
def AL {o:om V}(I:#[I])(g:mT H a y o):s.TypeIs (-a) "dict":=by
 rcases g with⟨kvs,k,e,_,_⟩|⟨kvs,k,b,e,_,_,_⟩
 .erw[Zl I.hok e,_,_,vs,_,dd,<-dd.typeIs]
 .erw[sx I.hok e,_,_,xs,_,dd,<-dd.typeIs]
def AM {o:om V}(I:#[I])(g:mT H a y o):
  ∀b,Vj a= .ref b->∃ob,s.heap.get? b=u_ ob/\ob.dict=none:=λb q=>by
 rw[q,0];rcases g with⟨kvs,k,e,_,_⟩|⟨kvs,k,b,e,_,_,_⟩
 .erw[Zl I.hok e,_,_,vs,_,ob,_,_,h1,h2,_,<-[ob:h1:h2.2.1]]
 .erw[sx I.hok e,_,_,xs,_,ob,_,_,h1,h2,_,<-[ob:h1:h2.2.1]]
inductive NF (Q:VK)(x:V)(y:V)(H2:Hp):Prop
 |mk (a:_)(v:_)(_:x=-a)(_:mT H2 a y (u_ v))(_:Q v H2)
abbrev AcM (td ty:TE):TE:=λσ H Q=>td σ H λx H1=>ty σ H1 λy H2=>NF Q x y H2
inductive AdC (Q:VK)(y:V)(x:V)(H2:Hp):Prop
 |mk (a:_)(o:_)(_:x=-a)(_:mT H2 a y o)(_:Q (.bl o.isSome) H2)
abbrev Aei (ty td:TE):TE:=λσ H Q=>ty σ H λy H1=>td σ H1 λx H2=>AdC Q y x H2
inductive MD (Q:VK)(y:V)(x:V)(H2:Hp):Prop
 |mk (a:_)(o:_)(_:x=-a)(_:mT H2 a y o)(_:Q (.bl (!(o.isSome))) H2)
abbrev NP (ty td:TE):TE:=λσ H Q=>ty σ H λy H1=>td σ H1 λx H2=>MD Q y x H2
inductive Ach (D:nh)(σ:St)(v:V)(x:V)(y:V)(H3:Hp):Prop
 |mk (a:_)(H4:_)(_:x=-a)(_:C4 H3 a y v H4)(_:D.nx σ H4)
abbrev AcS (td ty tv:TE):TS:=λD σ H=>tv σ H λv H1=>td σ H1 λx H2=>ty σ H2 λy H3=>Ach D σ v x y H3
section
variable {X:Cx}{o i e value:Expr}{pos pos' tpos:Pos}{td ty tv:TE}
def QN (hu:X.A.units+1<Vn)(ho:PE X o td)(hi:PE X i ty)(hs:Ad8 i):PE X (.Subscript o i pos) (AcM td ty):=by
 rw[2,Q,I,h];refine NQ PySem.F.slot_dict_getitem.lookup hs (thn (ho ot s σ H _ I h) λu s1 ⟨x,H1,I1,rx,q1⟩=>thn (hi ot s1 σ H1 _ I1 q1) λiv s2 zq=>?_);erw[zq,y,H2,Z,ry,a,v,ex,g,q2];subst ex;obtain rfl:u=Vj a:=rx;exact[AL Z g:Iw hu Z g ry λw' s3 I3 U=>(v,H2,I3,U,q2)]
def pc_din (U:X.A.units+1<Vn)(hi:PE X i ty)(Z:PE X o td):PC X .In i o (Aei ty td):=by
 rw[2,Q,I,h];refine thn (hi ot s σ H _ I h) λiv s1 ⟨y,H1,I1,ry,q1⟩=>thn (Z ot s1 σ H1 _ I1 q1) λu s2 zq=>?_;erw[zq,x,H2,I2,rx,a,ov,ex,g,q2];subst ex;obtain rfl:u=Vj a:=rx;exact AeH U I2 g ry λs3 I3=>(.bl ov.isSome,H2,I3,1,q2)
def oG (U:X.A.units+1<Vn)(hi:PE X i ty)(Z:PE X o td):PC X .NotIn i o (NP ty td):=by
 rw[2,Q,I,h];refine thn (hi ot s σ H _ I h) λiv s1 ⟨y,H1,I1,ry,q1⟩=>thn (Z ot s1 σ H1 _ I1 q1) λu s2 zq=>?_;erw[zq,x,H2,I2,rx,a,ov,ex,g,q2];subst ex;obtain rfl:u=Vj a:=rx;exact SQ U I2 g ry λs3 I3=>(.bl (!(ov.isSome)),H2,I3,1,q2)
def Jm (U:X.A.units+1<Vn)(Z:PE X o td)(hi:PE X i ty)(hv:PE X value tv)(hs:h_ value (u_ (.Subscript o i pos')) pos.line X.env=pure Vd):
  PS X (.Assign [.Subscript o i pos'] value pos) (AcS td ty tv):=by
 rw[2,D,I,h];refine wpAny_Assign_Subscript (thn (hv ot s σ H _ I h) λr s1 ⟨v,H1,I1,rv,q1⟩=>thn (Z ot s1 σ H1 _ I1 q1) λu s2 ⟨x,H2,I2,rx,q2⟩=>thn (hi ot s2 σ H2 _ I2 q2) λiv s3 zq=>?_) hs;erw[zq,y,H3,I3,ry,a,H4,ex,g,q3];subst ex;obtain rfl:u=Vj a:=rx;exact Iv U I3 g ry rv λs4 I4=>(σ,H4,I4,q3)
end
def Mu {P:o9}(h:o8)(U:Vy<h.objs.size):yp P w H (h.push {cls:= .type "dict",data:= .dict #[]}) h.objs.size (.dK []):=
 (uK _,beq_eq_false_iff_ne.mpr (U1 (uU U)),[],.nil,RH h)
abbrev AaG:TE:=λ_ H Q=>∀p,H p=U_->Q (-p) (upd H p (.dK []))
section
variable {X:Cx}{pos:Pos}
def Jd:PE X (.Dict [] [] pos) AaG:=λot s σ H Q I h=>
 wpAny_Dict_empty (.ref #[0,s],_,I.laid (a:=#[0,s]) (o:= .dK []) (t':=s.toks) (λ_ _ q=>u9 _ q) (uh _) (Mu s.heap I.big),1,h _ (I.hok.fresh (uh _)))
end
structure M1 (X:Cx)(o:Expr)(m:Str)(apos:Pos)(e:Expr)(cpos:Pos):Prop where
 base:Gh o m X.env (eval o X.env)=eval o X.env
 few:((Vp cpos (Vi [e] X.env)).all (λx=> !(x).1)&&(Gj cpos (Gf [] X.env)).all (λx=>x.1.isSome)
  &&decide (↑([e]:oj Expr)+↑([]:oj GD)+(if([]:oj GD).isEmpty then 0 else 1)<30))=v_
 line:(apos.endLine==cpos.line)=v_
 trees:Vp cpos (Vi [e] X.env)= [(Vd,eval e X.env)]
structure M2 (X:Cx)(o:Expr)(m:Str)(apos:Pos)(e f:Expr)(cpos:Pos):Prop where
 base:Gh o m X.env (eval o X.env)=eval o X.env
 few:((Vp cpos (Vi [e,f] X.env)).all (λx=> !(x).1)&&(Gj cpos (Gf [] X.env)).all (λx=>x.1.isSome)
  &&decide (↑([e,f]:oj Expr)+↑([]:oj GD)+(if([]:oj GD).isEmpty then 0 else 1)<30))=v_
 line:(apos.endLine==cpos.line)=v_
 trees:Vp cpos (Vi [e,f] X.env)= [(Vd,eval e X.env),(Vd,eval f X.env)]
abbrev IsD (H:Hp)(a:o3):Prop:=(∃kvs,Rd H a (.dK kvs))\/∃kvs,Rd H a (.dT kvs)
def ES (I:#[I])(d:IsD H a):
  s.TypeIs (-a) "dict"/\(∀b,Vj a= .ref b->∃ob,s.heap.get? b=u_ ob/\ob.dict=U_)/\(a==Vy)=false:=by
 rcases d with⟨kvs,e⟩|⟨kvs,e⟩
 .erw[Zl I.hok e,_,hd,vs,_,dd];rw[_,dd.typeIs,λb q=>?_,hd];rw[q,0];erw[dd,ob,_,_,h1,h2,_,<-[ob:h1:h2.2.1]]
 .erw[sx I.hok e,_,hd,xs,_,dd];rw[_,dd.typeIs,λb q=>?_,hd];rw[q,0];erw[dd,ob,_,_,h1,h2,_,<-[ob:h1:h2.2.1]]
section
variable {X:Cx}{ot:oj (o3×Obj)}{σ:St}{H:Hp}{s:o7}{a:o3}{y d:V}{u r:o6}{o:om V}{A:oh}{E:o6->o7->Prop}
def AbX {Q:o6->o7->Prop}(hu:A.units+1<Vn)(I:#[I])(g:mT H a y o)(Z:il y u)(h:∀w' s',Inv X ot σ H s'->il (o.getD .non) w'->Q w' s'):
  Ve #[X,X] A (call (.builtin "dict.get") [-a,u]) Q E s:=by
 rcases g with⟨kvs,k,e,U,l⟩|⟨kvs,k,b,e,U,eb,l⟩
 .subst U;erw[Zl I.hok e,z,hd,vs,rel,dd];refine Hd PySem.F.slot_dict_get dd.typeIs PySem.F.entry_dict_get (PySem.F.args_dict_get_2 _ _) (meets_dict_get (Qg X.prog X.w) a (oU Z) hd) [_:dd.mapOf:h _ _ (I.tok _) ?_];rw[l];exact(rel.val k).getD rfl
 .subst U;rw[show u=Vj b from Z,0]
  erw[sx I.hok e,z,hd,xs,rel,dd];refine Hd PySem.F.slot_dict_get dd.typeIs PySem.F.entry_dict_get (PySem.F.args_dict_get_2 _ _) (meetsH_dict_get (G_ (Qg X.prog X.w)) a b hd) (Us hu,k,xs,kY I.hok eb,dd,h _ _ (I.tok _) ?_);rw[l];exact(rel.val k).getD rfl
end
inductive S9 (ty:TE)(σ:St)(Q:VK)(x:V)(H1:Hp):Prop
 |mk (a:_)(_:x=-a)(_:IsD H1 a)(_:ty σ H1 λy H2=>∃o,mT H2 a y o/\Q (o.getD .non) H2)
abbrev AaH (td ty:TE):TE:=λσ H Q=>td σ H λx H1=>S9 ty σ Q x H1
inductive S8 (ty:TE)(σ:St)(Q:VK)(x:V)(H1:Hp):Prop
 |mk (a:_)(_:x=-a)(_:IsD H1 a)(_:ty σ H1 λy H2=>∃kvs k v,H2 a=u_ (.dK kvs)/\y=kV k/\iP kvs k=u_ v/\Q v (upd H2 a (.dK (JS kvs k))))
abbrev AaF (td ty:TE):TE:=λσ H Q=>td σ H λx H1=>S8 ty σ Q x H1
section
variable {X:Cx}{o e f:Expr}{apos cpos:Pos}{td ty tx:TE}
def wD (hu:X.A.units+1<Vn)(ho:PE X o td)(he:PE X e ty)(m:M1 X o "get" apos e cpos):PE X (.Call (.Attribute o "get" apos) [e] [] cpos) (AaH td ty):=by
 rw[2,Q,I,h];refine tS m.base m.few m.line Uj PySem.F.slot_dict_get PySem.F.type_dict_get (thn (ho ot s σ H _ I h) λu s1 zq=>?_);erw[zq,x,H1,Z,rx,a,ex,d,q1];subst ex;obtain rfl:u=Vj a:=rx;erw[ES Z d,t1,t2,_];rw[_,t1,t2];rw[m.trees];refine vU rfl (Uf (U7 (thn (he ot s1 σ H1 _ Z q1) λiv s2 ⟨y,H2,I2,ry,ov,g,q2⟩=>UG ?_)));exact AbX hu I2 g ry λw' s3 I3 U=>(_,H2,I3,U,q2)
def Lx (ho:PE X o td)(he:PE X e ty)(m:M1 X o "pop" apos e cpos):PE X (.Call (.Attribute o "pop" apos) [e] [] cpos) (AaF td ty):=by
 rw[2,Q,I,h];refine tS m.base m.few m.line Uj PySem.F.slot_dict_pop PySem.F.type_dict_pop (thn (ho ot s σ H _ I h) λu s1 zq=>?_);erw[zq,x,H1,Z,rx,a,ex,d,q1];subst ex;obtain rfl:u=Vj a:=rx;erw[ES Z d,t1,t2,_];rw[_,t1,t2];rw[m.trees];refine vU rfl (Uf (U7 (thn (he ot s1 σ H1 _ Z q1) λiv s2 ⟨y,H2,I2,ry,kvs,k,v,ea,ey,l,q2⟩=>UG ?_)));subst ey;exact Adr I2 ea ry l (.inl rfl) λw' s3 I3 U=>(v,_,I3,U,q2)
end
end L2
namespace Att
open PySem PySem.W PySem.Calls PyProof.Rows
variable {h:o8}
def wO {P:HG}:∀(ns:oj Int) (vs:oj o6),WellAll P h vs (ns.map WData.int)->GJ vs ns:=by
 intro ns
 induction ns with
 |nil=>
  intro vs w;rw[Uy,0] at w;exact .nil
 |cons n ns U=>
  intro vs w;rw[uA] at w;cases w with
  |cons a b=>
   rw[a,0];exact .cons _ _ (U _ b)
def Dz {l:OpenLaw}{n:Nat}(hn:l.most=u_ n){P:HG}{h:o8}{args:oj WData}{U:oj o6}
  (Z:l.row.toRowW.claim.pre args=v_) (ad:WellAll P h U args):
  ∃a vs ns,U= [Vj a]/\args= [WData.list (ns.map WData.int)]/\h.get? a=u_ {cls:= .type "list",data:= .seq vs.toArray}/\GJ vs ns/\↑ns<=n:=by
 let ae:WShape.hasAll [] args [.list .int]=true:=(pre_splitW Z).1;let hc:l.pre.holds [] {args:=args}=true:=(pre_splitW Z).2;erw[hasAllW_cons ae,d,r,rfl,h1,h2];obtain rfl:=hasAllW_nil h2;erw[hasW_list h1,xs,rfl,h3];erw[items_int h3,ns,rfl];let aa:↑ns<=n:=by
  unfold OpenLaw.pre at hc;let h4:(WTm.not (.lt (.lit (.int (n:Int))) (.len (.arg 0)))).holds [] {args:= [.list (ns.map .int)]}=true:=by
   let h4:=(holds_andW hc).1;rwa[hn] at h4
  let h5:=condW_of h4 (w_not (w_lt w_lit (w_len_list (w_arg rfl))));rw[u7] at h5;refine Nat.le_of_not_lt λq=>?_;let q':(n:Int)<((↑ns:Nat):Int):=by omega
  first
   |(rw[u8 q'] at h5;exact A8 h5 ())
   |(simp at h5;omega)
 cases ad with
 |cons w1 w2=>
  rw[w2,0];cases w1 with
  |list ho ac=>exact(_,_,ns,1,1,ho,wO ns _ ac,aa)
def DK (l:OpenLaw)(args:oj WData):l.row.toRowW.claim.post args (.bool v_) args=true:=
 postW_of (r:=l.row.toRowW) (X:=(v_==v_))
  (show WShape.has [] (.bool v_) .bool=v_ by first|rfl|decide|simp[WShape.has,WShape.arms,WShape.armsAll])
  (show(WTm.eq .res (.lit (.bool v_))).value [] {args:=args,res:=u_ (.bool v_),after:=args}=u_ (.bool (v_==v_)) from w_eq_bool (w_res rfl) w_lit) rfl
def attach_call {l:OpenLaw}{n:Nat}{q:o9}{U:oj Str}{XP:(Str->om o6)->o8->Prop}{YP:og->o8->Prop}{d:DefRec}
  (hn:l.most=u_ n) (ae:d.params.defaults= [])
  (call:∀(w:og) (s₀ Z:o7) (mg mb:Str->om o6) (fa:o3) (o:Obj) (pm cd doc:o6) (a:o3) (vs:oj o6) (ns:oj Int),
   Ground q U [] XP w s₀ mg mb Z.heap->YP w Z.heap->
   Z.heap.get? fa=u_ o->o.data= .func (docDef d.name d.params d.body d.scope pm cd doc)->Z.heap.CodeRec cd d.name->mg d.name=u_ (-fa)->
   Z.heap.get? a=u_ {cls:= .type "list",data:= .seq vs.toArray}->GJ vs ns->↑ns<=n->Z.gens= #[]->
   VL (Vs l.prog w) GE (.call (-fa) [[-a]:[]]) (λr s'=>r= .ok (.ret (.bool v_))/\OldK Z.heap s'.heap/\s'.os=Z.os/\G6 s'.gens) Z):
  WalkO q U XP YP l.row.toRowW d [] (λf vs=>PySem.call f vs):=by
 intro w s₀ Z mg mb G Y fa o pm cd doc dV kV ho hd af hD ag hg args ah as hpre hlay hrd hwl hlo;obtain rfl:dV= .none:=Dflts.none hD ae;obtain rfl:kV= .none:=Dflts.noKw hD;erw[Dz hn hpre hwl,a,vs,ns,rfl,rfl,ac,aa,ad];refine enter_call (Uw (call w s₀ Z mg mb fa o pm cd doc a vs ns G Y ho (fd_plain hd) af ag ac aa ad hg) λr s' hq=>?_);erw[hq,rfl,h2,h3,h4,<-(.inl (.bool v_,.bool v_,[],1,λ_=>rfl,.bool v_,DK l _,λ_=>[RS:λ_ hm=>(nomatch hm)]),h2,h3,h4)]
end Att
namespace L2
open PySem PySem.Spec PyProof.Rows
def nP:∀{vs:oj o6}{ns:oj Int},GJ vs ns->iE (ns.map V.int) vs
 |_,_,.nil=> .nil|_,_,.cons n t h=> .cons [t:1] (nP h)
abbrev Acw (H:Hp):Prop:=∀b,H b=U_\/∃o xs,H b=u_ (.frz o (.lst xs))
def Me {P:o9}{w:og}{K:o0}{mg mb:Str->om o6}{CX:CXT}{k:Nat}{fa a:o3}{fd:Vh}{x:Str}{sp:Sp}{U:o7}{vs:oj o6}{ns:oj Int}
  (KX:K.In U.heap) (ae:U.heap.Ns VA mg) (hb:U.heap.Ns T7 mb) (am:∀x:Str,x≠"__name__"->mb x=GO x) (af:U.heap.NoLimit) (hg:U.gens= #[])
  (ha:U.heap.get? a=u_ {cls:= .type "list",data:= .seq vs.toArray}) (hi:GJ vs ns) (hl:↑ns<=Vg) (hr:mC k GE)
  (F:∀base:o8,K.In base->base.Ns VA mg->FnOk P w K mg base CX k fa fd [x] sp) (ad:∀(s:o7) (u:o6),GQ s fd [[u]:[]] [(x,u)])
  (ag:fd.scope.names.lookup x=u_ .local) (ao:∀H:Hp,Acw H->SqL K H a (ns.map V.int)->sp [-a] H (λv _=>v= .bl v_) λ_ _ _=>False)
  (ap:∀H e s',CX [] H U (λ_ _ _=>False) e s'->False):
  VL (Vs P w) GE (.call (-fa) [[-a]:[]]) (λr s'=>r= .ok (.ret (.bool v_))/\OldK U.heap s'.heap/\s'.os=U.os/\G6 s'.gens) U:=by
 let rv:=nP hi;let ah:=↑hi;let ac:∀H:Hp,Acw H->SqL K H a (ns.map V.int)->HOk P w H U.heap->(∀b,H b≠U_->b=a)->(H a≠U_->K.lookup a=U_)->
   VL (Vs P w) GE (.call (-fa) [[-a]:[]]) (λr s'=>r= .ok (.ret (.bool v_))/\OldK U.heap s'.heap/\s'.os=U.os/\G6 s'.gens) U:=by
  intro H hO hS hok hA hK;let Z:∀{b:o3}{o:Obj},U.heap.get? b=u_ o->H b=U_->(Mm U.heap H).get? b=u_ o:=λe n=>Ml e n;let aq:∀{b:o3}{o:Obj}{es:Array GH}{ep:Nat},U.heap.get? b=u_ o->o.data= .dict es ep->H b=none:=λ{b o es ep} e d=>by
   cases q:H b with
   |none=>rfl|some u=>
    let e':b=a:=hA b (by rw[q];simp)
    subst e';rw[ha,0] at e;let d':Data.seq vs.toArray _=Data.dict es ep:=d;rw[d',0]
  let aa:∀{b:o3}{m:Str->om o6},U.heap.Ns b m->(Mm U.heap H).Ns b m:=λ{b m} ⟨o,es,ep,e,d,r⟩=>(o,es,ep,Z e (aq e d),d,r);let ak:K.In (Mm U.heap H):=λb o e=>Z (KX b o e) (by
   cases q:H b with
   |none=>rfl|some u=>
    let e':b=a:=hA b (by rw[q];simp)
    subst e';rw[hK (by rw[q];simp),0] at e)
  let hM:Mod K mg (Mm U.heap H):=(ak,aa ae,[mb:aa hb:am],let⟨mc,h1,h2⟩:=af;[mc:aa h1:h2]);let e0:Aab P w K mg (Mm U.heap H) GE [] U H:=(1,hM,λb o e=>PV e,Hu (EV _ _),trivial,λb hb=>A8 (show b>([]:oj o3) from hb) (by simp),hok,.of_eq hg)
  refine Uw ((F _ ak (aa ae)).run GE [] U H [[-a]:[]] [-a] [-a] _ _ hr e0 (ad U (-a)) (.cons rfl .nil) (ao H hO hS) (.inr [_:0:ag])) λr s' h=>?_;cases r with
  |error e=>exact(ap H e s' h).elim|ok fl=>
   cases fl with
   |next=>exact Vw h|brk=>exact Vw h|cont=>exact Vw h|ret u=>
    erw[h,v,H',os,bare,htk,un,al,r',q];let q':v= .bl true:=q;subst q';obtain rfl:u=VC true:=r';rw[1,OldK.of_keep λb o e=>?_,os,bare];cases q:H b with
    |none=>exact un.keep b o e q (by intro z;exact A8 (show b>([]:oj o3) from z) (by simp)) (by simp)|some u=>
     rcases hO b with z|⟨ob,xs,z⟩
     .rw[q,0] at z
     .have z2:=un.frzs b ob _ z;erw[hok b _ z,e1,_];erw[al b _ z2,e2,_];rw[e,0] at e1;exact e2
 cases hk:K.lookup a with
 |some o=>
  let e:=KX a o hk;rw[ha,0] at e;refine ac (λ_=>U_) (λ_=> .inl rfl) (.inr (_,vs.toArray,_,hk,1,1,1,by rwa[ur,ah],by simpa using rv)) (λb u z=>by have z':(U_:om HO)=u_ u:=z;rw[z',0]) (λb z=>A8 rfl z) λz=>A8 rfl z
 |none=>
  refine ac (λb=>if b=a then u_ (.frz {cls:= .type "list",data:= .seq vs.toArray} (.lst (ns.map V.int))) else U_) (λb=>?_) (.inl (.inr [{cls:= .type "list",data:= .seq vs.toArray}:A6 rfl])) (λb u z=>?_) (λb z=>?_) λ_=>hk
  .by_cases hb:b=a
   .exact .inr [_:_:A6 hb]
   .exact .inl (A4 hb)
  .by_cases hb:b=a
   .let z':=(A6 hb).symm.trans z;rw[z',0];subst hb;exact(ha,by rwa[u7],vs,_,rv,ha)
   .let z':=(A4 hb).symm.trans z;rw[z',0]
  .by_cases hb:b=a
   .exact hb
   .exact A8 (A4 hb) z
nonrec abbrev KOf {K:o0}{h:o8}(_:K.In h):o0:=K
def NK {l:PySem.W.OpenLaw}{n k:Nat}{q:o9}{Z:oj Str}{XP:(Str->om o6)->o8->Prop}{YP:og->o8->Prop}{d:DefRec}{K:HG->o0}{CX:og->CXT}{sp:og->Sp}{x:Str}
  (hn:l.most=u_ n) (ae:n<=Vg) (af:d.params.defaults= []) (hr:mC k GE)
  (hY:∀(w:og) (h:o8),YP w h->(K w.params).In h)
  (F:∀(w:og) (mg:Str->om o6) (fa:o3) (h:o8),(K w.params).In h->h.Ns VA mg->mg d.name=u_ (-fa)->
   ∃fd:Vh,(∀(s:o7) (u:o6),GQ s fd [[u]:[]] [(x,u)])/\fd.scope.names.lookup x=u_ .local/\
    ∀base:o8,(K w.params).In base->base.Ns VA mg->FnOk l.prog w (K w.params) mg base (CX w) k fa fd [x] (sp w))
  (ag:∀(w:og) (H:Hp) (a:o3) (ns:oj Int),↑ns<=n->Acw H->SqL (K w.params) H a (ns.map V.int)->sp w [-a] H (λv _=>v= .bl v_) λ_ _ _=>False)
  (ah:∀(w:og) (H:Hp) (s:o7) (e:o6) (s':o7),CX w [] H s (λ_ _ _=>False) e s'->False):
  PySem.W.WalkO q Z XP YP l.row.toRowW d [] (λf vs=>PySem.call f vs):=by
 refine Att.attach_call hn af λw s₀ s₁ mg mb fa o pm cd doc a vs ns G Y ho hd al ak ac aa U hg=>?_;let KX:=hY w _ Y;erw[F w mg fa _ KX G.T.g ak,fd,hb,ad,hF,<-Me KX G.T.g G.T.b G.T.builtins G.T.nolimit hg ac aa (uY U ae) hr hF hb ad (λH hO hS=>ag w H a ns U hO hS) λH e s'=>ah w H s₁ e s']
def IP {l:PySem.W.OpenLaw}{n k:Nat}{q:o9}{U:oj Str}{XP:(Str->om o6)->o8->Prop}{YP:og->o8->Prop}{d:DefRec}{K:HG->o0}{CX:CXT}{sp:o0->Sp}{x:Str}
  (hn:l.most=u_ n) (Z:n<=Vg) (aa:d.params.defaults= []) (hr:mC k GE)
  (hY:∀(w:og) (h:o8),YP w h->(K w.params).In h)
  (F:∀(w:og) (mg:Str->om o6) (fa:o3) (h:o8),(K w.params).In h->h.Ns VA mg->mg d.name=u_ (-fa)->
   ∃fd:Vh,(∀(s:o7) (u:o6),GQ s fd [[u]:[]] [(x,u)])/\fd.scope.names.lookup x=u_ .local/\
    ∀base:o8,(K w.params).In base->base.Ns VA mg->FnOk l.prog w (K w.params) mg base CX k fa fd [x] (sp (K w.params)))
  (ac:∀(K:o0) (H:Hp) (a:o3) (ns:oj Int),↑ns<=n->Acw H->SqL K H a (ns.map V.int)->sp K [-a] H (λv _=>v= .bl v_) λ_ _ _=>False)
  (ad:∀(H:Hp) (s:o7) (e:o6) (s':o7),CX [] H s (λ_ _ _=>False) e s'->False):
  PySem.W.WalkO q U XP YP l.row.toRowW d [] (λf vs=>PySem.call f vs):=
 NK (K:=K) (CX:=λ_=>CX) (sp:=λw=>sp (K w.params)) hn Z aa hr hY F (λw H a ns h1 h2 h3=>ac (K w.params) H a ns h1 h2 h3) λ_ H s e s'=>ad H s e s'
abbrev Qq (s:Stmt)(j:Nat):Stmt:=match s with
 | .ClassDef _ _ _ body _ _ _ _ _ _ _=>body.getD j (.Pass ((0),(0),(0),(0)))|_=> .Pass ((0),(0),(0),(0))
abbrev jf (s:Stmt):Arguments:=match s with
 | .FunctionDef _ a _ _ _ _ _ _ _ _=>a|_=>{posonlyargs:= [],args:= [],vararg:=U_,kwonlyargs:= [],kw_defaults:= [],kwarg:=U_,defaults:= []}
abbrev Yg (s:Stmt):oj Stmt:=match s with
 | .FunctionDef _ _ b _ _ _ _ _ _ _=>b|_=> []
abbrev qj (s:Stmt):Scope:=match s with
 | .FunctionDef _ _ _ _ _ _ sc _ _ _=>sc|_=>{kind:= .function,names:= [],isGenerator:=Vd,isCoroutine:=Vd}
nonrec abbrev CX0:CXT:=λ_ _ _ _ _ _=>False
nonrec abbrev E0:XK:=λ_ _ _=>False
variable {X:Cx}
def qC:zj CX0 X E0:=λ_ _ _ _ _ _ _ h=>h.elim
structure Fun (K:o0)(x qual:Str)(st:Stmt)(f:o3)(fd:Vh):Prop where
 ex:∃(oc:o6) (od:om o3) (kV doc pm:o6) (an:om o3) (cdv ct:o6) (osl:Array (om o6)),
  fd=PySem.W.fnOf x qual (jf st) (Yg st) (qj st) .none kV doc pm an cdv ct/\K.lookup f=u_ (oc,od,.func fd,osl)/\PySem.W.codeIn K cdv qual=v_
 kp:PySem.W.keepIn K (-f)=v_
section
variable {P:o9}{w:og}{K:o0}{mg:Str->om o6}{base:o8}
def Fun.ok {x qual:Str}{st:Stmt}{f:o3}{fd:Vh}{N ps:oj Str}{k:Nat}{sp:Sp}(F:Fun K x qual st f fd)(S:qx N ps (qj st))(len:∀vs H Q E,sp vs H Q E->↑vs=↑ps)
  (U:∀(cdv:o6) (A:oh) (outer:oj Env) (s:o7) (H:Hp) (vs:oj V) (Q:VK) (E:XK),mC k (A.deeper (Vk qual (qj st) #[0,s] f cdv))->sp vs H Q E->
   ∃t,PSs (cxOf CX0 P w K mg base N qual (qj st) f cdv A outer s H E).nox (Yg st) t/\t {nx:=λ_ H'=>Q .non H',rt:=Q} (qar N vs) H):FnOk P w K mg base CX0 (k+1) f fd ps sp:=by
 erw[F.ex,oc,od,kV,doc,pm,an,cdv,ct,osl,rfl,lk,Z];refine AbP lk Z S len λA outer s H vs Q E hr aa=>?_;erw[U cdv A outer s H vs Q E hr aa,t,h,q,<-[t:h.nox:q]]
def Fun.binds {x qual:Str}{st:Stmt}{f:o3}{fd:Vh}{ps:oj Str}(F:Fun K x qual st f fd)
  (h:∀(kV doc pm:o6) (an:om o3) (cdv ct:o6) (us:oj o6),↑us=↑ps->Gn (PySem.W.fnOf x qual (jf st) (Yg st) (qj st) .none kV doc pm an cdv ct) [us:[]]=pure (ps.zip us)):XJ K fd ps []:=by
 erw[F.ex,oc,od,kV,doc,pm,an,cdv,ct,osl,rfl,lk,U,<-.all (h kV doc pm an cdv ct)]
def Nu {x qual:Str}{st:Stmt}{f:o3}{oc:o6}{od an:om o3}{osl:Array (om o6)}{kV doc pm cdv ct:o6}(l:K.lookup f=u_ (oc,od,.func (PySem.W.fnOf x qual (jf st) (Yg st) (qj st) .none kV doc pm an cdv ct),osl))
  (c:PySem.W.codeIn K cdv qual=v_) (k:PySem.W.keepIn K (-f)=v_):Fun K x qual st f (PySem.W.fnOf x qual (jf st) (Yg st) (qj st) .none kV doc pm an cdv ct):=[(oc,od,kV,doc,pm,an,cdv,ct,osl,1,l,c):k]
end
variable {A:oh}
def QU {k:Nat}(U:mC k A):A.units+1<cLine:=TH (Nat.add_le_add_left (by decide:1<=64) _) U.units
variable {n:Nat}
def zf (h:n<=1000):n<sizeLine:=TH h ()
section
variable {X:Cx}
def pv (i:Nat){x:Str}{pos:Pos}(Z:X.N[i]? =u_ x:=by rfl)(hv:Vis X.env.scope x:=by first|exact GZ rfl|exact GN (GZ rfl)|exact GN (GN rfl))(hd:(x==("__debug__":Str))=false:=by decide)
  (U:(x==("__classdict__":Str))=false:=by decide):PE X (.Name x pos) (Aaw i):=Aa7 Z hv hd U
def Iz:jg X (.builtin "len") (λxs H Q=>∃a kvs,xs= [V.ref a]/\H a=u_ (.dK kvs)/\Q (.int ↑kvs) H):=by
 rw[2,xs,us,Q,I,r,h];erw[h,a,kvs,rfl,ha,q];erw[xn r,u,rfl,ru];rw[ru,0];exact Ads I (.inl ha) λt s' U=>(.int ↑kvs,H,U,[t:1],q)
end
def iU {A B:Prop}(h:B):if Vd=v_ then A else B:=by
 rw[A4 uc];exact h
def iY {A B:Prop}(h:A):if v_=v_ then A else B:=by
 rw[A6 rfl];exact h
def ky {c A B:Prop}[Decidable c](h1:c->A)(h2:¬(c)->B):if c then A else B:=by
 by_cases h:c
 .rw[A6 h];exact h1 h
 .rw[A4 h];exact h2 h
abbrev ic (H H':Hp):Prop:=∀b o,H b=u_ o->H' b=u_ o
def ic.refl (H:Hp):ic H H:=λ_ _ h=>h
variable {H H1 H2:Hp}
def ic.trans (a:ic H H1)(b:ic H1 H2):ic H H2:=λc o h=>b c o (a c o h)
variable {H':Hp}
def ic.free (e:ic H H'){l:o3}(h:H' l=Option.none):H l=Option.none:=by
 cases q:H l with
 |none=>rfl|some o=>
  rw[e l o q,0] at h
section
variable {κ:Type}[DecidableEq κ]
variable {kvs:oj (κ×V)}{v:V}
def NN {k:κ}(h:iP kvs k=u_ v):k>kvs.map (·.1):=by
 let q:(kvs.any λkv=>decide (kv.1=k))=true:=by
  rw[xO,h]
  all_goals rfl
 erw[List.any_eq_true.mp q,p,U,e,<-Af.mpr [p:U:ui e]]
def Ij {p:κ×V}{r:oj (κ×V)}{k:κ}(e:p.1=k):JS (p::r) k=JS r k:=by
 unfold JS;rw[vR,A4 (by simp[e])]
def Ik {p:κ×V}{r:oj (κ×V)}{k:κ}(e:¬p.1=k):JS (p::r) k=p::JS r k:=by
 unfold JS;rw[vR,A6 (by simp[e])]
end
end L2
namespace L2
open PySem
inductive D where
 |non|bl (b:Bool)|int (i:Int)|str (z:Str)|lst|dct|tup (xs:List D)
abbrev QI (c:Nat):Bool:=decide (32<=c)&&decide (c<=126)&&decide (c≠37)
abbrev QH (z:Str):Bool:=decide (↑z<=300)&&z.cps.toList.all QI
mutual
noncomputable def good:D->Bool
 | .str z=>QH z| .tup xs=>decide (↑xs<=40)&&goodL xs|_=>Vd
noncomputable def goodL:oj D->Bool
 | []=>v_|x::r=>good x&&goodL r
end
mutual
noncomputable def sz:D->Nat
 | .str z=>↑z+1| .tup xs=>1+szL xs|_=>0
noncomputable def szL:oj D->Nat
 | []=>0|x::r=>sz x+szL r
end
mutual
noncomputable def dp:D->Nat
 | .str _=>1| .tup xs=>1+dpL xs|_=>0
noncomputable def dpL:oj D->Nat
 | []=>0|x::r=>max (dp x) (dpL r)
end
mutual
noncomputable def nd:D->Nat
 | .tup xs=>1+ndL xs|_=>1
noncomputable def ndL:oj D->Nat
 | []=>0|x::r=>nd x+ndL r
end
abbrev isT (d:D):Bool:=good d&&decide (sz d<=600)&&decide (dp d<=12)
def Zs:∀(xs ys:oj D),szL (xs++ys)=szL xs+szL ys
 | [],ys=>by simp[szL]|x::r,ys=>by simp![UN,szL,Zs r ys];omega
def Zz:∀(xs ys:oj D),ndL (xs++ys)=ndL xs+ndL ys
 | [],ys=>by simp[ndL]|x::r,ys=>by simp![UN,ndL,Zz r ys];omega
def sE {k:Nat}:∀(xs:oj D),dpL xs<=k↔∀x>xs,dp x<=k
 | []=>by simp[dpL]|x::r=>by
  let Z:=sE (k:=k) r;let e:dpL (x::r)=max (dp x) (dpL r):=by simp![dpL]
  rw[e];constructor
  .intro h y U;rcases Ab.mp U with rfl|U
   .omega
   .exact Z.mp () y U
  .intro h;let h1:=h x ug;let h2:=Z.mpr λy U=>h y (uf _ U);omega
def AbU {d:D}(h:good d=v_):1<=dp d:=by
 cases d<;>simp_all [good,dp]
abbrev wOk (w:oj (D×Nat)):Bool:=w.all λp=>good p.1&&decide (p.2+dp p.1<=13)
abbrev wSz (w:oj (D×Nat)):Nat:=szL (w.map (·.1))
abbrev G (w:oj (D×Nat))(n:Nat):Bool:=wOk w&&decide (n+wSz w<=600)
def Tm (d:D):G [(d,1)] 0=isT d:=by
 simp![G,wOk,wSz,isT,vN,FV,uA,Uy,szL,U9,T6,RK];let e:decide (1+dp d<=13)=decide (dp d<=12):=by
  rw[vd];omega
 rw[e];cases good d<;>cases decide (sz d<=600)<;>cases decide (dp d<=12)<;>rfl
variable {n:Nat}
def AdI (h:n<=600):G [] n=true:=by simp[G,wOk,wSz,szL,h]
def sT (w:oj (D×Nat))(d:D)(k n:Nat):G (w++ [(d,k)]) n=(wOk w&&(good d&&decide (k+dp d<=13))&&decide (n+(wSz w+sz d)<=600)):=by
 simp![G,wOk,wSz,UX,vN,FV,U9,uj,uA,Uy,Zs,szL,RK]
 rfl
def Ty {w:oj (D×Nat)}{d:D}{k:Nat}(h:good d=Vd):G (w++ [(d,k)]) n=false:=by
 rw[sT,h];simp
def NG {w:oj (D×Nat)}{d:D}{k:Nat}(h:12<k):G (w++ [(d,k)]) n=false:=by
 rw[sT];cases U:good d with
 |false=>simp|true=>
  have:=AbU U;let e:decide (k+dp d<=13)=false:=ud ()
  rw[e];simp
def Acn {w:oj (D×Nat)}{d:D}{k:Nat}(h:600<n+sz d):G (w++ [(d,k)]) n=false:=by
 rw[sT];let e:decide (n+(wSz w+sz d)<=600)=false:=ud ()
 rw[e];simp
def Acm {w:oj (D×Nat)}{xs:oj D}{k:Nat}(h:600<n+1):G (w++ [(¬xs,k)]) n=false:=Acn (by simp![sz];omega)
def NM (xs:oj D)(k:Nat):wOk (xs.map λx=>(x,k+1))=(goodL xs&&xs.all λx=>decide (k+1+dp x<=13)):=by
 induction xs with
 |nil=>rfl|cons x r U=>
  simp![uA,wOk,vN,goodL] at U⊢;rw[U];cases good x<;>cases decide (k+1+dp x<=13)<;>cases goodL r<;>simp
def NL (xs:oj D)(k:Nat):wSz (xs.map λx=>(x,k+1))=szL xs:=by
 unfold wSz;rw[uO]
 congr 1
 induction xs with
 |nil=>rfl|cons x r U=>simp![uA,U];rfl
def AdG {w:oj (D×Nat)}{xs:oj D}{k:Nat}(Z:↑xs<=40)(hk:k<=12):G (w++ [(¬xs,k)]) n=G (w++xs.map λx=>(x,k+1)) (n+1):=by
 rw[sT];unfold G;let e1:wOk (w++xs.map λx=>(x,k+1))=(wOk w&&wOk (xs.map λx=>(x,k+1))):=by unfold wOk;rw[UX]
 let e2:wSz (w++xs.map λx=>(x,k+1))=wSz w+szL xs:=by
  have:=NL xs k;unfold wSz at this⊢;rw[uj,Zs,this]
 let e3:decide (k+dp (¬xs)<=13)=xs.all λx=>decide (k+1+dp x<=13):=by
  let q:=sE (k:=12-k) xs;let e0:dp (¬xs)=1+dpL xs:=by simp![dp]
  rw[e0,U2];constructor
  .intro h;let h:=ui h;refine List.all_eq_true.mpr λx U=>u8 ?_;let h2:=q.mp () x U
   omega
  .intro h;refine u8 ?_;let h2:=q.mpr λx U=>by
    let h3:=ui (List.all_eq_true.mp h x U);omega
   omega
 rw[e1,e2,e3,NM];let e4:good (¬xs)=goodL xs:=by simp![good,u8 Z,Vc]
 let e5:decide (n+(wSz w+sz (¬xs))<=600)=decide (n+1+(wSz w+szL xs)<=600):=by
  rw[vd];simp![sz];omega
 rw[e4,e5]
variable {z:Str}
def AdH {w:oj (D×Nat)}{k:Nat}(U:QH z=v_)(hk:k<=12):G (w++ [(!z,k)]) n=G w (n+(1+↑z)):=by
 rw[sT];unfold G;let Z:good (!z)=true:=by simp![good,U]
 let e3:decide (k+dp (!z)<=13)=true:=u8 (by simp![dp];omega)
 let e5:decide (n+(wSz w+sz (!z))<=600)=decide (n+(1+↑z)+wSz w<=600):=by
  rw[vd];simp![sz];omega
 rw[Z,e3,e5];simp
end L2
namespace AwZ
open PySem PyProof.Rows
open PySem.AutoSeq1 (wpAny_loadPart')
section
variable {prog:o9}{w:og}{A:oh}{E:o6->o7->Prop}{s:o7}
def Aav {j t:o3}{i:Nat}{its:Array o6}{x:o6}{Q:o6->o7->Prop}(Z:s.heap.IsTupleIter j t i)(gt:s.heap.IsTuple t its)(gx:its[i]? =u_ x)
  (q:∀h2,h2.IsTupleIter j t (i+1)->VT j s.heap h2->Q x {s with heap:=h2}):Ve #[w,w] A (GM (-j)) Q E s:=by
 erw[id Z,u,U,cu,du];erw[gt,ut,aa,_,nt,ac];unfold GM;refine A7 (vq (name:=Gy "__next__") Z.typeIs U3
  (vQ U3 Z.typeIs F.entry_tuple_iterator_next ?_ (F.args_tuple_iterator_next_1 _)))
 show Ve _ _ (VM (-j) 0>>=_) _ _ s;refine A7 (vk U du (x:=-t) rfl ?_);show Ve _ _ (if(Vj t==VZ)=v_ then _ else _) _ _ s
 rw[A4 (show¬(Vj t==VZ)=v_ from uc)]
 show Ve _ _ (VM (-j) 1>>=_) _ _ s;refine A7 (vk U du (x:= .int i 0) rfl ?_);show Ve _ _ (Tn (-t)>>=_) _ _ s;refine A7 (Ul aa ac ?_);simp![Tp,gx];refine A7 (rN U du (by simp) (uC [x:1:uC (q _ ?_ (rJ ..))]))
 exact(_,tT _ U (Obj.isFreed_of_fields (Rq du _)),(Obj.cls_mapFields ..).trans cu,by rw[Rq du];simp[VI])
def nR {j t:o3}{i:Nat}{its:Array o6}{Q:o6->o7->Prop}(hh:A.handled=U_)(U:s.heap.IsTupleIter j t i)(gt:s.heap.IsTuple t its)(gx:its[i]? =U_)
  (q:∀h2 e,FL j s.heap h2->(∃u,h2.get? e=u_ u/\u.cls= .type "StopIteration")->E (-e) {s with heap:=h2}):Ve #[w,w] A (GM (-j)) Q E s:=by
 erw[id U,u,Z,cu,du];erw[gt,ut,aa,_,nt,ac];unfold GM;refine A7 (vq (name:=Gy "__next__") U.typeIs U3
  (vQ U3 U.typeIs F.entry_tuple_iterator_next ?_ (F.args_tuple_iterator_next_1 _)))
 show Ve _ _ (VM (-j) 0>>=_) _ _ s;refine A7 (vk Z du (x:=-t) rfl ?_);show Ve _ _ (if(Vj t==VZ)=v_ then _ else _) _ _ s
 rw[A4 (show¬(Vj t==VZ)=v_ from uc)]
 show Ve _ _ (VM (-j) 1>>=_) _ _ s;refine A7 (vk Z du (x:= .int i 0) rfl ?_);show Ve _ _ (Tn (-t)>>=_) _ _ s;refine A7 (Ul aa ac ?_);simp![Tp,gx];refine A7 (UR (A7 (rN Z du (by simp) ?_)))
 show Ve _ _ (newExc (.type "StopIteration") []>>=_) _ _ _;refine A7 ?_;simp![newExc,Ts];refine A7 (vv ?_ (by size_fits))
 refine A7 (m:=t_ _ _) (Hj (a:=VZ) (by first|rfl|(simp![t_];rfl)) ?_)
 refine vv ?_ (by size_fits)
 simp![raiseNew];refine A7 (wpAny_handled ?_)
 first|rw[show A.in1.handled=U_ from hh]|rw[hh]
 refine A7 (uC (rX ?_));exact q _ _ (((rJ ..).extBut.push _).push _) [_:uD _ rfl:1]
structure Apt (z p r i j a b:o3):Prop where
 pz:p≠z
 rz:r≠z
 iz:i≠z
 jz:j≠z
 pr:p≠r
 pi:p≠i
 pj:p≠j
 ri:r≠i
 rj:r≠j
 ij:i≠j
 az:a≠z
 ar:a≠r
 ai:a≠i
 aj:a≠j
 bz:b≠z
 br:b≠r
 bi:b≠i
 bj:b≠j
def Acz {z p r i j a b:o3}{k:Nat}{xs ys:Array o6}{x y u v:o6}{Q:o6->o7->Prop}(D:Apt z p r i j a b)
  (hz:VD s.heap z p r .none) (hp:Vt s.heap p (-i) (-j)) (hr:Vt s.heap r u v)
  (hi:s.heap.IsTupleIter i a k) (hj:s.heap.IsListIter j b k) (ha:s.heap.IsTuple a xs) (hb:s.heap.IsList b ys) (hx:xs[k]? =u_ x) (hy:ys[k]? =u_ y)
  (q:∀h2,VD h2 z p r (VI #[0,s])->Vt h2 r x y->h2.IsTupleIter i a (k+1)->h2.IsListIter j b (k+1)->Vt h2 #[0,s] x y->h2.objs.size=#[0,s]+1->
   (∀c o,c≠z->c≠r->c≠i->c≠j->s.heap.get? c=u_ o->h2.get? c=u_ o)->Q (.ref #[0,s]) {s with heap:=h2}):
  Ve #[w,w] A (g_.«zip.__next__» [[-z]:[]]) (λfin t=>∃v,fin= .done (.ret v)/\Q v t) E s:=by
 show Ve _ _ (VM (-z) 2>>=_) _ _ _;refine A7 (vk hz rfl (x:= .bool Vd) rfl ?_);show Ve _ _ (VM (-z) 3>>=_) _ _ _;refine A7 (vk hz rfl (x:=-p) rfl ?_);refine A7 (Ul hp rfl ?_);show Ve _ _ (GX (-z)>>=_) _ _ s;refine A7 ?_;unfold GX;refine A7 (vk hz rfl (x:= .none) rfl (uC ?_));simp![if_true];refine A7 (UR ?_);refine A7 (vk hz rfl (x:=-r) rfl ?_);refine A7 (vw hz (by simp) λh1 z1 s1=>?_)
 replace z1:VD h1 z p r .ellipsis:=z1
 refine A7 ?_;simp![RL,rW,Ux,pf];refine A7 (A7 (Fc ?_));show Ve _ _ (GM (-i)>>=_) _ _ _;refine A7 (Aav (hi.extBut s1.extBut D.iz) (ha.extBut s1.extBut D.az) hx λh2 i2 s2=>uC ?_);let r2:Vt h2 r u v:=s2.extBut _ _ D.ri (s1.extBut _ _ D.rz hr);refine A7 (Ul r2 rfl ?_);refine A7 (RF r2 λh3 r3 Z=>?_)
 replace r3:Vt h3 r x v:=r3
 refine A7 (Tu (uC ?_));refine A7 (A7 (Fc ?_));show Ve _ _ (GM (-j)>>=_) _ _ _;refine A7 (wpAny_nextOf_list_item (((hj.extBut s1.extBut D.jz).extBut s2.extBut D.ij.symm).extBut Z.extBut D.rj.symm)
  (((hb.extBut s1.extBut D.bz).extBut s2.extBut D.bi).extBut Z.extBut D.br) hy λh4 j4 s4=>uC ?_)
 let r4:Vt h4 r x v:=s4.extBut _ _ D.rj r3;refine A7 (Ul r4 rfl ?_);refine A7 (RF r4 λh5 r5 s5=>?_)
 replace r5:Vt h5 r x y:=r5
 refine A7 (Tu (uC (uC ?_)));refine A7 (Ul r5 rfl ?_);refine A7 (FS ?_);let sz:h5.objs.size=#[0,s]:=by rw[s5.1,s4.1,Z.1,s2.1,s1.1]
 let z5:VD h5 z p r .ellipsis:=s5.extBut _ _ D.rz.symm (s4.extBut _ _ D.jz.symm (Z.extBut _ _ D.rz.symm (s2.extBut _ _ D.iz.symm z1)));let k5:∀c o,c≠z->c≠r->c≠i->c≠j->s.heap.get? c=u_ o->h5.get? c=u_ o:=λc o U c2 c3 c4 e=>
  s5.extBut _ _ c2 (s4.extBut _ _ c4 (Z.extBut _ _ c2 (s2.extBut _ _ c3 (s1.extBut _ _ U e))))
 let i5:h5.IsTupleIter i a (k+1):=((i2.extBut Z.extBut D.ri.symm).extBut s4.extBut D.ij).extBut s5.extBut D.ri.symm;let j5:h5.IsListIter j b (k+1):=j4.extBut s5.extBut D.rj.symm;let aa:z<h5.objs.size:=uG z5;show Ve _ _ (HS (-z) (-h5.objs.size)>>=_) _ _ _;refine A7 ?_;unfold HS;let z6:VD (h5.push {cls:= .type "tuple",data:= .seq #[x,y]}) z p r .ellipsis:=u9 _ z5;refine A7 (vw z6 (by simp) λh7 z7 s7=>?_)
 replace z7:VD h7 z p r (VI h5.objs.size):=z7
 refine vw z7 (by simp) λh8 z8 s8=>?_
 replace z8:VD h8 z p r (VI h5.objs.size):=z8
 let up:∀c o,c≠z->h5.get? c=u_ o->h8.get? c=u_ o:=λc o U e=>s8.extBut _ _ U (s7.extBut _ _ U (u9 _ e));let t8:Vt h8 h5.objs.size x y:=s8.extBut _ _ (U5 aa) (s7.extBut _ _ (U5 aa) (uD _ rfl));let n8:h8.objs.size=h5.objs.size+1:=by rw[s8.1,s7.1,vn]
 rw[sz] at z8 t8 n8;refine uC [0:?_];show Q (-h5.objs.size) _;rw[sz];exact q h8 z8 (up _ _ D.rz r5) (by erw[i5,o,e,g,<-[o:up _ o D.iz e:g]]) (j5.at λo e=>up _ o D.jz e) t8 n8 λc o U c2 c3 c4 e=>up c o U (k5 c o U c2 c3 c4 e)
def zip_go {z p r i j a b:o3}{k:Nat}{xs ys:Array o6}{x y u v:o6}{Q:om o6->o7->Prop}(D:Apt z p r i j a b)
  (hz:VD s.heap z p r .none) (Z:Vt s.heap p (-i) (-j)) (hr:Vt s.heap r u v)
  (hi:s.heap.IsTupleIter i a k) (hj:s.heap.IsListIter j b k) (ha:s.heap.IsTuple a xs) (hb:s.heap.IsList b ys) (hx:xs[k]? =u_ x) (hy:ys[k]? =u_ y)
  (q:∀h2,VD h2 z p r (VI #[0,s])->Vt h2 r x y->h2.IsTupleIter i a (k+1)->h2.IsListIter j b (k+1)->Vt h2 #[0,s] x y->h2.objs.size=#[0,s]+1->
   (∀c o,c≠z->c≠r->c≠i->c≠j->s.heap.get? c=u_ o->h2.get? c=u_ o)->Q (u_ (.ref #[0,s])) {s with heap:=h2}):
  Ve #[w,w] A (VG (-z)) Q E s:=by
 let U:s.TypeIs (-z) "zip":=[_:hz:1];unfold VG;exact A7 (UY (vq (name:=Gy "__next__") U F.slot_zip_next
  (vQ F.slot_zip_next U F.entry_zip_next (Acz D hz Z hr hi hj ha hb hx hy λh2 b1 b2 b3 b4 b5 b6 b7=>uC (q h2 b1 b2 b3 b4 b5 b6 b7)) (F.args_zip_next_1 _))))
def zip_stop {z p r i j a b:o3}{k:Nat}{xs:Array o6}{Q:om o6->o7->Prop}(hh:A.handled=U_)(D:Apt z p r i j a b)
  (hz:VD s.heap z p r .none) (hp:Vt s.heap p (-i) (-j)) (hi:s.heap.IsTupleIter i a k) (ha:s.heap.IsTuple a xs) (hx:xs[k]? =U_)
  (q:∀h2,(∀c o,c≠z->c≠r->c≠i->c≠j->s.heap.get? c=u_ o->h2.get? c=u_ o)->Q U_ {s with heap:=h2}):Ve #[w,w] A (VG (-z)) Q E s:=by
 let tz:s.TypeIs (-z) "zip":=[_:hz:1];unfold VG;refine A7 (UY (vq (name:=Gy "__next__") tz F.slot_zip_next
  (vQ F.slot_zip_next tz F.entry_zip_next ?_ (F.args_zip_next_1 _))))
 show Ve _ _ (VM (-z) 2>>=_) _ _ _;refine A7 (vk hz rfl (x:= .bool Vd) rfl ?_);show Ve _ _ (VM (-z) 3>>=_) _ _ _;refine A7 (vk hz rfl (x:=-p) rfl ?_);refine A7 (Ul hp rfl ?_);show Ve _ _ (GX (-z)>>=_) _ _ s;refine A7 ?_;unfold GX;refine A7 (vk hz rfl (x:= .none) rfl (uC ?_));simp![if_true];refine A7 (UR ?_);refine A7 (vk hz rfl (x:=-r) rfl ?_);refine A7 (vw hz (by simp) λh1 U s1=>?_)
 replace U:VD h1 z p r .ellipsis:=U
 refine A7 ?_;simp![RL,rW,Ux,pf];refine A7 (A7 (Fc ?_));show Ve _ _ (GM (-i)>>=_) _ _ _;refine A7 (nR hh (hi.extBut s1.extBut D.iz) (ha.extBut s1.extBut D.az) hx λh2 e s2 he=>?_);erw[he,oe,Z,ce];let z2:VD h2 z p r .ellipsis:=s2 _ _ D.iz.symm U;let ez:e≠z:=λx=>by subst x;rw[z2,0] at Z;simp at ce
 refine vw z2 (by simp) λh3 _ s3=>?_
 refine A7 (UO (T:="StopIteration") (b:=v_) [oe:s3.extBut _ _ ez Z:ce] R1 ?_);exact uC (q _ λc o c1 _ c3 _ x=>s3.extBut _ _ c1 (s2 _ _ c3 (s1.extBut _ _ c1 x)))
nonrec abbrev q1 (h:o8)(a:o3):o8:=h.push {cls:= .type "tuple_iterator",data:= .fields #[-a,.int 0 0]}
nonrec abbrev q2 (h:o8)(a b:o3):o8:=(q1 h a).push {cls:= .type "list_iterator",data:= .fields #[-b,.int 0 0]}
nonrec abbrev q3 (h:o8)(a b:o3):o8:=(q2 h a b).push {cls:= .type "tuple",data:= .seq #[-h.objs.size,.ref (q1 h a).objs.size]}
nonrec abbrev q4 (h:o8)(a b:o3):o8:=(q3 h a b).push {cls:= .type "tuple",data:= .seq #[.none,.none]}
nonrec abbrev q5 (h:o8)(a b:o3):o8:=(q4 h a b).push {cls:= .type "zip",data:= .fields #[.none,.bool Vd,.bool Vd,.ref (q2 h a b).objs.size,.ref (q3 h a b).objs.size]}
def IL (a b:o3)(xs ys:Array o6):GR (g_.«zip.__new__» [[.type "zip",-a,-b]:[]]) (λ_ R s=>s.heap.IsTuple a xs/\s.heap.IsList b ys/\R (.ok (.ret (.ref (q4 s.heap a b).objs.size))) {s with heap:=q5 s.heap a b}):=
 .of_wp λprog w A R s h=>by
  erw[s,U,g,d,tk,os];erw[h,ha,Z,h];let sub:=sub_zip;let h1:p7 (TD (U,g,d,tk,os)) a xs:=ha;let h2:Heap.IsList (TD (U.push {cls:= .type "tuple_iterator",data:= .fields #[-a,.int 0 0]},g,d,tk,os)) b ys:=Pi Z _
  wp_walk using U6 h1,V5 h2
  exact[0:h]
def zip_call {a b:o3}{xs ys:Array o6}{Q:o6->o7->Prop}(ha:s.heap.IsTuple a xs)(hb:s.heap.IsList b ys)
  (h:∀h2,VD h2 (#[0,s]+4) (#[0,s]+2) (#[0,s]+3) .none->Vt h2 (#[0,s]+2) (.ref #[0,s]) (.ref (#[0,s]+1))->
   Vt h2 (#[0,s]+3) .none .none->h2.IsTupleIter #[0,s] a 0->h2.IsListIter (#[0,s]+1) b 0->h2.objs.size=#[0,s]+5->
   (∀c o,s.heap.get? c=u_ o->h2.get? c=u_ o)->Q (.ref (#[0,s]+4)) {s with heap:=h2}):Ve #[w,w] A (call (.type "zip") [-a,-b]) Q E s:=by
 refine callType_new F.called_zip () (F.typeCall_zip_2 _ _) (F.newCall_zip_2 _ _) (λobj=>F.args_object_init_3 obj _ _) F.entry_zip_new (IL a b xs ys) [ha:hb:?_]
 let U:(q1 s.heap a).objs.size=#[0,s]+1:=vn ..;let Z:(q2 s.heap a b).objs.size=#[0,s]+2:=by rw[vn,U]
 let z3:(q3 s.heap a b).objs.size=#[0,s]+3:=by rw[vn,Z]
 let z4:(q4 s.heap a b).objs.size=#[0,s]+4:=by rw[vn,z3]
 let z5:(q5 s.heap a b).objs.size=#[0,s]+5:=by rw[vn,z4]
 let g5:(q5 s.heap a b).get? (q4 s.heap a b).objs.size=u_ _:=uD _ rfl;let g4:(q5 s.heap a b).get? (q3 s.heap a b).objs.size=u_ _:=u9 _ (uD _ rfl);let g3:(q5 s.heap a b).get? (q2 s.heap a b).objs.size=u_ _:=u9 _ (u9 _ (uD _ rfl));let g2:(q5 s.heap a b).get? (q1 s.heap a).objs.size=u_ _:=u9 _ (u9 _ (u9 _ (uD _ rfl)));let g1:(q5 s.heap a b).get? #[0,s]=u_ _:=u9 _ (u9 _ (u9 _ (u9 _ (uD _ rfl))));show _/\_;rw[Z,z3,z4] at g5;rw[U,Z] at g3;rw[z3] at g4;rw[U] at g2;rw[z4];exact[[_:g5:1]:h _ g5 g3 g4 (_,g1,1,1) (_,g2,1,1) z5 λc o x=>u9 _ (u9 _ (u9 _ (u9 _ (u9 _ x))))]
def Ado {e j t:o3}{i:Nat}{c:Int}{its:Array o6}{x U:o6}{Q:o6->o7->Prop}(he:VX s.heap e j c U)(gj:s.heap.IsTupleIter j t i)(gt:s.heap.IsTuple t its)(gx:its[i]? =u_ x)(ej:e≠j)
  (q:∀h2,HL h2 e j (c+1) x #[0,s]->h2.IsTupleIter j t (i+1)->h2.get? #[0,s]=u_ {cls:= .type "tuple",data:= .seq #[.int c s.toks,x]}->h2.objs.size=#[0,s]+1->
   (∀b o,b≠e->b≠j->s.heap.get? b=u_ o->h2.get? b=u_ o)->Q (.ref #[0,s]) {s with heap:=h2,toks:=s.toks+1}):
  Ve #[w,w] A (g_.«enumerate.__next__» [[-e]:[]]) (λfin t=>∃v,fin= .done (.ret v)/\Q v t) E s:=by
 erw[s,Z,g,d,tk,os];show Ve _ _ (VM (-e) 2>>=_) _ _ _;refine A7 (vk he rfl (x:=-j) rfl ?_);refine A7 (Aav gj gt gx λh1 j1 s1=>?_)
 replace s1:VT j Z h1:=s1
 let e1:VX h1 e j c U:=(s1.2 e ej).trans he;show Ve _ _ (VM (-e) 3>>=_) _ _ (h1,g,d,tk,os);refine A7 (vk e1 rfl (x:=VI c) rfl ?_);show Ve _ _ (VM (-e) 4>>=_) _ _ (h1,g,d,tk,os);refine A7 (vk e1 rfl (x:= .none) rfl ?_);show Ve _ _ (mkInt c>>=_) _ _ (h1,g,d,tk,os);refine A7 (wpAny_mkInt ?_);show Ve _ _ (setField (-e) 3 (VI (c+1))>>=_) _ _ (h1,g,d,tk+1,os);refine A7 (vw e1 (by simp) λh2 e2 s2=>?_)
 replace s2:VT e h1 h2:=s2
 replace e2:VX h2 e j (c+1) U:=e2
 show Ve _ _ (setField (-e) 4 .none>>=_) _ _ (h2,g,d,tk+1,os);refine A7 (vw e2 (by simp) λh3 e3 s3=>?_)
 replace s3:VT e h2 h3:=s3
 replace e3:VX h3 e j (c+1) U:=e3
 show Ve _ _ (Ts [.int c tk,x]>>=_) _ _ (h3,g,d,tk+1,os);refine A7 (FS ?_);let e4:VX (h3.push {cls:= .type "tuple",data:= .seq #[.int c tk,x]}) e j (c+1) U:=u9 _ e3;generalize hg:h3.push {cls:= .type "tuple",data:= .seq #[.int c tk,x]}=h4 at e4;let sz:h3.objs.size=Z.objs.size:=by rw[s3.1,s2.1,s1.1]
 let el:e<Z.objs.size:=uG he;let t4:h4.get? Z.objs.size=u_ {cls:= .type "tuple",data:= .seq #[.int c tk,x]}:=by rw[<-hg,<-sz];exact uD _ rfl
 let n4:h4.objs.size=Z.objs.size+1:=by rw[<-hg,vn,sz]
 let k4:∀b o,b≠e->b≠j->Z.get? b=u_ o->h4.get? b=u_ o:=λb o be bj y=>by
  rw[<-hg];exact u9 _ (s3.extBut b o be (s2.extBut b o be (s1.extBut b o bj y)))
 let j4:h4.IsTupleIter j t (i+1):=by
  erw[j1,o,y,r,<-⟨o,by rw[<-hg];exact u9 _ (s3.extBut j o (U1 ej) (s2.extBut j o (U1 ej) y)),r⟩]
 show Ve _ _ (GX (-e)>>=_) _ _ (h4,g,d,tk+1,os);rw[sz];clear hg e3 s3 e2 s2 e1 s1 j1 sz h3 h2 h1;refine A7 ?_;unfold GX;refine A7 (vk e4 rfl (x:= .none) rfl (uC ?_));simp![if_true];refine A7 (UR ?_);refine A7 (vk e4 rfl (x:=U) rfl ?_);refine A7 (vw e4 (by simp) λh5 e5 s5=>?_)
 replace s5:VT e h4 h5:=s5
 replace e5:VX h5 e j (c+1) x:=e5
 show Ve _ _ (HS (-e) (-Z.objs.size)>>=_) _ _ (h5,g,d,tk+1,os);refine A7 ?_;unfold HS;refine A7 (vw e5 (by simp) λh6 e6 s6=>?_)
 replace s6:VT e h5 h6:=s6
 replace e6:HL h6 e j (c+1) x Z.objs.size:=e6
 refine vw e6 (by simp) λh7 e7 s7=>?_
 replace s7:VT e h6 h7:=s7
 replace e7:HL h7 e j (c+1) x Z.objs.size:=e7
 let up:∀b o,b≠e->h4.get? b=u_ o->h7.get? b=u_ o:=λb o be y=>s7.extBut b o be (s6.extBut b o be (s5.extBut b o be y));refine A7 (Tu (uC [0:q h7 e7 ?_ (up _ _ (U5 el) t4) ?_ λb o be bj y=>up b o be (k4 b o be bj y)]))
 .erw[j4,o,y,r,<-[o:up j o (U1 ej) y:r]]
 .rw[s7.1,s6.1,s5.1,n4]
def enum_go {e j t:o3}{i:Nat}{c:Int}{its:Array o6}{x U:o6}{Q:om o6->o7->Prop}(Z:VX s.heap e j c U)(gj:s.heap.IsTupleIter j t i)(gt:s.heap.IsTuple t its)(gx:its[i]? =u_ x)(ej:e≠j)
  (q:∀h2,HL h2 e j (c+1) x #[0,s]->h2.IsTupleIter j t (i+1)->h2.get? #[0,s]=u_ {cls:= .type "tuple",data:= .seq #[.int c s.toks,x]}->h2.objs.size=#[0,s]+1->
   (∀b o,b≠e->b≠j->s.heap.get? b=u_ o->h2.get? b=u_ o)->Q (u_ (.ref #[0,s])) {s with heap:=h2,toks:=s.toks+1}):Ve #[w,w] A (VG (-e)) Q E s:=by
 let te:s.TypeIs (-e) "enumerate":=[_:Z:1];unfold VG;exact A7 (UY (vq (name:=Gy "__next__") te UA
  (vQ UA te F.entry_enumerate_next (Ado Z gj gt gx ej λh2 b1 b2 b3 b4 b5=>uC (q h2 b1 b2 b3 b4 b5)) (F.args_enumerate_next_1 _))))
def enum_stop {e j t:o3}{i:Nat}{c:Int}{its:Array o6}{U:o6}{Q:om o6->o7->Prop}(hh:A.handled=U_)(Z:VX s.heap e j c U)(gj:s.heap.IsTupleIter j t i)(gt:s.heap.IsTuple t its)(gx:its[i]? =U_)
  (q:∀h2,FL j s.heap h2->Q U_ {s with heap:=h2}):Ve #[w,w] A (VG (-e)) Q E s:=by
 let te:s.TypeIs (-e) "enumerate":=[_:Z:1];unfold VG;refine A7 (UY (vq (name:=Gy "__next__") te UA
  (vQ UA te F.entry_enumerate_next ?_ (F.args_enumerate_next_1 _))))
 show Ve _ _ (VM (-e) 2>>=_) _ _ _;refine A7 (vk Z rfl (x:=-j) rfl ?_);refine A7 (nR hh gj gt gx λh2 y s2 hy=>?_);erw[hy,o,g,c];refine A7 (UO (T:="StopIteration") (b:=v_) [o:g:c] R1 ?_);exact uC (q _ s2)
def Aea (T:String)(args:oj o6)(kw:oj (Str×o6)):(Code.builtin "type.__call__" [.type T::args:kw]).weight=0:=rfl
def new_kw {T Z:String}{Bn:g_}{args:oj o6}{kw:oj (Str×o6)}{S:PySem.Spec}{Q:o6->o7->Prop}(U:TypeCalled T Z "object.__init__")
  (ag:(u_ Z !=u_ "object.__new__")=v_) (ah:FJ T [args:kw]=pure GB) (ac:Hz Z [.type T::args:kw]=pure GB)
  (hok:∀obj,argsOk "object.__init__" [obj::args:kw]) (en:entryFor table Z=u_ Bn) (g:GR (Bn [.type T::args:kw]) S)
  (h:S A.in1 (HK (λobj s1=>s1.TypeIs obj T/\Q obj s1) E) s):Ve #[w,w] A (call (.type T) args kw) Q E s:=by
 erw[U.mro,c,tl,hm];let ad:=U.made;let af:=U.sub;refine Hc (To ?_);show Ve _ _ (callAny (.type T) _) _ _ _;refine uC [Code.quiet_builtin _ ():UZ F.entry_type_call ?_]
 rw[Around.under_plain (Aea T args kw) (units_type_call_type T args kw)];let g1:=U.notType;let g2:=U.canCreate
 repeat (any_goals (first|assumption|wp_step))
 refine Uw (TF U.plain en (Hj ac (g prog w A.in1 _ s h))) λr s1 hr=>?_;cases r with
 |error e=>exact hr|ok fl=>
  cases fl with
  |ret obj=>
   erw[hr,hT,hq];let ak:=U.init.lookup;let al:=U.init.bind obj
   repeat (any_goals (first|assumption|wp_step))
   let gi:GR (g_.«object.__init__» ⟨obj::args,kw⟩) (λ_ R s=>s.TypeIs obj T/\R (.ok (.ret .none)) s):=by
    refine Meets.of_wp λprog w A R s hs=>?_;erw[hs,hT,hq];cases hc:(!(args.isEmpty)|| !(kw.isEmpty)) with
    |false=>
     show Ve _ _ (if(!(args.isEmpty)|| !(kw.isEmpty))=v_ then _ else _) _ _ _
     rw[A4 (by rw[hc];exact uc)]
     exact uC [0:hq]
    |true=>
     repeat (any_goals (first|assumption|wp_step))
     exact[0:hq]
   refine Uw (TF U.init.plain F.entry_object_init (U.init.check _ _ _ _ _ _ _ _ hT (hok obj) (gi prog w A.in1 (HK (λr s2=>r= .none/\Q obj s2) E) s1 [hT:1:hq]))) λr2 s2 aa=>?_;cases r2 with
   |error e=>exact aa|ok ae=>
    cases ae with
    |ret r=>
     erw[aa,rfl,hq]
     repeat (any_goals (first|assumption|wp_step))
    |_=>exact aa.elim
  |_=>exact hr.elim
end
end AwZ
namespace L2
open PySem PySem.Spec PyProof.Rows
abbrev Its (x:Str):It:=⟨λi _=>i<x.cps.size,λi H v H'=>H'=H/\∃c,x.cps[i]? =u_ c/\v= .str ⟨#[c]⟩,λi _=>i=x.cps.size⟩
variable {w:og}{K:o0}{tg:Expr}{x:Str}
def AZ {P:o9}{t:Tok}{it:o3}(ty:String)(U:ty="str_ascii_iterator"\/ty="str_iterator"):
  NE P w K tg (Its x) [it] it (λi h=>h.IsStrIter it ty x t i) where
 mem:=by simp
 obj:=λi h st b Z=>by
  let e:b=it:=by simpa using Z
  subst e;erw[st,o,e,c,d,<-⟨o,e,λv z=>by rw[d,0] at z⟩]
 keep:=λi h h' st k=>by
  erw[st,o,e,r,<-⟨o,k it (by simp) o e,r⟩]
 item:=by
  intro X hP hw hK hc i ot s σ H E I hf st hg;subst hP hw hK;obtain⟨f0,f1,f2,f3,f4,f5⟩:=hf it (by simp)
  let W:Walks X.prog X.w X.A it [it] [it] x.cps.size (SignAt x) (λi h=>h.IsStrIter it ty x t i):=by
   rcases U with rfl|rfl
   .exact Fs (I.ok.hd hc) it x t
   .exact Rk (I.ok.hd hc) it x t
  refine vf (n:=1) I.tk (W.item i s _ _ hg st λv h' tk hv aa kk=>?_);intro htk;erw[hv,c,u,hx,rfl];let I1:Inv X ot σ H {s with heap:=h',toks:=tk}:=I.turned (λb o Z e=>kk b o (by simpa using Z) e) f0 f1 f3 f4 f5
  erw[id aa,o,e,c',d];refine⟨0,EY (s:={s with heap:=h',toks:=tk}) e c' d (by rcases U with rfl|rfl<;>decide) ⟨.str ⟨#[c]⟩,H,I1,[u:1],⟨1,c,hx,1⟩,aa,λb Z=>(hf b Z).1⟩⟩
 done:=by
  intro X hP hw hK hc i ot s σ H E I hf st hg;subst hP hw hK;let ac:i=x.cps.size:=hg;subst ac;obtain⟨f0,f1,f2,f3,f4,f5⟩:=hf it (by simp)
  let W:Walks X.prog X.w X.A it [it] [it] x.cps.size (SignAt x) (λi h=>h.IsStrIter it ty x t i):=by
   rcases U with rfl|rfl
   .exact Fs (I.ok.hd hc) it x t
   .exact Rk (I.ok.hd hc) it x t
  exact vf (n:=1) I.tk (W.done s _ _ st λh' tk kk htk=>⟨1,I.turned (λb o Z e=>kk b o (by simpa using Z) e) f0 f1 f3 f4 f5⟩)
 self:=λ_ _ _ _ _ st h=>by
  rcases U with rfl|rfl
  .exact wpAny_pyIter_striter_ascii st h
  .exact wpAny_pyIter_striter_wide st h
section
variable {X:Cx}{tg:Expr}
inductive AdF (R:(It->Hp->Prop))(x:V)(H1:Hp):Prop
 |mk (z:_)(_:x= !z)(_:R (Its z) H1)
abbrev AeE (tl:TE):TI:=λσ H R=>tl σ H λx H1=>AdF R x H1
def MW {l:Expr}{tl:TE}(Z:PE X l tl):PI X tg l (AeE tl):=by
 rw[2,R,I,h];refine thn (Z ot s σ H _ I h) λv s1 zq=>?_;erw[zq,x,H1,U,r1,q1];erw[q1,z,e,q];subst e;erw[r1,t,rfl];let fp:∀(o:Obj),∀b> [#[0,s1]],AX X ot H1 b:=λo b hb=>by
  let e:b=#[0,s1]:=by simpa using hb
  subst e;exact U.fpOk (uh _) (U.hok.fresh (uh _))
 cases ha:z.cps.all (·<128)
 .refine wpAny_pyIter_wide ha ?_;exact(#[0,s1],[#[0,s1]],_,_,H1,1,U.kept (t':=s1.toks) λb o e=>u9 _ e,AZ "str_iterator" (.inr rfl),(_,uD _ rfl,1,1),fp default,q)
 .refine wpAny_pyIter_ascii ha ?_;exact(#[0,s1],[#[0,s1]],_,_,H1,1,U.kept (t':=s1.toks) λb o e=>u9 _ e,AZ "str_ascii_iterator" (.inl rfl),(_,uD _ rfl,1,1),fp default,q)
inductive AdR (x:V)(lo:Option Int)(hi:Option Int)(H:Hp)(Q:VK):Prop
 |mk (z:_)(_:x= !z)(_:↑z<=Vg)(_:Q (.str (HJ z lo hi)) H)
abbrev Cj:o6->om (Int×Tok)
 | .int i t=>u_ (i,t)|_=>U_
def AaS:SlR X AdR:=by
 rw[2,x,v,U,Z,lo,hi,sl,Q,I,rx,hs,pl,pu,h];erw[h,z,rfl,hz,q];erw[rx,t,rfl];rw[_,"str",_,F.slot_str_getitem.lookup,vY _ _ _];let hl:U=partValue (Cj U)/\lo=(Cj U).map (·.1):=by cases pl<;>exact[1:1]
 let hu:Z=partValue (Cj Z)/\hi=(Cj Z).map (·.1):=by cases pu<;>exact[1:1]
 erw[hs,o,e1,e2,e3];refine vf (n:=1) I.tk ?_;refine wpAny_getItem_str_slice (l:=Cj U) (u:=Cj Z) (st:=U_) (o,e1,e2,by rw[e3,<-hl.1,<-hu.1];rfl) rfl ?_
 refine post_val_or_str [?_:λt' k=>?_]
 .exact uY (RT z _ _) hz
 .intro htk;exact(.str (HJ z lo hi),H,I.tok k,⟨t',by rw[hl.2,hu.2];rfl⟩,q)
def qW {K:o0}(Z:X.K=K):jg X (.builtin "isinstance") (λxs H Q=>∃x T t b,xs= [x,.ty T]/\Cg K H x t/\PySem.W.kitOne K t (.type T)=u_ b/\Q (.bl b) H):=by
 rw[2,xs,us,Q,I,r,h];erw[h,x,T,t,b,rfl,ty,e,q];erw[sU r,u,u',rfl,ru,U];rw[U,0];subst Z;exact vf (n:=1) I.tk (EN I ru ty e λtk htk=>(.bl b,H,I.tok tk,1,q))
def sR:∀bs:oj Bool,(Vq ↑bs).all (λi=>bs.getD i v_)=bs.all id
 | []=>rfl|b::r=>by
  rw[um,RX,vN,US,vN];let e:(Vq ↑r).all ((λi=>(b::r).getD i v_)∘rn)=(Vq ↑r).all λi=>r.getD i true:=by
   congr 1
  rw[e,sR r]
  rfl
def zh (hc:X.calm=v_):jg X (.builtin "all") (λxs H Q=>∃(p:o3) (bs:oj Bool),xs= [-p]/\SqL X.K H p (bs.map V.bl)/\Q (.bl (bs.all id)) H):=by
 rw[2,xs,us,Q,I,r,h];erw[h,p,bs,rfl,hp,q];erw[xn r,u,rfl,ru];rw[ru,0];erw[I.list hp,its,rv,pl,hz];let ac:p<#[0,s]:=by erw[pl,o,n,e,_,<-uG e]
 refine vf (n:=1) I.tk ?_;refine call_all_walk (V5 pl.isList ?_);let up:∀b o,s.heap.get? b=u_ o->(s.heap.push {cls:= .type "list_iterator",data:= .fields #[-p,.int 0 0]}).get? b=u_ o:=λb o e=>u9 _ e;let hl:↑its=↑bs:=by have:=↑rv;simpa using this.symm
 rw[_,#[0,s],_,_,_,_,_,λi=>bs.getD i v_,1,Walks.list (show X.A.in1.handled=U_ from I.ok.hd hc) #[0,s] p (uU ac) its.toArray,[(_,uD _ rfl,1,1):pl.isList.push _],?_,?_]
 .intro i v s' Q' E' hv hQ;let U:its[i]? =u_ v:=by simpa using hv
  let hi:i<↑its:=(Ag.mp U).1;obtain⟨u,e1,e2⟩:=rv.get (i:=i) (x:= .bl (bs[i]'())) (by simp[show i<bs.length by omega])
  rw[U,0] at e1;rw[e2,0];have:bs.getD i v_=bs[i]'():=by simp[GP,show i<bs.length by omega]
  let Z:Q' (bs.getD i v_) s':=hQ;rw[this] at Z;exact vE Z
 .intro h' tk kk htk;let aa:(Vq its.toArray.size).all (λi=>bs.getD i v_)=bs.all id:=by
   rw[ur,hl];exact sR bs
  rw[aa];let I1:=I.kept (t':=s.toks) (h':=s.heap.push {cls:= .type "list_iterator",data:= .fields #[-p,.int 0 0]}) up;let ad:=I.fpOk (uh _) (I.hok.fresh (uh #[0,s]));erw[ad,f0,f1,f2,f3,f4,f5,<-(.bl (bs.all id),H,I1.turned (it:=#[0,s]) (λb o hb e=>kk b o (by simpa using hb) e) f0 f1 f3 f4 f5,1,q)]
end
section
variable {X:Cx}
def qaS {x:Str}{i:Int}{pos:Pos}(U:Gl X x)(hm:∃t,X.mg x=u_ (.int i t))(hd:(x==("__debug__":Str))=Vd):PE X (.Name x pos) (tC (.int i)):=by
 erw[hm,t,hm,<-An U hm [t:1] hd]
def Aba {x z:Str}{pos:Pos}(U:Gl X x)(hm:∃t,X.mg x=u_ (.str z t))(hd:(x==("__debug__":Str))=Vd):PE X (.Name x pos) (tC (!z)):=by
 erw[hm,t,hm,<-An U hm [t:1] hd]
def pe_gR {x:Str}{a:o3}{pos:Pos}(U:Gl X x)(hm:X.mg x=u_ (-a))(hd:(x==("__debug__":Str))=Vd):PE X (.Name x pos) (tC (-a)):=An U hm rfl hd
end
variable {H:Hp}{p:o3}
def qf (h:H p=U_)(o:HO):ic H (upd H p o):=λb u q=>by rw[qk (ql q h)];exact q
abbrev iK (p:o3)(H H':Hp):Prop:=∀b o,H b=u_ o->b≠p->H' b=u_ o
variable {H1 H2:Hp}
def iK.trans (a:iK p H H1)(b:iK p H1 H2):iK p H H2:=λc o h n=>b c o (a c o h n) n
def iK.upd (p:o3)(H:Hp)(o:HO):iK p H (L2.upd H p o):=λb u h n=>by rw[qk n];exact h
variable {H':Hp}
def iK.same (k:iK p H1 H')(s:ic H H1)(n:H p=U_):ic H H':=λb o h=>k b o (s b o h) (ql h n)
def Yn {α:Type}{xs:oj α}{i:Int}(h0:0<=i)(h1:i<↑xs):∃c,atI xs i=u_ c:=by
 obtain⟨n,rfl⟩:∃n:Nat,i=(n:Int):=[i.toNat:()]
 let hn:n<↑xs:=by omega
 exact[xs[n]:qy (ub hn)]
abbrev nG (cells:oj (Str×o3)):oj (Str×VR)->oj (Str×o3)->oj (Str×o3)
 | [],cs=>cs|(n,k)::r,cs=>nG cells r (if k== .free then(match cells.lookup n with|some a=>(n,a)::cs|none=>cs) else cs)
set_option tactic.hygienic true in
def qaa {cells:oj (Str×o3)}:∀{names:oj (Str×VR)}{cs:oj (Str×o3)},(∀y c,cs.lookup y=u_ c->cells.lookup y=u_ c)->∀y c,(nG cells names cs).lookup y=u_ c->cells.lookup y=u_ c
 | [],_,h=>h|(n,k)::r,cs,h=>by
  unfold nG;refine qaa λy c e=>?_;split at e
  .split at e
   .rename_i a ha
    rw[vt] at e;split at e
    .rename_i Z
     let U:y=n:=beq_iff_eq.mp Z;subst U;rw[e,0];exact ha
    .exact h y c e
   .exact h y c e
  .exact h y c e
def sG {cells:oj (Str×o3)}:∀{names:oj (Str×VR)}{cs:oj (Str×o3)}{y:Str},(∃c,cs.lookup y=u_ c)->∃c,(nG cells names cs).lookup y=u_ c
 | [],_,_,h=>h|(n,k)::r,cs,y,h=>by
  unfold nG;refine sG ?_;split
  .split
   .rw[vt];split
    .exact⟨0⟩
    .exact h
   .exact h
  .exact h
def qad {cells:oj (Str×o3)}:∀{names:oj (Str×VR)}{cs:oj (Str×o3)}{y:Str},(y,Vx)>names->(∃c,cells.lookup y=u_ c)->∃c,(nG cells names cs).lookup y=u_ c
 | [],_,_,h,_=>nomatch h|(n,k)::r,cs,y,h,U=>by
  unfold nG;rcases Ab.mp h with e|h
  .rw[e,0];refine sG ?_;erw[U,c,U];rw[A6 (),U]
   exact⟨c,by simp[vt]⟩
  .exact qad h U
def ZJ {env:Env}:∀{names:oj (Str×VR)}{cs:oj (Str×o3)},(∀y,(y,Vx)>names->∃c,env.cells.lookup y=u_ c)->
  (VV names cs λx r=>(do
   if x.2== .free then
    let a<-HQ env x.1
    pure (hZ ((x.1,a)::r))
   else pure (hZ r):Sem (ForInStep (oj (Str×o3)))))=(pure (nG env.cells names cs):Sem (oj (Str×o3)))
 | [],cs,_=>rfl|(n,k)::r,cs,h=>by
  rw[Ux];let hr:∀y,(y,Vx)>r->∃c,env.cells.lookup y=u_ c:=λy hy=>h y (uf _ hy);unfold nG;by_cases U:(k==Vx)=v_
  .let Z:k= .free:=by simpa using U
   subst Z;erw[h n ug,c,hc];let e:HQ env n=pure c:=by unfold HQ;rw[hc]
   simp![U,if_true,e,hc,T1];exact ZJ hr
  .simp![A4 U,T1];exact ZJ hr
def kP {scope:Vv}{env:Env}(h:∀y,(y,Vx)>scope.names->∃c,env.cells.lookup y=u_ c):HE scope env=pure (nG env.cells scope.names []):=by
 unfold HE;let q:=ZJ (cs:= []) h;show(VV scope.names ([]:oj (Str×o3)) (λx r=>(do
   if x.2== .free then
    let a<-HQ env x.1
    pure (hZ ((x.1,a)::r))
   else pure (hZ r):Sem (ForInStep (oj (Str×o3)))))>>=λcs=>pure cs)=_
 rw[q,T1]
def Z8 {env:Env}(hf:env.scope.kind= .function):∀{names:oj (Str×VR)}{x:Str},names.lookup x=u_ .free->env.kindOf x=u_ .cell->
  (names.map λ(n,k)=>if(k==Vx&&env.scope.kind== .function&&env.kindOf n==u_ .cell) then(n,Gg) else(n,k)).lookup x=u_ .cell
 | [],_,h,_=>by simp at h|(n,k)::r,x,h,hc=>by
  let ih:= @Z8 env hf r x;show Vz x ((if(k==Vx&&env.scope.kind== .function&&env.kindOf n==u_ .cell)=v_ then(n,Gg) else(n,k))::_)=_
  cases U:x==n with
  |true=>
   simp![vt,U] at h;rw[h,0];let aa:x=n:=beq_iff_eq.mp U;subst aa;rw[A6 (by rw[hf,hc];rfl)]
   simp[vt]
  |false=>
   simp![vt,U] at h;by_cases Z:(k==Vx&&env.scope.kind== .function&&env.kindOf n==u_ .cell)=v_
   .rw[A6 Z];simp![vt,U];exact ih h hc
   .rw[A4 Z];simp![vt,U];exact ih h hc
def wZ {env:Env}:∀{names:oj (Str×VR)}{x:Str},(∀y>names,y.2≠ .cell)->
  ((names.map λ(n,k)=>if(k==Vx&&env.scope.kind== .function&&env.kindOf n==u_ .cell) then(n,Gg) else(n,k)).lookup x=u_ .cell\/
   (names.map λ(n,k)=>if(k==Vx&&env.scope.kind== .function&&env.kindOf n==u_ .cell) then(n,Gg) else(n,k)).lookup x=u_ .free)->(x,Vx)>names
 | [],_,_,h=>by simp at h|(n,k)::r,x,hn,h=>by
  let ih:= @wZ env r x (λy hy=>hn y (uf _ hy));let g:Vz x ((if(k==Vx&&env.scope.kind== .function&&env.kindOf n==u_ .cell)=v_ then(n,Gg) else(n,k))::(r.map λ(n,k)=>if(k==Vx&&env.scope.kind== .function&&env.kindOf n==u_ .cell) then(n,Gg) else(n,k)))=u_ .cell\/
   Vz x ((if(k==Vx&&env.scope.kind== .function&&env.kindOf n==u_ .cell)=v_ then(n,Gg) else(n,k))::(r.map λ(n,k)=>if(k==Vx&&env.scope.kind== .function&&env.kindOf n==u_ .cell) then(n,Gg) else(n,k)))=u_ .free:=h
  let aa:k≠ .cell:=hn (n,k) ug;by_cases hc:(k==Vx&&env.scope.kind== .function&&env.kindOf n==u_ .cell)=v_
  .rw[A6 hc] at g;let hk:k= .free:=by
    rw[uE,uE] at hc
    simpa using hc.1.1
   subst hk;cases Z:x==n with
   |true=>
    let U:x=n:=beq_iff_eq.mp Z;subst U;exact ug
   |false=>
    simp![vt,Z] at g;exact uf _ (ih g)
  .rw[A4 hc] at g;cases Z:x==n with
   |true=>
    let U:x=n:=beq_iff_eq.mp Z;subst U;simp![vt,Z] at g;rcases g with g|g
    .exact A8 (uL g) aa
    .rw[show k=Vx from uL g]
     exact ug
   |false=>
    simp![vt,Z] at g;exact uf _ (ih g)
nonrec abbrev blk (X:Cx)(scope:Vv)(Nb:oj Str)(cl:oj (Str×o3))(C:o3)(s₀:o7)(H₀:Hp)(fp:oj o3)(pn:oj (o3×Obj)):Cx:=
 {X with N:=Nb,s₀:=s₀,H₀:=H₀,env:=T0 scope cl C X.env,outer:=X.stack,ex:=fp,fn:=λ_=>Vd,pn:=pn,xe:=λ_ _=>False}
structure LcS (X:Cx)(scope:Vv)(Nb:oj Str)(nt:Nat)(fr:oj Nat):Prop where
 kind:scope.kind= .function
 cell:∀y>scope.names,y.2≠ .cell
 names:∀y>scope.names,y.2= .local->scope.names.lookup y.1=u_ .local
 free:∀y>scope.names,y.2= .free->X.env.kindOf y.1=u_ .cell
 len:↑Nb=nt+↑fr
 fr:∀(k j:Nat) (x:Str),fr[k]? =u_ j->Nb[nt+k]? =u_ x->X.N[j]? =u_ x/\scope.names.lookup x=u_ .free
abbrev OD (nt:Nat)(fr:oj Nat)(σ:St):St:=rq nt U_++fr.map λj=>(σ[j]?).join
section
variable {pr:o9}{wo:og}{ar:oh}{RR:GL->o7->Prop}{st:o7}
nonrec abbrev nb (pr:o9)(wo:og)(ar:oh)(en:Env)(RR:GL->o7->Prop):o6->o7->Prop:=notedBy (Vs pr wo) ar en λx t=>RR (.error x) t
nonrec abbrev AdM (en:Env)(cs:oj Expr):Sem Bool:=VV cs v_ λc b=>if b=v_ then do let y<-isTrue c en (eval c en);pure (hZ y) else pure (hZ b)
def AO {el tg aa:Expr}{cs:oj Expr}{sc:Vv}{ps:Pos}{U Z:o6}{en:Env}(J:Nat->o7->Prop)
  (ac:∀k t,J k t->Ve (Vs pr wo) ar (VG U) (λr t1=>match r with
   |none=>RR (.ok .next) t1|some v=>Ve (Vs pr wo) ar (tu tg U v) (λ_ t2=>Ve (Vs pr wo) ar (Ge tg en v) (λ_ t3=>Ve (Vs pr wo) ar (AdM en cs) (λb t4=>
     if b=v_ then Ve (Vs pr wo) ar (eval el en) (λx t5=>Ve (Vs pr wo) ar (call (.builtin "list.append") [Z,x]) (λ_ t6=>∃m,m<k/\J m t6) (nb pr wo ar en RR) t5) (nb pr wo ar en RR) t4
     else∃m,m<k/\J m t4) (nb pr wo ar en RR) t3) (nb pr wo ar en RR) t2) (nb pr wo ar en RR) t1) (nb pr wo ar en RR) t)
  (k:Nat) (h0:J k st):VL (Vs pr wo) ar (.compLoop (.ListComp el [(tg,aa,cs,(0))] sc ps) 0 U Z en) RR st:=by
 refine codeAny_loop rfl J (λk t hJ=>?_) k h0;show Ve _ ar ((compTurn (.ListComp el [(tg,aa,cs,(0))] sc ps) 0 U Z en).onRaise λx=>do noteFrame x en;theTreesLotGoes x) _ _ t
 rw[compTurn_list];refine wpAny_noted (A7 (HN (A7 (thn (ac k t hJ) λr t1 q1=>?_))));cases r with
 |none=>exact uC q1|some v=>
  refine A7 (thn q1 λ_ t2 q2=>A7 (thn q2 λ_ t3 q3=>A7 (thn q3 λb t4 q4=>?_)));cases b with
  |false=>exact uC [1:q4]|true=>exact A7 (A7 (thn q4 λx t5 q5=>A7 (thn q5 λ_ t6 q6=>uC (uC [1:q6]))))
end
abbrev Aca (X:Cx)(ifs:oj Expr)(t:TT):Prop:=
 ∀(ot:oj (o3×Obj)) (s:o7) (σ:St) (H:Hp) (Q:Bool->Hp->Prop),#[I]->t σ H Q->Ve #[X,X] X.A (AdM X.env ifs) (TP X ot σ Q) X.xe s
abbrev nK:TT:=λ_ H Q=>Q v_ H
def yB {X:Cx}:Aca X [] nK:=λ_ _ _ H _ I h=>wpAny_tests_nil [H:I:h]
def DL {X:Cx}{c:Expr}{t:TT}(h:PT X c t):Aca X [c] t:=λot s σ H Q I U=>wpAny_tests_one (h ot s σ H Q I U)
abbrev Az (D:o3)(J:It)(g:TG)(tc:TT)(te:TE)(σb:St)(H1:Hp)(Q:VK):Prop:=
 ∃(n:Nat) (W:Nat->St->oj V->Hp->Prop),n<=Vg/\W 0 σb [] (upd H1 D (.lst []))/\
  (∀i σ ys H,i<n->W i σ ys H->H D=u_ (.lst ys)->↑ys<=i->J.go i H/\∀x H',J.yld i H x H'->g x σ H' λσ2 H2=>tc σ2 H2 λb H3=>
   if b=v_ then te σ2 H3 λy H4=>H4 D=u_ (.lst ys)/\W (i+1) σ2 (ys++ [y]) (upd H4 D (.lst (ys++ [y]))) else H3 D=u_ (.lst ys)/\W (i+1) σ2 ys H3)/\
  ∀σ ys H,W n σ ys H->H D=u_ (.lst ys)->J.stop n H/\Q (-D) H
abbrev tLC (nt:Nat)(fr:oj Nat)(wi:TI)(g:TG)(tc:TT)(te:TE):TE:=λσ H Q=>wi σ H λJ H1=>∀D,H1 D=U_->Az D J g tc te (OD nt fr σ) H1 Q
section
variable {X:Cx}{scope:Vv}{Nb:oj Str}{nt:Nat}{fr:oj Nat}
def Su {ot:oj (o3×Obj)}{σ:St}{H:Hp}{s:o7}{fp:oj o3}{C:o3}{h4:o8}{tk:Nat}(S:LcS X scope Nb nt fr)(I:#[I])(hC:C=#[0,s])
  (ah:h4.Ns C λ_=>U_) (Z:∀b o,s.heap.get? b=u_ o->h4.get? b=u_ o) (hf:∀b>fp,AX X ot H b) (ho:∀b>fp,∃o,s.heap.get? b=u_ o) (ht:0<tk:=by ac_rfl):
  Inv (blk X scope Nb (nG X.env.cells scope.names []) C s H fp (X.pn++ot)) [] (OD nt fr σ) H {s with heap:=h4,toks:=tk}:=by
 subst hC;let sub:∀y c,(nG X.env.cells scope.names []).lookup y=u_ c->X.env.cells.lookup y=u_ c:=qaa λy c e=>by simp at e
 let aa:∀y,(y,Vx)>scope.names->X.env.kindOf y=u_ .cell:=λy hy=>S.free _ hy rfl;let ae:∀b o,s.heap.get? b=u_ o->b≠#[0,s]:=λb o e z=>by rw[z] at e;exact A8 (uG e) (vM _)
 let U:∀b,b≠X.env.locals->b∉X.fs->b∉frs X.stack:=λb h1 h2 z=>(Ab.mp (I.stkSub b z)).elim h1 h2;rw[_,(I.ok.mod,S.kind,I.ok.glob,I.ok.blt,uh _,λx y c h1 h2=>I.ok.inj x y c (sub x c h1) (sub y c h2),λx hx=>?_,λx c z=>(by rw[z,0]),I.ok.hd,I.ok.frames,.inl rfl,λb hb=>?_,I.bs,uY I.ok.bsz I.sz,λb o e hb=>?_,λb hb=>?_,I.stack,I.stkFree),1,I.bare,Un.kept Z,[_:ah:λi x v e1 e2 e3=>?_],λx c e=>?_,I.hok.fresh (uh _),λx c e=>I.freeC x c (sub x c e),λp hp=>?_,I.hok.kept Z,?_,ht]
 .let hm:=wZ (env:=X.env) S.cell hx;exact qad hm (I.ok.has x (.inl (aa x hm)))
 .erw[ho b hb,o,e,<-[ae b o e:λx c e'=>(hf b hb).2.2.2.2.1 x c (sub x c e')]]
 .rcases(hf b hb).2.2.2.1 with z|z
  .exact I.ok.noex b o e z
  .exact A8 (Vr (uG e) (uY I.ok.bsz z)) (vM _)
 .exact U b (hf b hb).2.1 (hf b hb).2.2.1
 ·
  let hi:nt<=i:=by
   rcases Hb i nt with z|z
   .unfold OD at e2;rw[UM (by simpa using z),Rb] at e2
    split at e2<;>cases e2
   .exact z
  obtain⟨k,rfl⟩:∃k,i=nt+k:=[i-nt:()]
  unfold OD at e2;rw[UK (by simp)] at e2
  simp![R7,Nat.add_sub_cancel_left,uH] at e2;cases ej:fr[k]? with
  |none=>rw[ej,0] at e2|some j=>
   rw[ej] at e2;let ac:(σ[j]?).join=u_ v:=uL e2;let af:σ[j]? =u_ (u_ v):=by
    cases q:σ[j]? with
    |none=>rw[q,0] at ac|some z=>rw[q] at ac;exact Aa u_ ac
   erw[S.fr k j x ej e1,n1,n2];let kx:X.env.kindOf x=u_ .cell:=aa x (vV n2);erw[I.loc,m,hn,hl];erw[hl j x v n1 af (.inr (.inl kx)),u,r,l];rw[_,u,r,.inr [.inl (Z8 I.ok.kind n2 kx):?_]];rcases l with⟨z,_⟩|⟨_,c,ec,ad⟩
   .rw[kx,0] at z
   .erw[qad (cells:=X.env.cells) (cs:= []) (vV n2) [c:ec],c',ag];have:=sub x c' ag;rw[ec,0] at this;erw[ad,o,q,d,<-(c,ag,o,Z c o q,d)]
 .erw[I.cell x c (sub x c e),v,o,q,d,<-(v,o,Z c o q,d)]
 .let ak:p>X.pn++ot:=by simpa using hp
  erw[I.pin p ak,e,n,ne,nf,d,<-(Z _ _ e,n,ae _ _ e,U _ ne nf,d)]
 .show(OD nt fr σ).length=↑Nb;unfold OD;rw[S.len];simp
def EC {tg ac am:Expr}{ao:oj Expr}{wi:TI}{g:TG}{tc:TT}{te:TE}{pos:Pos}{R:o6->o3->GL->o7->Prop}{ot:oj (o3×Obj)}{s:o7}{σ:St}{H:Hp}{Q:VK}(S:LcS X scope Nb nt fr)(ap:X.calm=v_)(hi:PI X tg ac wi)
  (hg:∀cl C s₀ H₀ fp pn,PG (blk X scope Nb cl C s₀ H₀ fp pn) tg g) (hc:∀cl C s₀ H₀ fp pn,Aca (blk X scope Nb cl C s₀ H₀ fp pn) ao tc) (he:∀cl C s₀ H₀ fp pn,PE (blk X scope Nb cl C s₀ H₀ fp pn) am te)
  (I:#[I]) (h:tLC nt fr wi g tc te σ H Q)
  (hR:∀(D C:o3) (H':Hp) (s1:o7) (m:Str->om o6),Inv X ot σ H' s1->s1.heap.Ns C m->AX X ot H' C->Q (-D) H'->R (-D) C (.ok .next) s1):
  Ve #[X,X] X.A (eval ac X.env) (λx s₁=>Ve #[X,X] X.A (H_ x) (λit s₂=>Ve #[X,X] X.A (tm []) (λay s₃=>
   Ve #[X,X] X.A (Tf scope X.env.globals (nG X.env.cells scope.names []) [] X.env.qual U_ .none (u_ X.env)) (λah s₄=>
    VL #[X,X] X.A (.compStart (.ListComp am [(tg,ac,ao,(0))] scope pos) 0 it ay {ah with scope:=relabel scope X.env}) (R ay ah.locals) s₄) X.xe s₃) X.xe s₂) X.xe s₁) X.xe s:=by
 refine thn (hi ot s σ H _ I h) λv s1 h1=>thn h1 λaT s2 h2=>?_;erw[h2,it,fp,tn,J,H2,e,I2,T,aq,f2,q2];subst e;let aA:H2 #[0,s2]=none:=I2.hok.fresh (uh _);erw[q2 _ aA,n,W,hn,w0,step,fin];generalize hD:#[0,s2]=D at*;refine vv ?_;rw[hD];let I3:Inv X ot σ (upd H2 D (.lst [])) {s2 with heap:=s2.heap.push {cls:= .type "list",data:= .seq ([]:oj o6).toArray}}:=by
  have:=I2.lnew (ys:= []) (its:= []) (t':=s2.toks) .nil (uK _);rwa[hD] at this
 refine wpAny_newFunctionEnv S.cell (by intro y hy;simp at hy) (λh4 ae au=>?_) S.kind
 dsimp only at ae au⊢;generalize aB:s2.heap.push {cls:= .type "list",dict:=U_,data:= .seq ([]:oj o6).toArray}=h3 at ae au I3⊢;let hC:h3.objs.size=D+1:=by rw[<-aB,vn,hD]
 let af:∀b o,h3.get? b=u_ o->h4.get? b=u_ o:=λb o e=>au.extBut b o (uU (uG e)) (u9 _ e);let aa:∀b o,s2.heap.get? b=u_ o->h3.get? b=u_ o:=λb o e=>by rw[<-aB];exact u9 _ e
 let aw:∀b>fp,∃o,s2.heap.get? b=u_ o:=λb U=>let⟨o,e,_⟩:=T.obj _ _ aq b U;[o:e];let aH:∀b>fp,b≠D:=λb U z=>by
  erw[aw b U,o,e];let q:=uG e;rw[z,hD] at q;exact vM _ q
 let f3:∀b>fp,AX X ot (upd H2 D (.lst [])) b:=λb U=>⟨by rw[qk (aH b U)];exact(f2 b U).1,(f2 b U).2⟩
 let IB:=Su (C:=h3.objs.size) (h4:=h4) (tk:=s2.toks+↑([]:oj (Str×o6))) (fp:=fp) S I3 rfl ae af f3 λb U=>let⟨o,e⟩:=aw b U;[o:aa b o e];generalize Z:blk X scope Nb (nG X.env.cells scope.names []) h3.objs.size {s2 with heap:=h3} (upd H2 D (.lst [])) fp (X.pn++ot)=Xb at IB
 let gB:=hg (nG X.env.cells scope.names []) h3.objs.size {s2 with heap:=h3} (upd H2 D (.lst [])) fp (X.pn++ot)
 let cB:=hc (nG X.env.cells scope.names []) h3.objs.size {s2 with heap:=h3} (upd H2 D (.lst [])) fp (X.pn++ot)
 let eB:=he (nG X.env.cells scope.names []) h3.objs.size {s2 with heap:=h3} (upd H2 D (.lst [])) fp (X.pn++ot)
 rw[Z] at gB cB eB;let xP:Xb.prog=X.prog:=by rw[<-Z]
 let xW:Xb.w=X.w:=by rw[<-Z]
 let xK:Xb.K=X.K:=by rw[<-Z]
 let xA:Xb.A=X.A:=by rw[<-Z]
 let xC:Xb.calm=true:=by rwa[<-Z]
 let xE:Xb.env=T0 scope (nG X.env.cells scope.names []) h3.objs.size X.env:=by rw[<-Z]
 let xX:Xb.xe=λ_ _=>False:=by rw[<-Z]
 let ag:∀{H':Hp},(∀b>fp,H' b=U_)->∀b>fp,AX Xb [] H' b:=λhn b U=>by
  erw[f2 b U,g1,g2,g3,g4,g5,g6];erw[aw b U,o,e];subst Z;rw[_,hn b U,λz=>?_,λz=>(Ab.mp (I2.stkSub b z)).elim g2 g3,.inl U,λx c ec=>g5 x c (qaa (λy c e=>by simp at e) x c ec),λp hp=>g6 p (by simpa using hp)]
  let ad:=uG (aa b o e);let z':b=h3.objs.size:=z;rw[z'] at ad;exact vM _ ad
 let ak:∀s5:o7,s5={s2 with heap:=h4,toks:=s2.toks+↑([]:oj (Str×o6))}->
   VL #[X,X] X.A (.compLoop (.ListComp am [(tg,ac,ao,(0))] scope pos) 0 (-it) (-D) (T0 scope (nG X.env.cells scope.names []) h3.objs.size X.env))
    (R (-D) h3.objs.size) s5:=by
  rintro s5 rfl;refine AO (λk s'=>∃i σ' ys H',Inv Xb [] σ' H' s'/\tn i s'.heap/\(∀b>fp,H' b=U_)/\H' D=u_ (.lst ys)/\i<=n/\k=n-i/\↑ys<=i/\W i σ' ys H') ?_ n
   ((0),OD nt fr σ,[],_,IB,T.keep _ _ _ aq λb U o e=>af b o (aa b o e),λb U=>(f3 b U).1,qg,uK _,1,uh _,w0)
  rintro k s' ⟨i,σ',ys,H',I',aC,aD,aE,aI,rfl,aJ,w'⟩;rcases Hb i n with ad|aK
  .erw[step i σ' ys H' ad w' aE aJ,go,next];let ti:=T.item Xb xP xW xK xC i [] s' σ' H' (λ_ _=>False) I' (ag aD) aC go;rw[xA] at ti;refine vz ti (λr s1 h1=>?_) λ_ _ z=>z.elim;erw[h1,u,rfl,h1];refine vz h1 (λ_ aF aL=>?_) λ_ _ z=>z.elim;erw[aL,x,H5,I5,r5,y5,ax,aM];let aN:=I5.pinned (ag aM) (T.obj _ _ ax);let ga:=gB _ aF σ' H5 x u _ aN r5 (next x H5 y5);rw[xP,xW,xA,xE,xX] at ga;refine vz ga (λ_ s3 aO=>?_) λ_ _ z=>z.elim;erw[aO,σ6,H6,I6,q6];let ca:=cB _ s3 σ6 H6 _ I6 q6;rw[xP,xW,xA,xE,xX] at ca;refine vz ca (λok s4 aP=>?_) λ_ _ z=>z.elim;erw[aP,H7,I7,q7];let al:∀{σ8:St}{H8:Hp}{s8:o7},Inv Xb ([]++oF fp aF.heap) σ8 H8 s8->Inv Xb [] σ8 H8 s8/\tn (i+1) s8.heap/\∀b>fp,H8 b=none:=λ{σ8 H8 s8} I8=>by
    rw[_,I8.unpinned,T.keep _ _ _ ax λb U o e=>(I8.pin (b,o) (uT _ (uT _ (xN U e)))).1,λb U=>?_];erw[T.obj _ _ ax b U,o,e,d,<-(I8.pin (b,o) (uT _ (uT _ (xN U e)))).2.1]
   cases ok with
   |false=>
    rw[A4 uc] at q7⊢;erw[al I7,b1,b2,b3,<-(n-(i+1),(),i+1,σ6,ys,H7,b1,b2,b3,q7.1,ad,1,(),q7.2)]
   |true=>
    rw[A6 rfl] at q7⊢;let ea:=eB _ s4 σ6 H7 _ I7 q7;rw[xP,xW,xA,xE,xX] at ea;refine vz ea (λy s5 h5=>?_) λ_ _ z=>z.elim;erw[h5,yv,H8,I8,r8,aQ,q8];let ma:=Y7 (X:=Xb) _ s5 σ6 H8 (-D) [yv] (-D) [y] (λ_ H9=>H9=upd H8 D (.lst (ys++ [yv]))) I8 rfl (.cons r8 .nil) (D,ys,yv,1,1,aQ,(),1)
    rw[xP,xW,xA,xX] at ma;refine vz ma (λ_ s6 h6=>?_) λ_ _ z=>z.elim;erw[h6,_,H9,I9,_,rfl];erw[al I9,b1,b2,b3,<-(n-(i+1),(),i+1,σ6,ys++ [yv],_,b1,b2,b3,qg,ad,1,by rw[uw,U8];omega,q8)]
  .let aG:i=n:=Nat.le_antisymm aI aK;subst aG;erw[fin σ' ys H' w' aE,stop,hq];let td:=T.done Xb xP xW xK xC i [] s' σ' H' (λ_ _=>False) I' (ag aD) aC stop;rw[xA] at td;refine vz td (λr s1 h1=>?_) λ_ _ z=>z.elim;erw[h1,rfl,I6];erw[id I6.loc,m,hm,_];rw[xE] at hm;let aR:H' h3.objs.size=none:=by have:=I6.free;rwa[xE] at this
   let u6:Un (frs X.stack) fp (upd H2 D (.lst [])) H' h3 s1.heap:=by have:=I6.base;subst Z;exact this
   let u2:Un (frs X.stack) fp H2 (upd H2 D (.lst [])) s2.heap h3:=Un.laid (λb o e=>aa b o e) (by rw[hD];exact uh _) aA
   let aS:s1.os=s2.os:=by have:=I6.os;subst Z;exact this
   let hok:HOk X.prog X.w H' s1.heap:=by
    have:=I6.hok;subst Z;exact this
   refine hR D h3.objs.size H' s1 m (I2.call' (s':=s1) (ch:=fp) aS (u2.trans u6) hok I6.bare λb U=>?_) hm (I2.fpOk () aR) hq
   erw[f2 b U,g1,g2,g3,g4,g5,g6,<-(g4,g2,g5,g6)]
 exact codeAny_compStart_list (ak _ rfl) (T.self _ 0 _ _ _ (T.keep _ _ _ aq λb U o e=>af b o (aa b o e)) (ak _ rfl))
def Xw {tg U ac:Expr}{ad:oj Expr}{wi:TI}{g:TG}{tc:TT}{te:TE}{pos:Pos}(S:LcS X scope Nb nt fr)(Z:X.calm=v_)(hi:PI X tg U wi)
  (hg:∀cl C s₀ H₀ fp pn,PG (blk X scope Nb cl C s₀ H₀ fp pn) tg g) (hc:∀cl C s₀ H₀ fp pn,Aca (blk X scope Nb cl C s₀ H₀ fp pn) ad tc) (he:∀cl C s₀ H₀ fp pn,PE (blk X scope Nb cl C s₀ H₀ fp pn) ac te)
  (hs:∀x,tJ U X.env x=pure x):PE X (.ListComp ac [(tg,U,ad,(0))] scope pos) (tLC nt fr wi g tc te):=by
 rw[2,Q,I,h];let aa:HE scope X.env=pure (nG X.env.cells scope.names []):=kP λy hy=>I.ok.has y (.inl (S.free _ hy rfl));rw[eval_ListComp];refine Fu (use:=U_) rfl hs aa S.kind S.names ?_;refine EC (R:=λae C=>compPost #[X,X] X.A X.xe U_ (EP X ot σ Q) ae C) S Z hi hg hc he I h λD C H' s1 m I1 hm fc q=>?_;erw[fc,f0,f1,f2,f3,f4,f5,<-[m:hm:λh' af=>(-D,H',I1.turned (t':=s1.toks) (it:=C) (λb o hb e=>(af.2 b hb).trans e) f0 f1 f3 f4 f5,1,q)]]
def Bu {i:Nat}{y:Str}{tg U Z:Expr}{aa:oj Expr}{wi:TI}{g:TG}{tc:TT}{te:TE}{pos ac py:Pos}(hN:X.N.Nodup)(af:X.N[i]? =u_ y)(hy:Loc X.env.scope y)(S:LcS X scope Nb nt fr)(ad:X.calm=v_)(hi:PI X tg U wi)
  (hg:∀cl C s₀ H₀ fp pn,PG (blk X scope Nb cl C s₀ H₀ fp pn) tg g) (hc:∀cl C s₀ H₀ fp pn,Aca (blk X scope Nb cl C s₀ H₀ fp pn) aa tc) (he:∀cl C s₀ H₀ fp pn,PE (blk X scope Nb cl C s₀ H₀ fp pn) Z te)
  (hs:∀x,tJ U X.env x=pure x) (ag:h_ (.ListComp Z [(tg,U,aa,(0))] scope pos) (u_ (.Name y py)) ac.line X.env=pure v_)
  (hf:X.fn y=v_\/X.env.scope.names.lookup y=u_ .local):
  PS X (.Assign [.Name y py] (.ListComp Z [(tg,U,aa,(0))] scope pos) ac) (AcP (tLC nt fr wi g tc te) (YG i)):=by
 rw[2,D,I,h];let ae:HE scope X.env=pure (nG X.env.cells scope.names []):=kP λy hy=>I.ok.has y (.inl (S.free _ hy rfl));rw[exec_Assign_Name_used _ _ _ _ ag];refine A7 (HN (A7 ?_));show Ve _ X.A (do let _<-comprehension (.ListComp Z [(tg,U,aa,(0))] scope pos) scope X.env _ (tm []) Vd (eval U X.env) (u_ (Ge (.Name y py) X.env))) _ _ s
 refine A7 (vz (Fu (use:=u_ (Ge (.Name y py) X.env)) (Q:=λ_ s'=>SP X ot D .next s') rfl hs ae S.kind S.names ?_) (λ_ s' hq=>uC (uC hq)) λ_ _ e=>e);refine EC (R:=λah C=>compPost #[X,X] X.A X.xe (u_ (Ge (.Name y py) X.env)) (λ_ s'=>SP X ot D .next s') ah C) S ad hi hg hc he I h λA C H' s1 m I1 hm fc q=>?_;erw[fc,f0,f1,f2,f3,f4,f5];show Ve _ X.A (Ge (.Name y py) X.env (-A)) _ _ s1;refine Ri (nS (v:=-A) I1 hN af hy (show il (-A) (-A) from rfl) (λs' I' zq=>?_) hf);erw[zq,a,sb,ha]
 let ak:C≠a:=by
  rcases ha with rfl|ha
  .exact f1
  .exact λz=>f4 y a ha z.symm
 refine[m:hm.sameBut sb ak:λh' al=>(_,H',I'.turned (t':=s'.toks) (it:=C) (λb o hb e=>(al.2 b hb).trans e) f0 f1 f3 f4 f5,q)]
end
def Ni {X:Cx}{sc:Vv}{x:Str}(U:sc.kind= .function:=by rfl)(Z:∀y>sc.names,y.2≠ .cell:=by decide+kernel)(hn:∀y>sc.names,y.2= .local->sc.names.lookup y.1=u_ .local:=by decide+kernel)
  (hf:∀y>sc.names,y.2≠ .free:=by decide+kernel):LcS X sc [x] 1 []:=(U,Z,hn,λy hy e=>A8 e (hf y hy),1,λk j x h=>by simp at h)
def Md {X:Cx}{sc:Vv}{Nb:oj Str}{nt:Nat}{fr:oj Nat}(U:Vv)(Z:oj Str)(hX:X.env.scope=U:=by rfl)(hN:X.N=Z:=by rfl)(hk:sc.kind= .function:=by rfl)(hc:∀y>sc.names,y.2≠ .cell:=by decide+kernel)
  (hn:∀y>sc.names,y.2= .local->sc.names.lookup y.1=u_ .local:=by decide+kernel) (hf:∀y>sc.names,y.2= .free->U.names.lookup y.1=u_ .cell:=by decide+kernel) (hl:↑Nb=nt+↑fr:=by rfl)
  (hz:((fr.zip (Nb.drop nt)).all λp=>decide (Z[p.1]? =u_ p.2)&&decide (sc.names.lookup p.2=u_ .free))=true:=by decide+kernel):LcS X sc Nb nt fr:=by
 subst hX hN;rw[_,hk,hc,hn,hf,hl,λk j x h1 h2=>?_];let hm:(fr.zip (Nb.drop nt))[k]? =u_ (j,x):=by
  rw[Rp];exact⟨h1,by rwa[List.getElem?_drop]⟩
 let q:=List.all_eq_true.mp hz _ (uW hm);rw[uE] at q;exact[ui q.1:ui q.2]
def AbA {z:Str}{D:o3}{H1:Hp}{te:TE}{tl:St}{Q:VK}(f:Nat->V)(hz:↑z<=Vg)(hD:H1 D=U_)
  (U:∀(i c:Nat) H (R:VK),z.cps[i]? =u_ c->ic H1 H->R (f c) H->te (u_ (.str ⟨#[c]⟩)::tl) H R)
  (hQ:∀H',ic H1 H'->H' D=u_ (.lst (z.cps.toList.map f))->Q (-D) H'):Az D (Its z) (YG 0) nK te (U_::tl) H1 Q:=by
 rw[_,z.cps.size,λi σ ys H=>(∃w,σ=w::tl)/\ys=(z.cps.toList.take i).map f/\ic H1 H,hz,[[U_:1]:1:qf hD _],?_,?_]
 .rintro i σ ys H hi ⟨⟨w,rfl⟩,rfl,sm⟩ Z hy;rw[_,hi];rintro x H' ⟨rfl,c,hc,rfl⟩;dsimp![YG,nK,Gx];rw[A6 rfl];refine U i c H' _ hc sm (Z,[u_ (.str ⟨#[c]⟩):1],?_,?_)
  .rw[uV,show z.cps.toList[i]? =u_ c by simpa using hc]
   simp
  .intro b o e;rw[qk (ql e hD)];exact sm b o e
 .rintro σ ys H ⟨_,rfl,sm⟩ Z;rw[1,hQ H sm ?_];rw[Z,vg (by simp)]
inductive IsT (H:Hp)(p:List V->Prop)(v:V):Prop
 |mk (a:Addr)(vs:List V)(_:v=-a)(_:H a=u_ (¬vs))(_:p vs)
inductive IsC (p:V->Prop)(q:List V->Prop)(vs:List V):Prop
 |mk (v:V)(r:List V)(_:vs=v::r)(_:p v)(_:q r)
mutual
noncomputable def Is (H:Hp):D->V->Prop
 | .non,v=>v= .non| .bl b,v=>v= .bl b| .int i,v=>v= .int i| .str z,v=>v= .str z/\↑z<=Vg| .lst,v=>∃a xs,v= .ref a/\H a=u_ (.lst xs)| .dct,v=>∃a kvs,v= .ref a/\H a=u_ (.dK kvs)| .tup xs,v=>IsT H (IsL H xs) v
noncomputable def IsL (H:Hp):oj D->oj V->Prop
 | [],vs=>vs= []|x::xs,vs=>IsC (Is H x) (IsL H xs) vs
end
structure Tk (H H':Hp):Prop where
 tup:∀b xs,H b=u_ (¬xs)->H' b=u_ (¬xs)
 lst:∀b xs,H b=u_ (.lst xs)->∃ys,H' b=u_ (.lst ys)
 dct:∀b xs,H b=u_ (.dK xs)->∃ys,H' b=u_ (.dK ys)
def ic.tk (s:ic H H'):Tk H H':=[λb xs e=>s b _ e:λb xs e=>[xs:s b _ e]:λb xs e=>[xs:s b _ e]]
def Tk.refl (H:Hp):Tk H H:=(ic.refl H).tk
def Tk.trans (a:Tk H H1)(b:Tk H1 H2):Tk H H2:=⟨λc xs e=>b.tup c xs (a.tup c xs e),λc xs e=>let⟨ys,e1⟩:=a.lst c xs e;b.lst c ys e1,λc xs e=>let⟨ys,e1⟩:=a.dct c xs e;b.dct c ys e1⟩
variable {xs ys:oj V}
def iK.tk (k:iK p H H')(h:H p=u_ (.lst xs))(h':H' p=u_ (.lst ys)):Tk H H':=by
 rw[_,λb zs e=>k b _ e λz=>?_,λb zs e=>?_,λb zs e=>[zs:k b _ e λz=>?_]]
 .rw[z,h,0] at e
 .by_cases z:b=p
  .exact[ys:z▸h']
  .exact[zs:k b _ e z]
 .rw[z,h,0] at e
mutual
theorem Is.mono {H H':Hp}(t:Tk H H'):∀{d:D}{v:V},Is H d v->Is H' d v
 | .non,_,h=>h| .bl _,_,h=>h| .int _,_,h=>h| .str _,_,h=>h| .lst,_,h=>by
  erw[h,a,vs,e,ha];erw[t.lst a vs ha,ys,q,<-(a,ys,e,q)]
 | .dct,_,h=>by
  erw[h,a,vs,e,ha];erw[t.dct a vs ha,ys,q,<-(a,ys,e,q)]
 | .tup xs,_,h=>by
  erw[h,a,vs,e,ha,U,<-(a,vs,e,t.tup a vs ha,IsL.mono t U)]
theorem IsL.mono {H H':Hp}(t:Tk H H'):∀{ds:oj D}{vs:oj V},IsL H ds vs->IsL H' ds vs
 | [],_,h=>h|_::_,_,h=>by
  erw[h,v,r,e,h1,h2,<-(v,r,e,Is.mono t h1,IsL.mono t h2)]
end
def IsL.length {H:Hp}:∀{ds:oj D}{vs:oj V},IsL H ds vs->↑vs=↑ds
 | [],_,h=>by rw[show _= [] from h,0];rfl|_::_,_,h=>by
  erw[h,v,r,rfl,_,h2];rw[um,um,IsL.length h2]
def IsL.get {H:Hp}:∀{ds:oj D}{vs:oj V}{i:Nat}{d:D},IsL H ds vs->ds[i]? =u_ d->∃v,vs[i]? =u_ v/\Is H d v
 | [],_,_,_,_,e=>by simp at e|x::_,_,0,d,h,e=>by
  erw[h,v,r,rfl,h1,_];have:x=d:=by simpa using e
  exact[v:1:this▸h1]
 |_::_,_,i+1,d,h,e=>by
  erw[h,v,r,rfl,_,h2];obtain⟨u,U,e2⟩:=IsL.get (i:=i) (d:=d) h2 (by simpa using e)
  exact⟨u,by simpa using U,e2⟩
def IsL.append {H:Hp}:∀{ds es:oj D}{vs us:oj V},IsL H ds vs->IsL H es us->IsL H (ds++es) (vs++us)
 | [],_,_,_,h,k=>by rw[show _= [] from h,0];exact k|_::_,_,_,_,h,k=>by
  erw[h,v,r,rfl,h1,h2,<-(v,0,h1,IsL.append h2 k)]
def IsL.take {H:Hp}:∀{ds:oj D}{vs:oj V} (n:Nat),IsL H ds vs->IsL H (ds.take n) (vs.take n)
 |_,_,0,_=>by simp[IsL]| [],_,n+1,h=>by rw[show _= [] from h,0];simp[IsL]|_::_,_,n+1,h=>by
  erw[h,v,r,rfl,h1,h2,<-(v,0,h1,IsL.take n h2)]
def IsL.drop {H:Hp}:∀{ds:oj D}{vs:oj V} (n:Nat),IsL H ds vs->IsL H (ds.drop n) (vs.drop n)
 |_,_,0,h=>h| [],_,n+1,h=>by rw[show _= [] from h,0];simp[IsL]|_::_,_,n+1,h=>by
  erw[h,v,r,rfl,h1,h2,<-IsL.drop n h2]
variable {v:V}
def IsL.one {d:D}(h:Is H d v):IsL H [d] [v]:=(v,[],1,h,1)
variable {ds:oj D}
def Is.new {vs:oj V}(h:IsL H ds vs)(U:H p=U_):Is (upd H p (¬vs)) (¬ds) (-p):=
 (p,vs,1,qg,h.mono (qf U _).tk)
abbrev tyD:D->o6
 | .non=> .type "NoneType"| .bl _=> .type "bool"| .int _=> .type "int"| .str _=> .type "str"| .lst=> .type "list"| .dct=> .type "dict"| .tup _=> .type "tuple"
def Is.ty {d:D}(h:Is H d v):Cg K H v (tyD d):=by
 cases d with
 |non=>rw[show v= .non from h,0];exact .non|bl b=>rw[show v= .bl b from h,0];exact .bl b|int i=>rw[show v= .int i from h,0];exact .int i|str z=>
  erw[h,rfl,_,<-!z]
 |lst=>
  erw[h,a,vs,rfl,ha,<-.lst ha]
 |dct=>
  erw[h,a,vs,rfl,ha,<-.dK ha]
 |tup xs=>
  erw[h,a,vs,rfl,ha,_,<-¬ha]
section
variable {X:Cx}
def DW:OpR X (Vm .Gt) (λx y H Q=>∃i j,x= .str i/\y= .str j/\Q (.bl (decide (j.cps.toList<i.cps.toList))) H):=by
 rw[2,x,y,v,u,Q,I,U,Z,h];erw[h,i,j,rfl,rfl,q];erw[U,t,rfl];erw[Z,t',rfl,<-PySem.P.gt_str (Qv I q rfl)]
def sH (hc:X.calm=v_):jg X (.builtin "sum") (λxs H Q=>∃(p:o3) (ns:oj Int),xs= [-p]/\SqL X.K H p (ns.map V.int)/\Q (.int ns.sum) H):=by
 rw[2,xs,us,Q,I,r,h];erw[h,p,ns,rfl,hp,q];erw[xn r,u,rfl,ru];rw[ru,0];erw[I.list hp,its,rv,pl,hz];let hi:GJ its ns:=CQ rv;erw[hi.allInts.items,ys,Z];let U:s.heap.IsList p (intItems ys):=Z▸pl.isList;refine vf (n:=1) I.tk (sum_intListG (I.ok.hd hc) U λh' tk t' hk=>?_);intro htk;let e1:ns=ys.toList.map (·.1):=by
  let q1:=hi.numsOf;rw[<-nums_intItems,<-Z];exact(show numsOf its.toArray.toList=ns from q1).symm
 let e2:preSum (numAt ys) ys.size=ns.sum:=by
  rw[preSum_eq,vg (by simp),e1]
 rw[e2];exact(.int ns.sum,H,I.kept hk,[t':1],q)
inductive Aa3 (K:PySem.W.Frag)(x:V)(y:V)(H:Hp)(Q:VK):Prop
 |mk (a:_)(b:_)(xs:_)(_:x=-a)(_:y=-b)(_:SqT K H a xs)(_:SqT K H b [])(_:Q (.bl xs.isEmpty) H)
def zw (Z:X.A.units<Vn):OpR X (Vm .Eq) (Aa3 X.K):=by
 rw[2,x,y,v,u,Q,I,rx,ry,h];erw[h,a,b,xs,rfl,rfl,ha,hb,q];rw[rx,0];rw[ry,0];erw[I.tuple ha,its,r,p,_];erw[I.tuple hb,U,r2,p2,_];rw[r2,0];refine SeqAt.eq_tupleAt (e:=λ_=>v_) p p2 Z (λj _ h2=>A8 h2 (T5 _)) (.bl xs.isEmpty,H,I,?_,q);show VC _=VC _;cases r with
 |nil=>rfl|cons _ _=>simp
inductive Lr (K:PySem.W.Frag)(x:V)(y:V)(H:Hp)(Q:VK):Prop
 |mk (a:_)(b:_)(xs:_)(ys:_)(_:x=-a)(_:y=-b)(_:SqT K H a xs)(_:SqT K H b ys)(_:↑xs+↑ys<=Vg)(_:(xs= []->Q (-b) H))(_:(xs≠ []->ys= []->Q (-a) H))(_:(xs≠ []->ys≠ []->∀p,H p=U_->Q (-p) (upd H p (.tup (xs++ys)))))
def YD:OpR X (VN .Add) (Lr X.K):=by
 rw[2,x,y,v,u,Q,I,Z,ry,h];erw[h,a,b,xs,ys,rfl,rfl,ha,hb,hz,q0,q1,q2];by_cases U:xs= []
 .rw[Z,0];rw[ry,0];erw[I.tuple ha,its,r1,p1,_];erw[I.tuple hb,aa,r2,p2,_];subst U;rw[r1,0];erw[id p1,[c1,d1,t1,l1],o1,e1,n1,f1];erw[id p2,[c2,d2,t2,l2],o2,e2,n2,f2];simp only at e1 f1 e2 f2;subst e1 f1 e2 f2;exact T9 p1.typeIs p2.typeIs tM Fa PySem.F.slot_tuple_add UW (UQ _ _) (tuple_addW0 a b _ _ n1 n2 d1 d2 l1 l2 rfl) [o1:o2:(-b,H,I,1,q0 rfl)]
 .exact O5 ot s σ H (-a) (-b) v u Q I Z ry (a,b,xs,ys,1,1,ha,hb,U,hz,q1 U,q2 U)
end
def Tk.updL (h:H p=u_ (.lst xs)):Tk H (upd H p (.lst ys)):=by
 rw[_,λb zs e=>?_,λb zs e=>?_,λb zs e=>[zs:?_]]
 .rw[qk (λz=>by rw[z,h,0] at e)];exact e
 .by_cases z:b=p
  .exact⟨ys,by rw[z];exact qg⟩
  .exact⟨zs,by rwa[qk z]⟩
 .rw[qk (λz=>by rw[z,h,0] at e)];exact e
def Ay {J:It}{A:o3}{H1:Hp}{te:TE}{tl:St}{Q:VK}{ds:oj D}(f:D->D)(hn:↑ds<=Vg)(hA:H1 A=U_)
  (aa:∀i H,ic H1 H->i<↑ds->J.go i H) (hy:∀i H x H' d,ic H1 H->ds[i]? =u_ d->J.yld i H x H'->H'=H/\Is H d x) (Z:∀H,ic H1 H->J.stop ↑ds H)
  (ac:∀d x H (R:VK),d>ds->ic H1 H->Is H d x->(∀y H',ic H H'->Is H' (f d) y->R y H')->te (u_ x::tl) H R)
  (hQ:∀H' ys,ic H1 H'->H' A=u_ (.lst ys)->IsL H' (ds.map f) ys->Q (-A) H'):Az A J (YG 0) nK te (U_::tl) H1 Q:=by
 rw[_,↑ds,λi σ ys H=>(∃w,σ=w::tl)/\IsL H ((ds.take i).map f) ys/\ic H1 H,hn,[[U_:1]:1:qf hA _],?_,?_]
 .rintro i σ ys H hi ⟨⟨w,rfl⟩,hl,sm⟩ U ae;rw[_,aa i H sm hi,λx H' y=>?_];erw[hy i H x H' ds[i] sm (ub hi) y,rfl,hx];dsimp![YG,nK,Gx];rw[A6 rfl];refine ac ds[i] x H' _ (uN hi) sm hx λy' H4 s4 ad=>(s4 _ _ U,[u_ x:1],?_,λb o e=>?_)
  .let t:Tk H4 (upd H4 A (.lst (ys++ [y']))):=Tk.updL (s4 _ _ U);let e:(ds.take (i+1)).map f=(ds.take i).map f++ [f ds[i]]:=by
    rw[uV,ub hi,uj]
    rfl
   rw[e];exact((hl.mono s4.tk).mono t).append (IsL.one (ad.mono t))
  .rw[qk (ql e hA)];exact s4 b o (sm b o e)
 .rintro σ ys H ⟨_,hl,sm⟩ U;rw[_,Z H sm,hQ H ys sm U ?_];rwa[vg (uh _)] at hl
def Ax {K:o0}{a A:o3}{H1:Hp}{te:TE}{tl:St}{Q:VK}{ds:oj D}{vs:oj V}(f:D->D)(ha:H1 a=u_ (¬vs))(Z:IsL H1 ds vs)(hn:↑ds<=Vg)(hA:H1 A=U_)
  (U:∀d x H (R:VK),d>ds->ic H1 H->Is H d x->(∀y H',ic H H'->Is H' (f d) y->R y H')->te (u_ x::tl) H R)
  (hQ:∀H' ys,ic H1 H'->H' A=u_ (.lst ys)->IsL H' (ds.map f) ys->Q (-A) H'):Az A (Itt K a) (YG 0) nK te (U_::tl) H1 Q:=by
 let ln:=↑Z;refine Ay f hn hA (λi H sm hi=>(vs,vs[i]'(),SqT.of (sm _ _ ha),ub _)) (λi H x H' d sm hd y=>?_) (λH sm=>[vs:SqT.of (sm _ _ ha):()]) U hQ
 erw[y,rfl,y];erw[Z.get hd,v,e1,e2];let e3:=y vs (SqT.of (sm _ _ ha));rw[e1,0] at e3;exact[1:e2.mono sm.tk]
def Sk {K:o0}{a A:o3}{H1:Hp}{te:TE}{tl:St}{Q:VK}{ds:oj D}{vs:oj V}(f:D->D)(ha:H1 a=u_ (.lst vs))(Z:IsL H1 ds vs)(hn:↑ds<=Vg)(hA:H1 A=U_)
  (U:∀d x H (R:VK),d>ds->ic H1 H->Is H d x->(∀y H',ic H H'->Is H' (f d) y->R y H')->te (u_ x::tl) H R)
  (hQ:∀H' ys,ic H1 H'->H' A=u_ (.lst ys)->IsL H' (ds.map f) ys->Q (-A) H'):Az A (Itl K a) (YG 0) nK te (U_::tl) H1 Q:=by
 let ln:=↑Z;refine Ay f hn hA (λi H sm hi=>(vs,vs[i]'(),SqL.of (sm _ _ ha),ub _)) (λi H x H' d sm hd y=>?_) (λH sm=>[vs:SqL.of (sm _ _ ha):()]) U hQ
 erw[y,rfl,y];erw[Z.get hd,v,e1,e2];let e3:=y vs (SqL.of (sm _ _ ha));rw[e1,0] at e3;exact[1:e2.mono sm.tk]
def IsL.bls {H:Hp}:∀{bs:oj Bool}{vs:oj V},IsL H (bs.map D.bl) vs->vs=bs.map V.bl
 | [],_,h=>h|_::_,_,h=>by
  erw[h,v,r,rfl,h1,h2];rw[IsL.bls h2,show v=_ from h1];rfl
variable {Q:VK}
def XH {i:Int}{d:D}(h:Is H (¬ds) v)(hi:atI ds i=u_ d)(q:∀x,Is H d x->Q x H):OQ K v (.int i) H Q:=by
 erw[h,a,vs,rfl,ha,U];erw[qau hi,j,h1,h2,h3,h4,h5];erw[U.get h2,x,e1,e2];rw[_,a,vs,i,x,1,1,SqT.of ha,?_,q x e2];let ln:=↑U;unfold atI at hi⊢;rw[ln];cases e:ixN ↑ds i with
 |none=>rw[e,0] at hi|some k=>
  rw[e] at hi;erw[AB e,Z,_];rw[h1,0] at Z;exact e1
abbrev inS (i j:Str):Bool:= !(Hf j i 0 ↑j 1).isEmpty
def Sv (j:Str)(c:Nat):inS ⟨#[c]⟩ j=decide (c>j.cps.toList):=StrLaws.found_one j c
def SI {z:Str}{g:TG}{tb:TS}{E:nh}{σ:St}{H:Hp}(U:Nat->St->Hp->Prop)(h0:U 0 σ H)
  (hs:∀(i c:Nat) σ H,z.cps[i]? =u_ c->U i σ H->g (.str ⟨#[c]⟩) σ H λσ2 H2=>tb {E with nx:=U (i+1),ct:=U (i+1),bk:=E.nx} σ2 H2) (hd:∀σ H,U z.cps.size σ H->E.nx σ H):
  ∃W:Nat->Nat->St->Hp->Prop,(∃m,W 0 m σ H)/\∀i m σ H,W i m σ H->
   ((Its z).stop i H/\E.nx σ H)\/((Its z).go i H/\∃N:St->Hp->Prop,(∀σ' H',N σ' H'->∃m',m'<m/\W (i+1) m' σ' H')/\∀x H',(Its z).yld i H x H'->g x σ H' λσ2 H2=>tb {E with nx:=N,ct:=N,bk:=E.nx} σ2 H2):=by
 rw[_,λi m σ H=>m=z.cps.size-i/\i<=z.cps.size/\U i σ H,(z.cps.size,by simp,uK _,h0)]
 rintro i m σ H ⟨rfl,hi,p⟩;by_cases Z:i<z.cps.size
 .refine .inr (Z,U (i+1),λσ' H' p'=>(z.cps.size-(i+1),(),1,Z,p'),λx H' y=>?_)
  erw[y,rfl,c,hc,rfl,<-hs i c σ _ hc p]
 .let e:i=z.cps.size:=by omega
  exact .inl [e:hd σ H (e▸p)]
def IsL.unsnoc {H:Hp}:∀{ds:oj D}{d:D}{vs:oj V},IsL H (ds++ [d]) vs->∃us x,vs=us++ [x]/\IsL H ds us/\Is H d x
 | [],d,_,h=>by
  erw[h,v,r,rfl,h1,h2];rw[show r= [] from h2,0]
  exact([],v,1,1,h1)
 |e::r,d,_,h=>by
  erw[h,v,q,rfl,h1,h2];erw[IsL.unsnoc h2,us,x,rfl,h3,h4,<-(v::us,x,1,(v,us,1,h1,h3),h4)]
abbrev isStr:D->Bool
 | .str _=>v_|_=>Vd
abbrev zp:D->Bool
 | .tup _=>v_|_=>Vd
section
variable {K:o0}
def ED {T U:String}{b:Bool}(h:(GC T==GC U)=Vd)(hm:PySem.W.kitMeta U=v_)(Z:(fastBuiltinMro T).map (·.contains (GC U))=u_ b):PySem.W.kitOne K (.type T) (.type U)=u_ b:=by
 unfold PySem.W.kitOne;rw[A4 (by rw[h];exact uc)]
 show(if PySem.W.kitMeta U=v_ then PySem.W.subIn K (.type T) (.type U) else U_)=u_ b
 rw[A6 hm];exact Z
def BI {T:String}(h:(GC T==GC T)=v_):PySem.W.kitOne K (.type T) (.type T)=u_ true:=by
 unfold PySem.W.kitOne;rw[A6 h]
def Jg (d:D):PySem.W.kitOne K (tyD d) (.type "str")=u_ (isStr d):=by
 cases d with
 |str z=>exact BI ()|_=>exact ED (b:=Vd) () () ()
def JW (d:D):PySem.W.kitOne K (tyD d) (.type "tuple")=u_ (zp d):=by
 cases d with
 |tup z=>exact BI ()|_=>exact ED (b:=Vd) () () ()
end
def Abv (c k:Nat):decide ((⟨#[c]⟩:Str).cps.toList< [k])=decide (c<k):=by
 rw[vd];simp[FO]
def Abi (c k:Nat):decide ([k]<(⟨#[c]⟩:Str).cps.toList)=decide (k<c):=by
 rw[vd];simp[FO]
def Jn {X:Cx}{K:o0}(h:X.K=K):IxR X (OQ K):=by subst h;exact qB
inductive Aci (K:PySem.W.Frag)(R:(It->Hp->Prop))(x:V)(H1:Hp):Prop
 |mk (a:_)(xs:_)(_:x=-a)(_:SqT K H1 a xs)(_:(↑xs<=Vg->R (Itt K a) H1))
abbrev Adc (K:o0)(tl:TE):TI:=λσ H R=>tl σ H λx H1=>Aci K R x H1
def Zb {X:Cx}{tg l:Expr}{tl:TE}(Z:PE X l tl):PI X tg l (Adc X.K tl):=by
 rw[2,R,I,h];refine thn (Z ot s σ H _ I h) λv s1 zq=>?_;erw[zq,x,H1,U,r1,q1];erw[q1,a,xs,e,hq,q];subst e;rw[r1,0];erw[U.tuple hq,its,rv,p,hz];refine U6 (show s1.heap.IsTuple a its.toArray from p) ?_
 rw[_,#[0,s1],[#[0,s1]],_,_,H1,1,U.kept (t':=s1.toks) λb o e=>u9 _ e,kZ a _,(_,uD _ rfl,1,1),λb hb=>?_,q hz];let e:b=#[0,s1]:=by simpa using hb
 subst e;exact U.fpOk (uh _) (U.hok.fresh (uh _))
variable {X:Cx}
def IA:jg X (.builtin "len") (λxs H Q=>∃p ys,xs= [-p]/\(SqL X.K H p ys\/SqT X.K H p ys)/\(↑ys<=Vg->Q (.int ↑ys) H)):=by
 rw[2,xs,us,Q,I,r,h];erw[h,p,ys,e,U,q];let hz:↑ys<=sizeLine:=by
  rcases U with U|U
  .exact(I.list U).choose_spec.2.2
  .exact(I.tuple U).choose_spec.2.2
 exact qG ot s σ H xs us Q I r (p,ys,e,U,q hz)
variable {n:Nat}
def Ix (h:n<=↑xs):nE xs U_ (u_ (n:Int))=xs.take n:=by
 unfold nE;rw[HT.sIx_none,HT.sIx_nat,tX h,HV,Fy]
def J6 (h:n<=↑xs):nE xs (u_ (n:Int)) U_=xs.drop n:=by
 unfold nE;rw[HT.sIx_none,HT.sIx_nat,tX h];exact vg (by rw[vh];exact uh _)
end L2
namespace L2
open PySem PySem.Spec PyProof.Rows Builtin Builtin.Str
abbrev nj (c:Nat):oj Nat->Nat->oj Nat
 | [],_=> []|a::r,i=>if a=c then i::nj c r (i+1) else nj c r (i+1)
abbrev lj (c:Nat):Nat->oj Nat->oj (oj Nat)
 |0,L=> [L]|_+1,[]=> [[]]|n+1,a::r=>if a=c then []::lj c n r else match lj c (n+1) r with
  |p::q=>(a::p)::q| []=> [[a]]
abbrev ofL (l:oj Nat):Str:=⟨l.toArray⟩
def yl (z:Str):ofL z.cps.toList=z:=by
 unfold ofL;simp
def xb (c:Nat):∀(n:Nat) (L:oj Nat),∃p q,lj c n L=p::q
 |0,L=>⟨L,[],by simp[lj]⟩|n+1,[]=>⟨[],[],by simp[lj]⟩|n+1,a::r=>by
  by_cases h:a=c
  .exact⟨[],lj c n r,by simp[lj,h]⟩
  .erw[xb c (n+1) r,p,q,e,<-⟨a::p,q,by simp[lj,h,e]⟩]
def Cb {c:Nat}{n:Nat}{r:oj Nat}:∀{p:oj Nat},c∉p->lj c (n+1) (p++c::r)=p::lj c n r
 | [],_=>by simp[lj]|a::p,h=>by
  let h1:a≠c:=λe=>h (by simp[e])
  let U:=Cb (n:=n) (r:=r) (p:=p) (λz=>h (uf _ z));show lj c (n+1) (a::(p++c::r))=_;rw[lj,A4 h1,U]
def wS {c:Nat}{n:Nat}:∀{p:oj Nat},c∉p->lj c n p= [p]
 | [],_=>by cases n<;>simp[lj]|a::p,h=>by
  let h1:a≠c:=λe=>h (by simp[e])
  cases n with
  |zero=>simp[lj]|succ n=>
   let U:=wS (n:=n+1) (p:=p) (λz=>h (uf _ z));rw[lj,A4 h1,U]
def Cl (x:Str)(c i:Nat)(h:i<↑x):subAt x ⟨#[c]⟩ i=decide (x.cps.toList[i]? =u_ c):=by
 rw[StrLaws.subAt_eq];let U:i<↑x.cps.toList:=by simpa [G7] using h
 let Z:(x.cps.toList.drop i).take 1= [x.cps.toList[i]]:=by
  rw[vc U]
  rfl
 show((x.cps.toList.drop i).take 1== [c])=_;rw[Z,ub U];generalize x.cps.toList[i]=k;by_cases e:k=c
 .simp[e]
 .simp[e]
def oN (x:Str)(c n:Nat):∀(m k:Nat) (found:Array Nat) (free:Nat),k+m=↑x+1->free<=k->
  (VV (GU k m) (found,free) (Gz x ⟨#[c]⟩ ↑x n)).run.fst.toList=found.toList++(nj c (x.cps.toList.drop k) k).take (n-found.size)
 |0,k,found,free,hk,_=>by
  let hl:↑x.cps.toList<=k:=by simp[G7] at hk⊢;omega
  rw[Um hl];simp[nj]
 |m+1,k,found,free,hk,hf=>by
  rw[List.range'_succ,Ux];unfold Gz;let ad:↑x.cps.toList=↑x:=by simp[G7]
  by_cases aa:k<↑x
  .let ac:k<↑x.cps.toList:=by omega
   rw[vc ac];let hs:=Cl x c k aa;rw[ub ac] at hs;by_cases e:x.cps.toList[k]=c
   .let U:subAt x ⟨#[c]⟩ k=true:=by rw[hs,e];simp
    by_cases hn:found.size<n
    .rw[A6 ⟨⟨[hn:hf],by show k+1<=↑x;omega⟩,U⟩]
     let Z:=oN x c n m (k+1) (found.push k) (k+1) () (uh _)
     show(VV (GU (k+1) m) (found.push k,k+1) (Gz x ⟨#[c]⟩ ↑x n)).run.fst.toList=_;rw[Z];rw[nj,A6 e,Array.toList_push,p8];obtain⟨j,hj⟩:∃j,n-found.size=j+1:=[n-found.size-1:()]
     rw[hj,TY,show n-(found.size+1)=j by omega]
     simp
    .rw[A4 (λz=>hn z.1.1.1)];let Z:=oN x c n m (k+1) found free () ()
     show(VV (GU (k+1) m) (found,free) (Gz x ⟨#[c]⟩ ↑x n)).run.fst.toList=_;rw[Z,show n-found.size=0 by omega]
     simp
   .let U:¬subAt x ⟨#[c]⟩ k=true:=by rw[hs];intro z;exact e (uL (ui z))
    rw[A4 (λz=>U z.2)];let Z:=oN x c n m (k+1) found free () ()
    show(VV (GU (k+1) m) (found,free) (Gz x ⟨#[c]⟩ ↑x n)).run.fst.toList=_;rw[Z,nj,A4 e]
  .rw[A4 (λz=>aa (by have:=z.1.2;show k<↑x;let h1:k+1<=↑x:=this;omega))]
   let Z:=oN x c n m (k+1) found free () ()
   show(VV (GU (k+1) m) (found,free) (Gz x ⟨#[c]⟩ ↑x n)).run.fst.toList=_;rw[Z];let h1:↑x.cps.toList<=k:=by omega
   rw[Um h1,Um ()]
   simp[nj]
def qas (x:Str)(c n:Nat):occurrences x ⟨#[c]⟩ 0 ↑x n=(nj c x.cps.toList 0).take n:=by
 rw[RE];have:=oN x c n (↑x+1) 0 #[] 0 () (uh _)
 simpa using this
abbrev att (p:oj Nat):oj (oj Nat)->oj (oj Nat)
 |q::r=>(p++q)::r| []=> [p]
def Lz (x:Str)(c:Nat):∀(m n a b:Nat),a<=b->b+m=↑x->
  Ht x 1 a ((nj c (x.cps.toList.drop b) b).take n)=(att ((x.cps.toList.drop a).take (b-a)) (lj c n (x.cps.toList.drop b))).map ofL:=by
 let ac:↑x.cps.toList=↑x:=by simp[G7]
 let U:∀i j,strSub x i j=ofL ((x.cps.toList.drop i).take (j-i)):=λi j=>by
  rw[<-yl (strSub x i j),rA]
 intro m
 induction m with
 |zero=>
  intro n a b aa hb;let h1:x.cps.toList.drop b= []:=Um ()
  rw[h1];let e1:lj c n []= [[]]:=by cases n<;>simp[lj]
  rw[e1];simp![nj,List.take_nil,Ht,att,vH,uA,Uy];rw[U,show ↑x-a=b-a by omega]
 |succ m ih=>
  intro n a b aa hb;let Z:b<↑x.cps.toList:=by omega
  rw[vc Z];cases n with
  |zero=>
   simp![List.take_zero,Ht,lj,att,uA,Uy];rw[U,<-vc Z];let e2:(x.cps.toList.drop a).take (↑x-a)=x.cps.toList.drop a:=vg (by rw[vh];omega)
   let e3:x.cps.toList.drop b=(x.cps.toList.drop a).drop (b-a):=by rw[List.drop_drop];congr 1;omega
   rw[e2,e3,p6]
  |succ n=>
   by_cases e:x.cps.toList[b]=c
   .rw[nj,A6 e,TY,Ht,lj,A6 e];rw[ih n (b+1) (b+1) (uh _) ()]
    erw[xb c n (x.cps.toList.drop (b+1)),p,q,e2];rw[e2,U];simp[att]
   .rw[nj,A4 e,ih (n+1) a (b+1) () (),lj,A4 e]
    erw[xb c (n+1) (x.cps.toList.drop (b+1)),p,q,e2];rw[e2];simp![att,uA]
    congr 2
    let e3:b+1-a=(b-a)+1:=by omega
    let hx:b-a<↑(x.cps.toList.drop a):=by rw[vh];omega
    rw[e3,List.take_succ_eq_append_getElem hx];simp[show a+(b-a)=b by omega]
def oH (x:Str)(c n:Nat):partsBetween x (occurrences x ⟨#[c]⟩ 0 ↑x n) 1=(lj c n x.cps.toList).map ofL:=by
 rw[StrLaws.partsBetween_eq,qas];have:=Lz x c ↑x n 0 0 (uh _) ()
 rw[HV] at this;rw[this];erw[xb c n x.cps.toList,p,q,e];rw[e];simp[att]
def Wz {c:Nat}:∀{L:oj Nat}{i:Nat},nj c L i= []->c∉L
 | [],_,_=>by simp|a::r,i,h=>by
  by_cases e:a=c
  .simp[nj,e] at h
  .rw[nj,A4 e] at h;have:=Wz h;simp[U1 e,this]
def zN:∀(l:oj Str) (k:Nat),iE (l.map V.str) (strsFrom k l)
 | [],_=> .nil|x::r,k=> .cons [k:1] (zN r (k+1))
def Ww:∀{l:oj Str}{us:oj o6},iE (l.map V.str) us->∃ps:oj (Str×Tok),us=strValues ps/\ps.map (·.1)=l
 | [],_,.nil=>[[]:1:1]|x::r,_,.cons ⟨t,e⟩ h=>by
  erw[Ww h,ps,U,e2];subst e;exact⟨(x,t)::ps,by rw[U];rfl,by rw[uA,e2]⟩
def Kf (z:Str):¬VB z<VB " ":=by
 let h1:VB " "=1:=by decide+kernel
 rw[h1];unfold VB;split
 .omega
 .split<;>omega
def KY (c:Nat):∀(n:Nat) (L:oj Nat),↑(lj c n L)<=↑L+1
 |0,L=>by simp[lj]|n+1,[]=>by simp[lj]|n+1,a::r=>by
  by_cases h:a=c
  .have:=KY c n r;simp[lj,h];omega
  .have:=KY c (n+1) r;erw[xb c (n+1) r,p,q,e];rw[e] at this;simp![lj,A4 h,e];simp at this⊢;omega
abbrev spl (n:Nat)(z:Str):oj Str:=(lj 32 n z.cps.toList).map ofL
def Dj (n:Nat)(z:Str):↑(spl n z)<=↑z+1:=by
 unfold spl;rw[u7];have:=KY 32 n z.cps.toList
 simpa [G7] using this
def xR:(" ":Str)=⟨#[32]⟩:=by decide+kernel
variable {z:Str}{n:Nat}
def Di (hn:↑z<=n\/↑z<1\/True)(h:(occurrences z " " 0 ↑z n).isEmpty=v_)(h0:n≠0):spl n z= [z]:=by
 rw[xR,qas,List.isEmpty_iff] at h;let h1:nj 32 z.cps.toList 0= []:=by
  cases e:nj 32 z.cps.toList 0 with
  |nil=>rfl|cons a r=>
   rw[e] at h;obtain⟨k,rfl⟩:∃k,n=k+1:=[n-1:()]
   simp at h
 unfold spl;rw[wS (Wz h1)];simp[yl]
section
variable {X:Cx}
inductive AaZ (x:V)(vs:List V)(H:Hp)(Q:VK):Prop
 |mk (z:_)(_:x= !z)(_:vs= [-" "])(_:↑z<=1000)(_:∀p,H p=U_->Q (-p) (upd H p (.lst ((spl (↑z+1) z).map V.str))))
variable {ot:oj (o3×Obj)}{σ:St}{H:Hp}{s:o7}{Q:VK}{ys:oj V}{its:oj o6}{t':Nat}
def xL (I:#[I])(U:iE ys its)(hz:↑ys<=Vg)(q:∀p,H p=U_->Q (-p) (upd H p (.lst ys)))(Z:0<t':=by ac_rfl):
  EP X ot σ Q (.ref #[0,s]) {s with heap:=s.heap.push {cls:= .type "list",data:= .seq its.toArray},toks:=t'}:=
 (.ref #[0,s],_,I.lnew U hz,1,q _ I.fresh)
def BD:MtM X "str.split" AaZ:=by
 rw[2,x,vs,v,us,Q,I,rx,rv,h];erw[h,z,rfl,rfl,hz,q];erw[rx,t,rfl];erw[rv.one,u,rfl,t',rfl];let U:↑z<=sizeLine:=by rw[uB];omega
 let one:spl (↑z+1) z= [z]->∀(T:Nat),0<T->EP X ot σ Q (.ref #[0,s]) {s with heap:=s.heap.push {cls:= .type "list",data:= .seq [VF z t].toArray},toks:=T}:=λe T hT=>by
  rw[e] at q;exact xL (ys:= [V.str z]) I (.cons (show il (V.str z) _ from[t:1]) .nil) (by show 1<=Vg;decide) q
 cases h1:(decide (↑z<(" ":Str).length)||decide (VB z<VB " ")) with
 |true=>
  refine vP vS (vY _ _ _) vJ (Ua _ _) (rB z " " t t' h1) ?_;let h2:↑z<1:=by
   rw[HR] at h1;rcases h1 with h1|h1
   .exact ui h1
   .exact A8 (ui h1) (Kf z)
  refine one ?_ s.toks I.tk;let e:z.cps.toList= []:=vI (by simpa [G7] using h2)
  unfold spl;rw[e,lj];rw[<-yl z,e]
  rfl
 |false=>
  cases Z:(occurrences z " " 0 ↑z (↑z+1)).isEmpty with
  |true=>
   refine vP vS (vY _ _ _) vJ (Ua _ _) (RU z " " t t' h1 () Z) ?_
   exact one (Di (.inr (.inr trivial)) Z ()) s.toks I.tk
  |false=>
   let hl:=Dj (↑z+1) z;let e:partsBetween z (occurrences z " " 0 ↑z (↑z+1)) (" ":Str).length=spl (↑z+1) z:=by
    rw[xR];exact oH z 32 (↑z+1)
   refine vP vS (vY _ _ _) vJ (Ua _ _) (Rv z " " t t' h1 () Z U (by rw[e,uB];omega)) ?_
   rw[e];exact xL I (zN _ _) (by rw[u7,uB];omega) q
def Xu (x y:Str)(k:Int)(t u v:Tok)(hk:(decide (k< -(2^63:Int))||decide (k≥2^63))=Vd)(h1:(decide (↑x<↑y)||decide (VB x<VB y))=Vd)(hy:(↑y==0)=Vd)
  (hf:(occurrences x y 0 ↑x (He x k)).isEmpty=v_):GR («str.split» [[.str x t,.str y u,.int k v]:[]]) (R8 x t):=by
 erw[FG x y k t u v hk,Z,U];refine .of_wp λprog w A R s h=>?_;rw[U,h1,hy,hf];show Ve _ _ (do rule "str.split.same-object";ret (<-tm [.str x t])) _ _ s
 exact A7 (UR (A7 (T4 (uC [0:h]) (by show 1<=Vg;decide))))
def JJ (x y:Str)(k:Int)(t u v:Tok)(hk:(decide (k< -(2^63:Int))||decide (k≥2^63))=Vd)(h1:(decide (↑x<↑y)||decide (VB x<VB y))=v_):
  GR («str.split» [[.str x t,.str y u,.int k v]:[]]) (R8 x t):=by
 erw[FG x y k t u v hk,Z,U];refine .of_wp λprog w A R s h=>?_;rw[U,h1];show Ve _ _ (do rule "str.split.sep-cannot-occur";ret (<-tm [.str x t])) _ _ s
 exact A7 (UR (A7 (T4 (uC [0:h]) (by show 1<=Vg;decide))))
inductive OO (x:V)(vs:List V)(H:Hp)(Q:VK):Prop
 |mk (z:Str)(n:Nat)(_:x= !z)(_:vs= [-" ",.int (n:Int)])(_:↑z<=1000)(_:0<n)(_:n<=1000)(_:∀p,H p=U_->Q (-p) (upd H p (.lst ((spl n z).map V.str))))
def Eu:MtM X "str.split" OO:=by
 rw[2,x,vs,v,us,Q,I,rx,rv,h];erw[h,z,n,rfl,rfl,hz,ac,hn,q];erw[rx,t,rfl];erw[sU rv,u,u',rfl,[t',rfl],[Z,rfl]];let aa:↑z<=sizeLine:=by rw[uB];omega
 let hk:(decide ((n:Int)< -(2^63:Int))||decide ((n:Int)≥2^63))=false:=by
  rw[ud (),ud ()];rfl
 let U:He z (n:Int)=n:=by
  unfold He;rw[A4 ()]
  omega
 let one:spl n z= [z]->∀(T:Nat),0<T->EP X ot σ Q (.ref #[0,s]) {s with heap:=s.heap.push {cls:= .type "list",data:= .seq [VF z t].toArray},toks:=T}:=λe T hT=>by
  rw[e] at q;exact xL (ys:= [V.str z]) I (.cons (show il (V.str z) _ from[t:1]) .nil) (by show 1<=Vg;decide) q
 cases h1:(decide (↑z<(" ":Str).length)||decide (VB z<VB " ")) with
 |true=>
  refine vP vS (vY _ _ _) vJ (F.args_str_split_3 _ _ _) (JJ z " " n t t' Z hk h1) ?_;let h2:↑z<1:=by
   rw[HR] at h1;rcases h1 with h1|h1
   .exact ui h1
   .exact A8 (ui h1) (Kf z)
  refine one ?_ s.toks I.tk;let e:z.cps.toList= []:=vI (by simpa [G7] using h2)
  obtain⟨j,rfl⟩:∃j,n=j+1:=[n-1:()]
  unfold spl;rw[e,lj];rw[<-yl z,e]
  rfl
 |false=>
  cases hf:(occurrences z " " 0 ↑z (He z (n:Int))).isEmpty with
  |true=>
   refine vP vS (vY _ _ _) vJ (F.args_str_split_3 _ _ _) (Xu z " " n t t' Z hk h1 () hf) ?_
   rw[U] at hf;exact one (Di (.inr (.inr trivial)) hf ()) s.toks I.tk
  |false=>
   let hl:=Dj n z;let e:partsBetween z (occurrences z " " 0 ↑z (He z (n:Int))) (" ":Str).length=spl n z:=by
    rw[xR,U];exact oH z 32 n
   refine vP vS (vY _ _ _) vJ (F.args_str_split_3 _ _ _) (meets_str_split_sep_max z " " n t t' Z hk h1 () hf aa (by rw[e,uB];omega)) ?_
   rw[e];exact xL I (zN _ _) (by rw[u7,uB];omega) q
abbrev Xa (c:Nat):oj Nat->oj Nat
 | []=> []|a::r=>if a=c then [] else a::Xa c r
def oY {c:Nat}:∀{L:oj Nat}{i j:Nat}{r:oj Nat},nj c L i=j::r->i<=j/\Xa c L=L.take (j-i)
 | [],_,_,_,h=>by simp[nj] at h|a::q,i,j,r,h=>by
  by_cases e:a=c
  .rw[nj,A6 e,0] at h;exact⟨uh _,by simp[Xa,e]⟩
  .rw[nj,A4 e] at h;erw[oY h,h1,h2];rw[_,()]
   rw[Xa,A4 e,h2,show j-i=(j-(i+1))+1 by omega,TY]
def ZH {c:Nat}:∀{L:oj Nat},c∉L->Xa c L=L
 | [],_=>rfl|a::r,h=>by
  let h1:a≠c:=λe=>h (by simp[e])
  rw[Xa,A4 h1,ZH λz=>h (uf _ z)]
abbrev hd (z:Str):Str:=ofL (Xa 32 z.cps.toList)
def Ib (I:#[I])(U:iE ys its)(hz:↑ys<=Vg)(q:∀p,H p=U_->Q (-p) (upd H p (¬ys)))(Z:0<t':=by ac_rfl):
  EP X ot σ Q (.ref #[0,s]) {s with heap:=s.heap.push {cls:= .type "tuple",data:= .seq its.toArray},toks:=t'}:=
 (.ref #[0,s],_,I.laid (o:=¬ys) (λ_ _ w=>u9 _ w) (uh _) (hz,its,U,Hk _ _),1,q _ I.fresh)
inductive AcU (x:V)(vs:List V)(H:Hp)(Q:VK):Prop
 |mk (z:_)(_:x= !z)(_:vs= [-" "])(_:↑z<=1000)(_:∀p a b,H p=U_->Q (-p) (upd H p (-[.str (hd z),!a,!b])))
def Sg:MtM X "str.partition" AcU:=by
 rw[2,x,vs,v,us,Q,I,rx,rv,h];erw[h,z,rfl,rfl,hz,q];erw[rx,t,rfl];erw[rv.one,u,rfl,t',rfl];let Z:↑z<=sizeLine:=by rw[uB];omega
 refine vP F.slot_str_partition (vY _ _ _) F.entry_str_partition (F.args_str_partition_2 _ _) (meets_str_partition z " " t t' () Z) ?_
 cases U:occurrences z " " 0 ↑z 1 with
 |nil=>
  let h0:hd z=z:=by
   rw[xR,qas] at U;let h1:nj 32 z.cps.toList 0= []:=by
    cases e:nj 32 z.cps.toList 0 with
    |nil=>rfl|cons a r=>rw[e] at U;simp at U
   unfold hd;rw[ZH (Wz h1),yl]
  refine Ib (ys:= [.str (hd z),!tY,!tY]) (t':=s.toks+1) I (.cons (show il (V.str (hd z)) _ from⟨t,by rw[h0]⟩) (.cons (show il (V.str _) _ from⟨0⟩) (.cons (show il (V.str _) _ from⟨0⟩) .nil))) (by show 3<=Vg;decide) λp hp=>q p _ _ hp
 |cons i r=>
  let h0:hd z=strSub z 0 i:=by
   rw[xR,qas] at U;cases e:nj 32 z.cps.toList 0 with
   |nil=>rw[e] at U;simp at U|cons a r'=>
    rw[e] at U;have:a=i:=by simp at U;exact U.1
    subst this;erw[oY e,_,h2];unfold hd;rw[h2,<-yl (strSub z 0 a),rA,HV]
  refine Ib (ys:= [.str (hd z),-" ",.str _]) (t':=s.toks+1+1) I (.cons (show il (V.str (hd z)) _ from⟨s.toks,by rw[h0]⟩) (.cons (show il (V.str _) _ from[t':1]) (.cons (show il (V.str _) _ from[s.toks+1:1]) .nil))) (by show 3<=Vg;decide) λp hp=>q p _ _ hp
inductive Aa2 (K:PySem.W.Frag)(x:V)(vs:List V)(H:Hp)(Q:VK):Prop
 |mk (sep:Str)(p:Addr)(l:List Str)(_:x= !sep)(_:vs= [-p])(_:SqL K H p (l.map V.str))(_:(l.map (·.length)).sum+↑l*↑sep<=1000000)(_:Q (.str (Vl sep l)) H)
def qaC:MtM X "str.join" (Aa2 X.K):=by
 rw[2,x,vs,v,us,Q,I,rx,rv,h];erw[h,sep,p,l,rfl,rfl,hp,hz,q];erw[rx,t,rfl];erw[rv.one,u,rfl,ru];rw[ru,0];erw[I.list hp,its,r,pl,hl];erw[Ww r,ps,rfl,e2];let Z:tooLong ((ps.map (·.1)).toArray.foldl (·+ ·.length+↑sep) 0)=false:=by
  rw[e2];have:=FD sep l;rw[this];unfold tooLong;refine ud ?_;rw[uB];omega
 refine vP F.slot_str_join (vY _ _ _) F.entry_str_join (F.args_str_join_2 _ _) (meets_str_join_list sep t p ps Z) [pl.isList:?_];let U:(glued sep (ps.map (·.1))).length<=sizeLine:=Fn Z
 match ps,e2,U with
 | [],e2,U=>
  subst e2;exact(U,.str _,H,I.tok _,⟨0⟩,q)
 | [a],e2,_=>
  subst e2;exact(.str _,H,I,[a.2:1],q)
 |a::b::r,e2,U=>
  subst e2;rw[_,U,.str _,H,I.tok _,⟨0⟩];rw[R9];exact q
def IC:jg X (.type "int") (λxs H Q=>∃z n,xs= [!z]/\PySem.intText? z=u_ n/\↑z<=640/\Q (.int n) H):=by
 rw[2,xs,us,Q,I,r,h];erw[h,z,n,rfl,hn,U,q];erw[xn r,u,rfl,t,rfl,<-PySem.W.KIN.call_text hn U (.int n,H,I.tok _,⟨0⟩,q)]
end
end L2
namespace L2
open PySem PySem.Spec PyProof.Rows
variable {X:Cx}{ot:oj (o3×Obj)}{σ:St}{H:Hp}{s:o7}{h':o8}{t':Nat}{fp:oj o3}
def Inv.turnedL (I:#[I])(k:∀b o,b∉fp->s.heap.get? b=u_ o->h'.get? b=u_ o)(Z:∀b>fp,AX X ot H b)(ht:0<t':=by ac_rfl):Inv X ot σ H {s with heap:=h',toks:=t'}:=by
 let aa:∀b u,H b=u_ u->b∉fp:=λb u e z=>by
  have:=(Z b z).1;rw[this,0] at e
 let nL:X.env.locals∉fp:=λz=>(Z _ z).2.1 rfl;refine I.step (g':=s.gens) (d':=s.drawn) (ch:=fp) (λb hb=>((Z b hb).2.2.2.1,(Z b hb).2.1,(Z b hb).2.2.2.2.1,(Z b hb).2.2.2.2.2)) (λb o _ _ U e _=>k b o U e) (λb o _ _ U e _=>[o.slots:k b o U e]) (λ_ _ _ _ n=>n)
  (λb o U e=>[o:k b o U e]) (λ_ _ e=>e) (λ_ _ _ e=>e) (λb ps e=>⟨#[],by rw[e];simp⟩) (λm hm=>?_) (λb u e=>?_) I.bare
 .erw[hm,o,es,ep,ho,r,<-(o,es,ep,k _ o nL ho,r)]
 .refine(I.hok b u e).stay (λc v U q=>k c v ?_ q) (λ_ q=>q) λ_ _ q=>q;rcases U with z|z
  .rw[z];exact aa b u e
  .exact aa c _ z
def Inv.handed {X:Cx}{ot:oj (o3×Obj)}{σ:St}{H:Hp}{s:o7}{h':o8}{t':Nat}{fp:oj o3}{ys:oj V}{its:oj o6}(I:#[I])(hf:∀b>fp,AX X ot H b)(hl:∀b>fp,b<#[0,s])(hv:iE ys its)(hz:↑ys<=Vg)
  (hn:h'.get? #[0,s]=u_ {cls:= .type "tuple",data:= .seq its.toArray}) (hs:h'.objs.size=#[0,s]+1) (k:∀b o,b∉fp->s.heap.get? b=u_ o->h'.get? b=u_ o) (ht:0<t':=by ac_rfl):
  Inv X ot σ (upd H #[0,s] (¬ys)) {s with heap:=h',toks:=t'}/\∀b>fp,AX X ot (upd H #[0,s] (¬ys)) b:=by
 let I1:Inv X ot σ (upd H #[0,s] (¬ys)) {s with heap:=s.heap.push {cls:= .type "tuple",data:= .seq its.toArray},toks:=t'}:=
  I.laid (o:=¬ys) (λ_ _ w=>u9 _ w) (uh _) (hz,its,hv,Hk _ _)
 let U:∀b>fp,AX X ot (upd H #[0,s] (¬ys)) b:=λb Z=>by
  erw[hf b Z,f0,f1,f2,f3,f4,f5];have:=hl b Z;exact(by rwa[qk (uU this)],f1,f2,f3,f4,f5)
 rw[_,I1.turnedL (h':=h') (t':=t') (λb o Z e=>?_) U,U];rcases Heap.get?_push_cases (show(s.heap.push {cls:= .type "tuple",data:= .seq its.toArray}).get? b=u_ o from e) with⟨rfl,rfl⟩|e'
 .exact hn
 .exact k b o Z e'
abbrev Itz (K:o0)(a b:o3):It:=
 ⟨λi H=>∃xs ys x y,SqT K H a xs/\SqL K H b ys/\xs[i]? =u_ x/\ys[i]? =u_ y,
  λi H v H'=>∃p x y,v= .ref p/\H p=U_/\H'=upd H p (-[x,y])/\(∀xs,SqT K H a xs->xs[i]? =u_ x)/\∀ys,SqL K H b ys->ys[i]? =u_ y,
  λi H=>∃xs,SqT K H a xs/\↑xs=i⟩
abbrev Ite (K:o0)(a:o3)(c:Int):It:=
 ⟨λi H=>∃xs x,SqT K H a xs/\xs[i]? =u_ x,λi H v H'=>∃p x,v= .ref p/\H p=U_/\H'=upd H p (-[.int (c+i),x])/\∀xs,SqT K H a xs->xs[i]? =u_ x,λi H=>∃xs,SqT K H a xs/\↑xs=i⟩
abbrev tnZ (a b z p r i j:o3)(k:Nat)(h:o8):Prop:=
 VD h z p r .none/\Vt h p (-i) (-j)/\(∃u v,Vt h r u v)/\h.IsTupleIter i a k/\h.IsListIter j b k/\AwZ.Apt z p r i j a b
variable {w:og}{K:o0}
def IQ {P:o9}{ac:oj Expr}{c:Nat}{tp:Pos}(a b z p r i j:o3):NE P w K (.Tuple ac c tp) (Itz K a b) [z,p,r,i,j] z (tnZ a b z p r i j) where
 mem:=by simp
 obj:=λk h st x hx=>by
  erw[st,h1,h2,[u,v,h3],[o4,e4,c4,d4],[o5,e5,c5,d5],D];simp![uF,uX,uR] at hx;rcases hx with rfl|rfl|rfl|rfl|rfl
  .exact⟨_,h1,λv z=>by rw[z,0]⟩
  .exact⟨_,h2,λv z=>by rw[z,0]⟩
  .exact⟨_,h3,λv z=>by rw[z,0]⟩
  .exact⟨o4,e4,λv z=>by rw[d4,0] at z⟩
  .exact⟨o5,e5,λv z=>by rw[d5,0] at z⟩
 keep:=λk h h' st kk=>by
  erw[st,h1,h2,[u,v,h3],[o4,e4,r4],[o5,e5,r5],D,<-(kk z (by simp) _ h1,kk p (by simp) _ h2,⟨u,v,kk r (by simp) _ h3⟩,⟨o4,kk i (by simp) _ e4,r4⟩,⟨o5,kk j (by simp) _ e5,r5⟩,D)]
 item:=by
  intro X hP hw hK U k ot s σ H E I hf st hg;subst hP hw hK;erw[hg,xs,ys,x,y,ha,hb,hx,hy];erw[I.tuple ha,its,ra,pa,za];erw[I.list hb,al,rb,pb,zb];erw[ra.get hx,ux,af,ag];erw[rb.get hy,uy,ah,ak];erw[st,h1,h2,[u,v,h3],h4,h5,D];let l1:=uG h1;let l2:=uG h2;let l3:=uG h3;let l4:i<#[0,s]:=by erw[h4,o,e,_,<-uG e]
  let l5:j<#[0,s]:=by erw[h5,o,e,_,<-uG e]
  refine AwZ.zip_go D h1 h2 h3 h4 h5 (show s.heap.IsTuple a its.toArray from pa) pb.isList (x:=ux) (y:=uy) (by simpa using af) (by simpa using ah) λh' g1 g2 g3 g4 g5 g6 g7=>?_
  let g8:Vt h' p (-i) (-j):=g7 _ _ D.pz D.pr D.pi D.pj h2;obtain⟨I1,ad⟩:=I.handed (t':=s.toks) (ys:= [x,y]) (its:= [ux,uy]) hf (λc U=>by
   simp![uF,uX,uR] at U;rcases U with rfl|rfl|rfl|rfl|rfl<;>assumption) (.cons ag (.cons ak .nil)) (by show 2<=Vg;decide) g5 g6 (λc o U e=>by
    simp![uF,uX,uR,Vb] at U;exact g7 c o U.1 U.2.2.1 U.2.2.2.1 U.2.2.2.2 e)
  rw[0,wpAny_letOwnedTupleGo_zip (s:={s with heap:=h'}) g1 λae z2 s2=>?_]
  let Z:∀c o,c≠z->h'.get? c=u_ o->ae.get? c=u_ o:=λc o U e=>s2.extBut c o U e;rw[_,.ref #[0,s],_,I1.turnedL (fp:= [z]) (h':=ae) (t':=s.toks) (λc o U e=>Z c o (by simpa using U) e) (λc U=>ad c (by simp at U;simp[U])),1,(_,x,y,1,I.fresh,1,λzs aa=>?_,λzs aa=>?_),(z2,Z _ _ D.pz g8,[_:_:Z _ _ D.rz g2],?_,?_,D),λc U=>(ad c U).1]
  .rwa[I.tuple_inj aa ha]
  .rwa[I.list_inj aa hb]
  .erw[g3,o,e,q,<-[o:Z _ _ D.iz e:q]]
  .erw[g4,o,e,q,<-[o:Z _ _ D.jz e:q]]
 done:=by
  intro X hP hw hK U k ot s σ H E I hf st hg;subst hP hw hK;erw[hg,xs,ha,hx];erw[I.tuple ha,its,ra,pa,za];let hl:=↑ra;erw[st,h1,h2,[u,v,h3],h4,h5,D];refine AwZ.zip_stop (A:=X.A) (I.ok.hd U) D h1 h2 h4 (show s.heap.IsTuple a its.toArray from pa) (by simp;omega) λh' kk=>[1:?_]
  exact I.turnedL (t':=s.toks) (λc o U e=>by
   simp![uF,uX,uR,Vb] at U;exact kk c o U.1 U.2.2.1 U.2.2.2.1 U.2.2.2.2 e) hf
 self:=λ_ _ _ _ _ st h=>rO st.1 h
section
variable {X:Cx}
variable {n:Nat}
def Ab1 {a b:Nat}(ha:a<n)(U:b<n):AwZ.Apt (n+4) (n+2) (n+3) n (n+1) a b:=by
 constructor<;>exact(show _≠((_:Nat)) by omega)
def SJ {x:Nat}(h:x=n+4\/x=n+2\/x=n+3\/x=n\/x=n+1):n<=x:=by omega
def Aap {m x:Nat}(hm:m=n+1)(h:x=m\/x=n):n<=x:=by omega
abbrev AeC (K:o0)(ta:TA):TI:=λσ H R=>ta σ H λvs H1=>∃a b xs ys,vs= [-a,-b]/\SqT K H1 a xs/\SqL K H1 b ys/\R (Itz K a b) H1
def Aa6 {U:oj Expr}{c:Nat}{tp p pos:Pos}{e1 e2:Expr}{ta:TA}(hg:Gl X "zip")(hm:X.mg "zip"=U_)(ha:PA X [e1,e2] ta)(hs:Vi [e1,e2] X.env= [(Vd,eval e1 X.env),(Vd,eval e2 X.env)])(Z:Vi [e2] X.env= [(Vd,eval e2 X.env)]):
  PI X (.Tuple U c tp) (.Call (.Name "zip" p) [e1,e2] [] pos) (AeC X.K ta):=by
 rw[2,R,I,h];refine HF (ZQ I hg hm boot_zip (vy (thn (ha pos ot s σ H _ I h) λus s1 zq=>?_) (by rw[hs,Z]) (by rw[Z];rfl)));erw[zq,vs,H1,I1,r1,q1]
 erw[q1,a,b,xs,ys,e,hA,hB,q];subst e;erw[sU r1,u,u',rfl,ru,ac];rw[ru,0];rw[ac,0];erw[I1.tuple hA,its,ra,pa,za];erw[I1.list hB,ad,rb,pb,zb];let la:a<#[0,s1]:=by erw[id pa,o,e,_,<-uG e]
 let lb:b<#[0,s1]:=by erw[id pb,o,n,e,_,<-uG e]
 refine AwZ.zip_call (show s1.heap.IsTuple a its.toArray from pa) pb.isList λh2 g1 g2 g3 g4 g5 g6 g7=>?_
 refine rO (s:={s1 with heap:=h2}) g1 ?_
 rw[_,_,[#[0,s1]+4,#[0,s1]+2,#[0,s1]+3,#[0,s1],#[0,s1]+1],_,_,H1,1,I1.kept (t':=s1.toks) g7,IQ a b _ _ _ _ _,(g1,g2,[_:_:g3],g4,g5,?_),λx hx=>?_,q]
 .exact Ab1 la lb
 .let aa:#[0,s1]<=x:=by
   simp![uF,uX,uR] at hx;exact SJ hx
  exact I1.fpOk aa (I1.hok.fresh aa)
abbrev tnE (a e j:o3)(c:Int)(k:Nat)(h:o8):Prop:=(∃old,VX h e j (c+k) old)/\h.IsTupleIter j a k/\e≠j
def Da {P:o9}{aa:oj Expr}{cc:Nat}{tp:Pos}(a e j:o3)(c:Int):NE P w K (.Tuple aa cc tp) (Ite K a c) [e,j] e (tnE a e j c) where
 mem:=by simp
 obj:=λk h st x hx=>by
  erw[st,[Z,h1],[o4,e4,c4,d4],D];simp![uF,uX,uR] at hx;rcases hx with rfl|rfl
  .exact⟨_,h1,λv z=>by rw[z,0]⟩
  .exact⟨o4,e4,λv z=>by rw[d4,0] at z⟩
 keep:=λk h h' st kk=>by
  erw[st,[Z,h1],[o4,e4,r4],D,<-⟨⟨Z,kk e (by simp) _ h1⟩,⟨o4,kk j (by simp) _ e4,r4⟩,D⟩]
 item:=by
  intro X hP hw hK U k ot s σ H E I hf st hg;subst hP hw hK;erw[hg,xs,x,ha,hx];erw[I.tuple ha,its,ra,pa,za];erw[ra.get hx,ux,af,ag];erw[st,[Z,h1],h4,D];let l1:=uG h1;let l4:j<#[0,s]:=by erw[h4,o,e,_,<-uG e]
  refine AwZ.enum_go h1 h4 (show s.heap.IsTuple a its.toArray from pa) (x:=ux) (by simpa using af) D λh' g1 g3 g5 g6 g7=>?_
  obtain⟨I1,ac⟩:=I.handed (t':=s.toks+1) (ys:= [.int (c+k),x]) (its:= [.int (c+k) s.toks,ux]) hf (λc U=>by
   simp![uF,uX,uR] at U;rcases U with rfl|rfl<;>assumption) (.cons (show il (V.int (c+k)) _ from⟨0⟩) (.cons ag .nil)) (by show 2<=Vg;decide) g5 g6 (λc o U e=>by
    simp![uF,uX,uR,Vb] at U;exact g7 c o U.1 U.2 e)
  rw[0,wpAny_letOwnedTupleGo_enum (s:={s with heap:=h',toks:=s.toks+1}) g1 λad z2 s2=>?_]
  let ae:∀c o,c≠e->h'.get? c=u_ o->ad.get? c=u_ o:=λc o U e=>s2.extBut c o U e;rw[_,.ref #[0,s],_,I1.turnedL (fp:= [e]) (h':=ad) (t':=s.toks+1) (λc o U e=>ae c o (by simpa using U) e) (λc U=>ac c (by simp at U;simp[U])),1,(_,x,1,I.fresh,1,λzs ah=>?_),[[ux:?_]:?_:D],λc U=>(ac c U).1]
  .rwa[I.tuple_inj ah ha]
  .let e1:c+((k+1:Nat):Int)=c+(k:Int)+1:=by omega
   rwa[e1]
  .erw[g3,o,e,q,<-[o:ae _ _ (U1 D) e:q]]
 done:=by
  intro X hP hw hK U k ot s σ H E I hf st hg;subst hP hw hK;erw[hg,xs,ha,hx];erw[I.tuple ha,its,ra,pa,za];let hl:=↑ra;erw[st,[Z,h1],h4,D];refine AwZ.enum_stop (A:=X.A) (I.ok.hd U) h1 h4 (show s.heap.IsTuple a its.toArray from pa) (by simp;omega) λh' kk=>[1:?_]
  exact I.turnedL (t':=s.toks) (λc o U e=>by
   simp![uF,uX,uR,Vb] at U;exact kk c o U.2 e) hf
 self:=λ_ _ _ _ _ st h=>by
  erw[st,[Z,h1],_,<-Fe h1 h]
abbrev IJ (K:o0)(w:og)(a:o3):Prop:=(a==Vy)=Vd/\∃es n,K.lookup a=u_ (.type "dict",U_,.dict es n,#[])/\PySem.W.KeysLit w.params es.toList
inductive AcV (K:PySem.W.Frag)(w:World)(x:V)(y:V)(H:Hp)(Q:VK):Prop
 |mk (z:_)(a:_)(r:_)(_:x= !z)(_:y=-a)(_:IJ K w a)(_:PySem.W.nsIn K a z=u_ r)(_:Q (.bl (!(r.isSome))) H)
def O2:OpR X (Vm .NotIn) (AcV X.K X.w):=by
 rw[2,x,y,v,u,Q,I,Z,ry,h];erw[h,z,a,r,rfl,rfl,[hs,es,n,U,hk],hn,q];erw[Z,t,rfl];rw[ry,0];let hm:=PySem.W.mapOf_K (prog:=X.prog) (w:=X.w) I.kIn U hk;refine rM (tK X.prog X.w z t) hs hm (.bl (!(r.isSome)),H,I.tok _,?_,q);rw[PySem.W.find_K U hn]
 rfl
inductive Aet (K:PySem.W.Frag)(w:World)(x:V)(y:V)(H:Hp)(Q:VK):Prop
 |mk (z:_)(a:_)(u:_)(v:_)(_:x=-a)(_:y= !z)(_:IJ K w a)(_:PySem.W.nsIn K a z=u_ (u_ u))(_:il v u)(_:Q v H)
def AdZ:IxR X (Aet X.K X.w):=by
 intro value slice ot s σ H x y v u Q I Z ry h hs;erw[h,z,a,u',v',rfl,rfl,[_,es,n,U,hk],hn,hr,q];erw[ry,t,rfl];rw[Z,0];let hm:=PySem.W.mapOf_K (prog:=X.prog) (w:=X.w) I.kIn U hk;exact Hx hm.typeIs slot_dict_getitem.lookup (rY (tK X.prog X.w z t) hm (PySem.W.find_K U hn) (v',H,I.tok _,hr,q)) hs
end
section
variable {X:Cx}{K:o0}
def DN {es:oj Expr}{k:Nat}{t:TGs}{n:Nat}{pos:Pos}(Z:X.K=K)(hc:X.calm=v_)(h:PGs X es t)
  (hn:↑(G9 es X.env)=n) (U:(G9 es X.env).findIdx? (·.1)=U_):PG X (.Tuple es k pos) (Adk K n t):=by subst Z;exact JA hc h hn U
end
def wK {lo:Int}{n:Nat}{L:o3}{H1:Hp}{te:TE}{tl:St}{Q:VK}(C:Nat->oj V->Hp->Prop)(hn:n<=Vg)(h0:C 0 [] (upd H1 L (.lst [])))
  (hs:∀i ys H,i<n->C i ys H->H L=u_ (.lst ys)->↑ys<=i->∀R:VK,(∀y H4,H4 L=u_ (.lst ys)->C (i+1) (ys++ [y]) (upd H4 L (.lst (ys++ [y])))->R y H4)->te (u_ (.int (lo+(i:Int)))::tl) H R)
  (hQ:∀ys H,C n ys H->H L=u_ (.lst ys)->Q (-L) H):Az L (Itr lo n) (YG 0) nK te (U_::tl) H1 Q:=by
 rw[_,n,λi σ ys H=>(∃x,σ=x::tl)/\C i ys H,hn,[[U_:1]:h0],?_,?_]
 .rintro i σ ys H hi ⟨⟨x,rfl⟩,U⟩ Z hy;rw[_,hi];rintro x' H' ⟨rfl,rfl⟩;dsimp![YG,nK,Gx];rw[A6 rfl];exact hs i ys H' hi U Z hy _ λy H4 e c=>[e:⟨0⟩:c]
 .rintro σ ys H ⟨_,U⟩ Z;exact[uh _:hQ ys H U Z]
def Abx {K:o0}{a b A:o3}{H1:Hp}{te:TE}{tl:St}{Q:VK}{xs ys:oj V}(f:Nat->D)(ha:∀H,ic H1 H->SqT K H a xs)(hb:∀H,ic H1 H->SqL K H b ys)(ad:↑xs=↑ys)(hn:↑xs<=Vg)(hA:H1 A=U_)
  (aa:∀i x y H (R:VK),xs[i]? =u_ x->ys[i]? =u_ y->ic H1 H->(∀v H',ic H H'->Is H' (f i) v->R v H')->te (u_ x::u_ y::tl) H R)
  (hQ:∀H' vs,ic H1 H'->H' A=u_ (.lst vs)->L2.IsL H' ((Vq ↑xs).map f) vs->Q (-A) H'):Az A (Itz K a b) (Adk K 2 (SE (YG 0) (SE (YG 1) Ad1))) nK te (U_::U_::tl) H1 Q:=by
 rw[_,↑xs,λi σ us H=>(∃u v,σ=u::v::tl)/\L2.IsL H ((Vq i).map f) us/\ic H1 H,hn,[[U_:U_:1]:1:qf hA _],?_,?_]
 .rintro i σ us H hi ⟨⟨u,v,rfl⟩,hl,sm⟩ U ae;let hx:xs[i]? =u_ xs[i]:=ub hi;let hy:ys[i]? =u_ (ys[i]'()):=ub _
  rw[_,(xs,ys,_,_,ha H sm,hb H sm,hx,hy),λx H' y=>?_];erw[y,p,x',y',rfl,hp,rfl,e1,e2];let e1:=e1 xs (ha H sm);let e2:=e2 ys (hb H sm);let s2:ic H (upd H p (-[x',y'])):=qf hp _;rw[_,p,0,SqT.of qg,1,x',0,y',0,1];dsimp![nK];rw[A6 rfl];refine aa i x' y' _ _ e1 e2 (sm.trans s2) λy4 H4 Z ac=>(Z _ _ (s2 _ _ U),[_:0],?_,λb o e=>?_)
  .let t:Tk H4 (upd H4 A (.lst (us++ [y4]))):=Tk.updL (Z _ _ (s2 _ _ U));rw[rT,uj];exact((hl.mono (s2.trans Z).tk).mono t).append (IsL.one (ac.mono t))
  .rw[qk (ql e hA)];exact Z b o (s2 b o (sm b o e))
 .rintro σ us H ⟨_,hl,sm⟩ U;exact[[xs:ha H sm:1]:hQ H us sm U hl]
def Jw (z:Str)(l:oj Str):inV (!z) (l.map V.str)=decide (z>l):=by
 unfold inV;rw[TU,U2,Rl,vm];constructor
 .rintro⟨x,Z,e⟩;let U:(x==z)=true:=e;rw[beq_iff_eq] at U;exact U▸Z
 .intro h;exact⟨z,h,by show(z==z)=v_;exact beq_self_eq_true z⟩
def jK (l:oj Str):(l.map V.str).all ZE=true:=by
 rw[US,U4];intro x _
 rfl
inductive Pt where
 |s (z:Str)|n (i:Int)
abbrev Pt.d:Pt->D
 | .s z=> !z| .n i=> .int i
abbrev Pt.t:Pt->Str
 | .s z=>z| .n i=>Vo i
inductive Kd where
 |box|line|words
 deriving DecidableEq
abbrev Kd.t:Kd->Str
 | .box=>"box"| .line=>"line"| .words=>"words"
abbrev BX:oj Str:= ["a","b","c","d","e","f","g","h"]
abbrev FRM:oj (Str×oj Kd):= [("text",[.box,.words]),("self",[.box]),("copy",[.box,.box]),("row",[.box]),("put",[.box,.box]),("join",[.box,.box]),("first",[.box,.box]),("rest",[.box,.box]),
 ("size",[.box,.box]),("cut",[.box,.box,.box]),("glue",[.box,.box,.box]),("ask",[.box,.box]),("has",[.box,.box]),("names",[.box,.box]),("go",[.line]),("like",[.box,.box,.line]),
 ("rowed",[.box,.line]),("none",[.box,.line]),("say",[.box]),("fault",[])]
abbrev Aaf (n m:Nat):Kd->Pt->Prop
 | .box,.s z=>z>BX| .line,.n i=>1<=i/\i<=n| .words,.s z=>↑z<=m/\z.cps.toList.all QI=v_|_,_=>False
abbrev jE (n m:Nat):oj Kd->oj Pt->Prop
 | [],[]=>True|k::ks,p::ps=>Aaf n m k p/\jE n m ks ps|_,_=>False
nonrec abbrev Rw:=Str×oj Pt
abbrev JN (n m:Nat)(r:Rw):Prop:=∃ks,(r.1,ks)>FRM/\jE n m ks r.2
abbrev txs (r:Rw):oj Str:=r.1::r.2.map Pt.t
abbrev Yz (r:Rw):Str:=Vl " " (txs r)
abbrev rowD (r:Rw):D:=-[.str r.1,.tup (r.2.map Pt.d)]
def xt:∀(x y:Str) (r:oj Str),(Vl " " (x::y::r)).cps.toList=x.cps.toList++32::(Vl " " (y::r)).cps.toList:=by
 intro x y r;show((x.cps++(" ":Str).cps)++(Vl " " (y::r)).cps).toList=_;rw[tG,tG,xR];simp
nonrec abbrev C0 (z:Str):Prop:=32∉z.cps.toList
def qan:∀(l:oj Str) (z:Str) (n:Nat),(∀p>l,C0 p)->(n=0\/C0 z)->spl (↑l+n) (Vl " " (l++ [z]))=l++ [z]
 | [],z,n,_,hz=>by
  show spl (0+n) z= [z];rw[T6];unfold spl;rcases hz with rfl|hz
  .rw[lj];show [ofL z.cps.toList]= [z];rw[yl]
  .rw[wS hz];show [ofL z.cps.toList]= [z];rw[yl]
 |p::l,z,n,hl,hz=>by
  let U:=qan l z n (λq Z=>hl q (uf _ Z)) hz;let hp:C0 p:=hl p ug;obtain⟨y,r,e⟩:∃y r,l++ [z]=y::r:=by cases l<;>exact[_:0]
  show spl ((↑l+1)+n) (Vl " " (p::(l++ [z])))=p::(l++ [z]);rw[e] at U⊢;unfold spl at U⊢;rw[xt,show ↑l+1+n=(↑l+n)+1 by omega,Cb hp,uA,U,yl]
def Sw (w:Str)(r:oj Str)(h:C0 w):hd (Vl " " (w::r))=w:=by
 let U:∀(p q:oj Nat),32∉p->Xa 32 (p++32::q)=p:=by
  intro p
  induction p with
  |nil=>intro q _;simp[Xa]|cons a p Z=>
   intro q h;let h1:a≠32:=λe=>h (by simp[e])
   show Xa 32 (a::(p++32::q))=a::p;rw[Xa,A4 h1,Z q λz=>h (uf _ z)]
 cases r with
 |nil=>
  show ofL (Xa 32 w.cps.toList)=w;rw[ZH h,yl]
 |cons y r=>
  unfold hd;rw[xt,U _ _ h,yl]
def BK:∀(l:oj Str),l≠ []->(Vl " " l).length+1=(l.map (·.length)).sum+↑l
 | [],h=>A8 rfl h| [x],_=>by simp[Vl]|x::y::r,_=>by
  let U:=BK (y::r) (by simp)
  let e:(Vl " " (x::y::r)).length=↑x+(1+(Vl " " (y::r)).length):=by
   have:=Aa Gm (xt x y r);rw[uw,um] at this;simp![vo] at this;show(Vl " " (x::y::r)).cps.size=_;rw[this];show x.cps.size+((Vl " " (y::r)).cps.size+1)=x.cps.size+(1+(Vl " " (y::r)).cps.size);omega
  rw[e,uA,UI,um];omega
def oO {i:Int}(h1:1<=i)(h2:i<=40):↑(Vo i:Str)<=2/\C0 (Vo i:Str)/\(Vo i:Str).cps.toList.all QI=true:=by
 obtain⟨k,rfl⟩:∃k:Fin 41,i=((k.val:Nat):Int):=⟨[i.toNat:()],by simp;omega⟩
 let U:∀k:Fin 41,↑(Vo ((k.val:Nat):Int):Str)<=2/\decide (C0 (Vo ((k.val:Nat):Int):Str))=v_/\(Vo ((k.val:Nat):Int):Str).cps.toList.all QI=true:=by decide+kernel
 erw[U k,a,b,c,<-[a:ui b:c]]
def qay {i:Int}(h1:1<=i)(h2:i<=40):PySem.intText? (Vo i:Str)=u_ i:=PySem.W.KIN.num_reads () ()
variable {z:Str}
def NB (h:z>BX):↑z=1/\C0 z/\z.cps.toList.all QI=true:=by
 let U:∀z>BX,↑z=1/\decide (C0 z)=v_/\z.cps.toList.all QI=true:=by decide+kernel
 erw[U z h,a,b,c,<-[a:ui b:c]]
def C8:∀x>FRM,decide (C0 x.1)=v_/\x.1.cps.toList.all QI=true:=by decide+kernel
def SH:∀x>FRM,(decide (Kd.words>x.2)=Vd)\/x=(("text":Str),[Kd.box,Kd.words]):=by decide+kernel
def E8:∀x>FRM,∀y>FRM,x.1=y.1->x=y:=by decide+kernel
variable {n:Nat}
def oE {m:Nat}(hn:n<=40){k:Kd}{p:Pt}(h:Aaf n m k p)(U:k≠ .words):C0 p.t:=by
 cases k<;>cases p<;>simp![Aaf] at h
 .exact(NB h).2.1
 .exact(oO h.1 ()).2.1
 .exact A8 rfl U
def ZY {n m:Nat}:∀{ks:oj Kd}{ps:oj Pt},jE n m ks ps->↑ps=↑ks
 | [],[],_=>rfl|_::_,_::_,h=>by rw[um,um,ZY h.2]| [],_::_,h=>h.elim|_::_,[],h=>h.elim
def KH {n m:Nat}(hn:n<=40):∀{ks:oj Kd}{ps:oj Pt},jE n m ks ps->Kd.words∉ks->∀p>ps.map Pt.t,C0 p
 | [],[],_,_=>λp U=>by simp at U|_::_,_::_,h,hk=>λp U=>by
  rw[uA] at U;rcases Ab.mp U with rfl|U
  .exact oE hn h.1 λe=>hk (by simp[e])
  .exact KH hn h.2 (λz=>hk (uf _ z)) p U
 | [],_::_,h,_=>h.elim|_::_,[],h,_=>h.elim
variable {r:Rw}
def Si {m:Nat}(h:JN n m r):hd (Yz r)=r.1:=by
 erw[h,ks,U,Z,<-Sw _ _ (ui (C8 _ U).1)]
variable {ks:oj Kd}
def Mb {m:Nat}(hn:n<=40)(hk:(r.1,ks)>FRM)(hp:jE n m ks r.2):spl (if Kd.words>ks then ↑ks else(Yz r).length+1) (Yz r)=txs r:=by
 let hw:C0 r.1:=ui (C8 _ hk).1;by_cases h:Kd.words>ks
 .rw[A6 h];rcases SH _ hk with e|e
  .simp at e;exact A8 h e
  .let e1:ks= [.box,.words]:=Aa Prod.snd e;subst e1;erw[r,w,ps]
   match ps,hp with
   | [p,q],hp=>
    have:=qan [w,p.t] q.t 0 (λz hz=>by
     simp![uF,uX,uR] at hz;rcases hz with rfl|rfl
     .exact hw
     .exact oE hn hp.1 ()) (.inl rfl)
    exact this
 .rw[A4 h];let hf:∀p>txs r,C0 p:=λp Z=>by
   rcases Ab.mp Z with rfl|Z
   .exact hw
   .exact KH hn hp h p Z
  rcases RC (txs r) with e|⟨l,z,e⟩
  .simp[txs] at e
  .rw[RA] at e;let U:=BK (txs r) (by simp[txs])
   unfold Yz;rw[e] at hf U⊢;let hl:↑l<=(Vl " " (l++ [z])).length:=by
    rw[uw] at U;simp![um,HW] at U;omega
   have:=qan l z ((Vl " " (l++ [z])).length+1-↑l) (λq hq=>hf q (vO _ hq)) (.inr (hf z (by simp)))
   rw[show ↑l+((Vl " " (l++ [z])).length+1-↑l)=(Vl " " (l++ [z])).length+1 by omega] at this
   exact this
abbrev VE:oj o6:= [.type "ValueError",.type "Exception",.type "BaseException",.type "object"]
abbrev CX1 (P:o9)(w:og):CXT:=λouter H s E e s'=>∃(ea C:o3) (a0:o6) (H':Hp) (B:o8),e= .ref ea/\s'.os=s.os/\G6 s'.gens/\0<s'.toks/\Un (frs outer) [] H H' s.heap s'.heap/\HOk P w H' B/\
 rG B outer ea (-C) a0 s'.heap/\(∀b o,s.heap.get? b=u_ o->b∉frs outer->∃o',B.get? b=u_ o')/\E (-ea) (u_ C) H'
variable {h:o8}{C:o3}
set_option tactic.hygienic true in
def AbY {bmB:oj o6}{newId:String}(X:K.In h)(q:PySem.W.excIn K C bmB newId=v_):
  ∃bm N nm qn bs hdct sn sub ab col dd k0 k1 k2 k3 k5 mN,h.get? C=u_ (excClassObj nm qn C N bs bm hdct sn sub ab col dd k0 k1 k2 k3 k5 newId)/\h.Ns N mN/\mN "__init__"=U_/\OwnTail h bmB bm:=by
 unfold PySem.W.excIn at q;split at q
 .rename_i dd cd sl ho
  split at q
  .rename_i C' bm k0 k1 k2 k3 n k5 hm hs
   simp![uE,beq_iff_eq,Bool.not_eq_true'] at q;erw[q,[[[[rfl,rfl],U],ht],hok],Z];erw[cd,nm,bs,aa,ns,qn,hd,sn,sub,ab,col,ac];dsimp only at hm U hok Z;subst hm U;obtain⟨l⟩:=sl;simp only at hs;subst hs;exact(bm,ns,nm,qn,bs,hd,sn,sub,ab,col,dd,k0,k1,k2,k3,k5,_,X _ _ ho,.of_isNs (PySem.W.isNs_of_in X hok),PySem.W.nsMap_none_of_in X hok Z,PySem.W.tail_of_in X ht)
  .rw[q,0]
 .rw[q,0]
def sr {h base B:o8}:∀{l:oj Env},h.FunFrames base l->(∀b>frs l,B.get? b=U_)->h.FunFrames B l
 | [],_,_=>trivial|env::r,⟨hk,⟨L,o,hf,hn,ho,hd⟩,hr⟩,hB=>by
  let e:frs (env::r)=L::frs r:=by unfold frs;rw[U0,hf]
  rw[e] at hB;exact[hk:(L,o,hf,hB L ug,ho,hd):sr hr λb U=>hB b (uf _ U)]
abbrev Aay (E:XK)(C:o3)(ta:TE):TS:=λ_ σ H=>IU ta Aaz σ H λvs H1=>↑vs=1/\∀e,E (-e) (u_ C) H1
def qaB {P:o9}{w:og}{K:o0}{mg:Str->om o6}{base:o8}{N:oj Str}{qual:Str}{scope:Vv}{f:o3}{Z:o6}{A:oh}{outer:oj Env}{s₀:o7}{H₀:Hp}{E:XK}
  {x:Str}{C:o3}{np cpos pos:Pos}{aa:Expr}{ta:TE} (hx:PySem.W.excIn K C VE "ValueError.__new__"=v_) (hg:Gl (cxOf (CX1 P w) P w K mg base N qual scope f Z A outer s₀ H₀ E) x) (hm:mg x=u_ (-C))
  (ha:PE (cxOf (CX1 P w) P w K mg base N qual scope f Z A outer s₀ H₀ E) aa ta) (hd:(x==("__debug__":Str))=Vd)
  (hs:Vi [aa] (Vk qual scope #[0,s₀] f Z)= [(Vd,eval aa (Vk qual scope #[0,s₀] f Z))]):
  PS (cxOf (CX1 P w) P w K mg base N qual scope f Z A outer s₀ H₀ E) (.Raise (u_ (.Call (.Name x np) [aa] [] cpos)) U_ pos) (Aay E C ta):=by
 rw[2,D,I,h];erw[AbY I.mod.kin hx,bm,Nn,nm,q,bs,hdct,sn,sub,ab,col,dd,k0,k1,k2,k3,k5,mN,hC,hN,aq,T];let hT:bm.contains (.type "BaseException")=true:=T.hasType ()
 refine wpAny_Raise_call_subT (C:=C) (nm:=nm) (q:=q) (N:=Nn) (bs:=bs) (bm:=bm) (hdct:=hdct) (sn:=sn) (sub:=sub) (ab:=ab) (col:=col) (dd:=dd) (k0:=k0) (k1:=k1) (k2:=k2) (k3:=k3) (k5:=k5)
  (mN:=mN) F.excBase_ValueError hT (I.ok.hd rfl) (by show(Vp cpos (Vi [aa] (Vk qual scope #[0,s₀] f Z))).any (·.1)=Vd;rw[hs];rfl) aq (Wm I hg hm [1:?_] hd)
 let au:PA (cxOf (CX1 P w) P w K mg base N qual scope f Z A outer s₀ H₀ E) [aa] (IU ta Aaz):=qb ha qd hs;let hp:=au cpos ot s σ H (λvs H1=>↑vs=1/\∀e,E (-e) (u_ C) H1) I h;show Ve _ _ (evalArgs (-C) v_ (Vp cpos (Vi [aa] (Vk qual scope #[0,s₀] f Z))) []) _ _ s;let aw:Vi [aa] (cxOf (CX1 P w) P w K mg base N qual scope f Z A outer s₀ H₀ E).env= [(Vd,eval aa (Vk qual scope #[0,s₀] f Z))]:=hs;rw[aw] at hp;rw[hs];refine Uf (vz hp (λvs s₂ h₂=>?_) λ_ _ y=>y);erw[h₂,ws,H2,I2,r2,q2];erw[q2,hl,q2];let bk:=I2.bk;let ax:↑vs<=sizeLine:=by rw[<-↑r2,hl];decide
 rw[1,ax,bk _ _ hC,hN.keeps bk,T.keeps bk,λh' e ad=>?_];show Ve (Vs P w) (A.deeper (Vk qual scope #[0,s₀] f Z)) (Tw (Vk qual scope #[0,s₀] f Z) (-e)) (λ_ ag=>CX1 P w outer H₀ s₀ E (-e) ag) (λe' ag=>CX1 P w outer H₀ s₀ E e' ag) _;let ay:(A.deeper (Vk qual scope #[0,s₀] f Z)).frames=u_ (Vk qual scope #[0,s₀] f Z::outer):=I2.ok.frames;let ak:s₂.heap.FunFrames base (Vk qual scope #[0,s₀] f Z::outer):=I2.stack;let ah:∀b>frs (Vk qual scope #[0,s₀] f Z::outer),H2 b=none:=I2.stkFree;let al:frs (Vk qual scope #[0,s₀] f Z::outer)=#[0,s₀]::frs outer:=rfl;let ap:#[0,s₀]<=#[0,s₀]:=I2.ok.above;let U:Un (frs outer) [] H₀ H2 s₀.heap s₂.heap:=I2.base;refine wpAny_leaves_madeW (base:=TI.gone s₂.heap (frs (Vk qual scope #[0,s₀] f Z::outer))) (h:=s₂.heap) (L:=#[0,s₀]) ay rfl (λb o e=>(TI.gone_some e).2) (sr ak λb hb=>TI.gone_none hb) ad λam t af aB _ aA=>?_;let ae:∀b o,b∉frs (Vk qual scope #[0,s₀] f Z::outer)->s₂.heap.get? b=u_ o->am.get? b=u_ o:=λb o hb e=>af.1 b o (by rwa[TI.gone_get hb])
 let slots:∀b o,s₂.heap.get? b=u_ o->(∀vs,o.data≠ .fields vs)->∃sl,am.get? b=u_ {o with slots:=sl}:=λb o e hn=>aA b o (ad.keeps b o e) hn
 let nd:∀b>frs outer,∀o,s₂.heap.get? b=u_ o->∀vs,o.data≠ .fields vs:=λb hb o e=>by
  obtain⟨_,o',e',hn⟩:=ak.mem (show b>(Vk qual scope #[0,s₀] f Z::outer).filterMap (·.frame) from by rw[show(Vk qual scope #[0,s₀] f Z::outer).filterMap (·.frame)=frs (Vk qual scope #[0,s₀] f Z::outer) from rfl,al];exact uf _ hb)
  rw[e] at e';rw[e',0];exact hn
 let ac:∀b o,s₀.heap.get? b=u_ o->b∉frs outer->b∉frs (Vk qual scope #[0,s₀] f Z::outer):=λb o e hb hm=>by
  rw[al] at hm;rcases Ab.mp hm with rfl|hm
  .exact A8 (uG e) (vM _)
  .exact hb hm
 rw[_,e,C,-t,H2,0,I2.os,I2.bare,(by first|exact I2.tk|exact Vr I2.tk (Fb _ _)|((try dsimp only);first|assumption|exact Inv.tk (by assumption)|exact TC _|exact Vr (Inv.tk (by assumption)) (by assumption)|exact Nat.add_pos_left (Inv.tk (by assumption)) _|omega)),(?_,?_,U.free,?_,U.tups,U.frzs,U.tbls),?_,af,?_,q2 e]
 .intro b o e1 hn hb hx;exact ae b o (ac b o e1 hb) (U.keep b o e1 hn hb hx)
 .intro b o e1 hn hb hx;erw[U.slot b o e1 hn hb hx,sl,e2];erw[slots b _ e2 (nd b hb _ e2),ao,e3,<-[ao:e3]]
 .intro b o e1 hx;erw[U.there b o e1 hx,o',e2];by_cases hb:b>frs outer
  .erw[slots b _ e2 (nd b hb _ e2),ao,e3,<-[_:e3]]
  .exact[o':ae b o' (ac b o e1 hb) e2]
 .intro b u hb;refine(I2.hok b u hb).stay (λc v hc q=>?_) (λ_ q=>q) λ_ _ q=>q;rw[TI.gone_get]
  .exact q
  .intro hm;let hn:=ah c hm;rcases hc with z|z
   .rw[z,hb,0] at hn
   .rw[z,0] at hn
 .intro b o e1 hb;obtain⟨o',e2⟩:=U.there b o e1 (by simp)
  exact⟨o',by rwa[TI.gone_get (ac b o e1 hb)]⟩
nonrec abbrev Cx.marked (X:Cx)(ee:o3)(xe:o6->o7->Prop):Cx:={X with A:=X.A.mark (u_ (-ee)),calm:=Vd,xe:=xe}
section
variable {X:Cx}{ot:oj (o3×Obj)}{σ:St}{H:Hp}{s:o7}{ee:o3}{xe:o6->o7->Prop}
def Cx.Ok.marked (ok:X.Ok):(X.marked ee xe).Ok:=
 (ok.mod,ok.kind,ok.glob,ok.blt,ok.above,ok.inj,ok.has,ok.cab,(λz=>A8 z uc),ok.frames,ok.stk,ok.exf,ok.bs,ok.bsz,ok.noex,ok.exfs,ok.funs,ok.frf)
def Inv.marked (I:#[I]):Inv (X.marked ee xe) ot σ H s:=(I.ok.marked,I.os,I.bare,I.base,I.loc,I.cell,I.free,I.freeC,I.pin,I.hok,I.len,I.tk)
def Inv.unmarked (ok:X.Ok)(I:Inv (X.marked ee xe) ot σ H s):#[I]:=(ok,I.os,I.bare,I.base,I.loc,I.cell,I.free,I.freeC,I.pin,I.hok,I.len,I.tk)
def SP.unmarked (ok:X.Ok){D:nh}{f:Flow}{s':o7}(h:SP (X.marked ee xe) ot D f s'):SP X ot D f s':=by
 cases f with
 |next=>erw[h,U,H',I,q,<-(U,H',I.unmarked ok,q)]|brk=>erw[h,U,H',I,q,<-(U,H',I.unmarked ok,q)]|cont=>erw[h,U,H',I,q,<-(U,H',I.unmarked ok,q)]|ret u=>erw[h,v,U,H',I,r,q,<-(v,U,H',I.unmarked ok,r,q)]
abbrev Cat (X:Cx)(ot:oj (o3×Obj))(σ:St)(E:XK)(e:o6)(s':o7):Prop:=∃H1 s1,Inv X ot σ H1 s1/\CX1 X.prog X.w X.stack H1 s1 E e s'
def Mx {D:nh}{e:o6}{s':o7}{c:Str}{np am:Pos}{Cc C':o3}{b₀:Stmt}{ac:oj Stmt}{ts:TS}(aw:Cat X ot σ (λ_ C H2=>C=u_ Cc/\ts D σ H2) e s')(ad:X.stack=X.env::X.outer/\X.env.frame=u_ X.env.locals)
  (hg:Gl X c) (hm:X.mg c=u_ (-C')) (hx:PySem.W.exmOne X.K (-Cc) (-C')=u_ v_) (hs:∀ee xe,PSs (X.marked ee xe) (b₀::ac) ts) (ax:(c==("__debug__":Str))=Vd):
  Ve #[X,X] X.A (noteFrame e X.env) (λ_ s2=>Ve #[X,X] X.A (setFlight e U_) (λ_ s3=>Ve #[X,X] X.A (handleBy e X.env [.ExceptHandler (u_ (.Name c np)) U_ (b₀::ac) am]) (SP X ot D) X.xe s3) X.xe s2) X.xe s':=by
 erw[aw,H1,s1,I,ea,C,a0,H',B,rfl,ay,ah,htk,U,ao,aa,hold,hC,aA];cases hC;let step:∀hk,B.StaysIn hk->s'.heap.UpToSlots hk->Inv X ot σ H' {s' with heap:=hk}:=by
  intro hk hB hU;let nd:∀b>frs X.stack,∀o,s'.heap.get? b=u_ o->∀vs,o.data≠ .fields vs:=λb hb o e=>by
   obtain⟨_,o',e',hn⟩:=aa.2.2.1.mem (show b>X.stack.filterMap (·.frame) from hb)
   rw[e] at e';rw[e',0];exact hn
  let aB:∀b o o',B.get? b=u_ o'->s'.heap.get? b=u_ o->hk.get? b=u_ o:=λb o o' e1 e2=>by
   have:=aa.1 b o' e1;rw[e2,0] at this;exact hB b o e1
  refine I.call' (s':={s' with heap:=hk}) (ch:= []) ay (?_,?_,U.free,?_,U.tups,U.frzs,U.tbls) (ao.kept λb u e=>hB b u e) ah (λb z=>by simp at z)
  .intro b o e1 hn hb ae;erw[hold b o e1 hb,o',e2,<-aB b o o' e2 (U.keep b o e1 hn hb ae)]
  .intro b o e1 hn hb ae;erw[U.slot b o e1 hn hb ae,sl,e2];erw[hU b _ e2 (nd b hb _ e2),ap,e3,<-[ap:e3]]
  .intro b o e1 ae;by_cases hb:b>frs X.stack
   .erw[U.there b o e1 ae,o',e2];erw[hU b _ e2 (nd b hb _ e2),ap,e3,<-[_:e3]]
   .erw[hold b o e1 hb,o',e2,<-[o':hB b o' e2]]
 rw[ad.1] at aa;let aC:X.A.frames=u_ (X.env::X.outer):=by rw[I.ok.frames,ad.1]
 refine wpAny_looks_onW (base:=B) aC ad.2 aa λh1 ak af=>?_;refine wpAny_landsW ak λh2 Z ag=>?_;let I2:=step h2 Z.1 (af.trans ag);refine wpAny_handleBy_cons (codeAny_handlers_test ?_) (by intro q;rw[q,0])
 refine Wm (X:=X.marked ea X.xe) I2.marked hg hm ?_ ax;erw[Z.there,oe,he,aq];let LT:PySem.W.Looks #[X,X] h2 (HY (-ea)) (-Cc):=aq▸(PySem.W.Looks.ld he).andThen .now;refine PySem.W.exm_one I2.kIn LT hx _ _ _ _ (λb o e=>e) ?_;refine codeAny_handlers_suite (lands_againW Z λh3 al au=>?_);let I3:=step h3 al.1 ((af.trans ag).trans au);exact vz (hs ea _ ot _ σ H' D I3.marked aA) (λf s4 h4=>h4.unmarked I.ok) λ_ _ z=>z
end
def Fun.okX {P:o9}{w:og}{K:o0}{mg:Str->om o6}{base:o8}{x qual:Str}{st:Stmt}{f:o3}{fd:Vh}{N ps:oj Str}{k:Nat}{sp:Sp}(F:Fun K x qual st f fd)(S:qx N ps (qj st))(len:∀vs H Q E,sp vs H Q E->↑vs=↑ps)
  (U:∀(cdv:o6) (A:oh) (outer:oj Env) (s:o7) (H:Hp) (vs:oj V) (Q:VK) (E:XK),mC k (A.deeper (Vk qual (qj st) #[0,s] f cdv))->sp vs H Q E->
   ∃t,PSs (cxOf (CX1 P w) P w K mg base N qual (qj st) f cdv A outer s H E) (Yg st) t/\t {nx:=λ_ H'=>Q .non H',rt:=Q} (qar N vs) H):FnOk P w K mg base (CX1 P w) (k+1) f fd ps sp:=by
 erw[F.ex,oc,od,kV,doc,pm,an,cdv,ct,osl,rfl,lk,Z,<-AbP lk Z S len λA outer s H vs Q E hr aa=>U cdv A outer s H vs Q E hr aa]
end L2
namespace HT
open PySem PyProof.Rows
section
variable {prog:o9}{w:og}{A:oh}{E:o6->o7->Prop}{s:o7}
def getItem_tuple_all {t sl:o3}{items:Array o6}{vl vu:o6}{lo hi:om Int}{Q:o6->o7->Prop}(U:GY s.heap t items)(hs:s.heap.IsSliceOf sl vl vu .none)(pl:VY vl lo)(pu:VY vu hi)
  (hw:sIx items.size 0 lo=0/\sIx items.size items.size hi=items.size) (h:Q (-t) s):Ve #[w,w] A (VO (-t) (-sl)) Q E s:=by
 erw[id hs,os,aa,ac,ae];let ad:s.TypeIs (-sl) "slice":=[os:aa:ac];unfold VO
 try with_reducible refine VS ?_
 first|refine A7 (uC ?_)|skip
 refine A7 (rg U.typeIs () ?_)
 refine A7 (vq (name:=Gy "__getitem__") U.typeIs vW
  (vQ vW U.typeIs pk ?_ (FN _ _)))
 show Ve _ _ (Ry (-t)>>=_) _ _ s;refine A7 (rC U ?_);refine A7 (Gk ad ?_);rw[A6 ()]
 refine A7 (JI hs pl pu ?_);let Z:((((sIx items.size 0 lo:Nat):Int)==0&&(1:Int)==1&&(sIx items.size items.size hi-sIx items.size 0 lo)==items.size)=v_):=by
  rw[hw.1,hw.2];simp
 show Ve _ _ (if(((sIx items.size 0 lo:Nat):Int)==0&&(1:Int)==1&&(sIx items.size items.size hi-sIx items.size 0 lo)==items.size)=v_ then _ else _) _ _ s
 rw[A6 Z];unfold p_;refine A7 (A7 (Gk U.typeIs (uC ?_)));rw[A6 ()]
 exact A7 (UR (uC [0:uC h]))
end
end HT
namespace L2
open PySem PySem.Spec PyProof.Rows
section
variable {X:Cx}
inductive Acs (K:PySem.W.Frag)(x:V)(lo:Option Int)(hi:Option Int)(H:Hp)(Q:VK):Prop
 |mk (a:_)(xs:_)(_:x=-a)(_:SqT K H a xs)(_:(HT.sIx ↑xs 0 lo=0/\HT.sIx ↑xs ↑xs hi=↑xs->Q (-a) H))(_:(¬(HT.sIx ↑xs 0 lo=0/\HT.sIx ↑xs ↑xs hi=↑xs)->∀p,H p=U_->Q (-p) (upd H p (.tup (nE xs lo hi)))))
def Yj:SlR X (Acs X.K):=by
 rw[2,x,v,vl,vu,lo,hi,sl,Q,I,rx,hs,pl,pu,h];erw[h,a,xs,rfl,hx,q1,q2];by_cases Z:HT.sIx ↑xs 0 lo=0/\HT.sIx ↑xs ↑xs hi=↑xs
 .rw[rx,0];erw[I.tuple hx,its,r,ht,hz];let U:its.toArray.size=↑xs:=by rw[ur];exact r.length.symm
  rw[_,"tuple",_,PyProof.Rows.slot_tuple_getitem.lookup,ht.typeIs];exact HT.getItem_tuple_all ht hs pl pu (by rwa[U]) (-a,H,I,1,q1 Z)
 .exact AaR ot s σ H (-a) v vl vu lo hi sl Q I rx hs pl pu (a,xs,1,hx,Z,q2 Z)
inductive OR (x:V)(vs:List V)(H:Hp)(Q:VK):Prop
 |mk (l:Addr)(xs:List V)(i:Nat)(y:V)(_:x=-l)(_:vs= [.int (i:Int),y])(_:H l=u_ (.lst xs))(_:i<=↑xs)(_:↑xs+1<=1000)(_:Q .non (upd H l (.lst (xs.take i++y::xs.drop i))))
def WJ:MtM X "list.insert" OR:=by
 rw[2,x,vs,v,us,Q,I,rx,rv,h];erw[h,l,xs,i,y,rfl,rfl,hH,hi,hz,q];rw[rx,0];erw[sU rv,u,Z,rfl,[t,rfl],ry];erw[I.lstM hH,z,its,n,r,hl,e];obtain⟨x,hx⟩:∃x:Int,x=(i:Int):=⟨0⟩;rw[<-hx];let U:¬(!(FW) x)=true:=by
  unfold FW;simp;omega
 let aa:its.toArray.size<=sizeLine:=by rw[ur];omega
 let g:= @PySem.AutoSeq1.list_insert_list_int_val_1 l its.toArray n x t Z U aa;refine vP F.slot_list_insert [_:e:1] F.entry_list_insert (F.args_list_insert_3 _ _ _) g [e:?_];rw[_,.non,_,I.lset (its':=its.take i++Z::its.drop i) hH e ?_ ((r.take i).append (.cons ry (r.drop i))) ?_,1,q]
 .let hk:(if x<0 then(x+((its.toArray.size:Nat):Int)).toNat else min x.toNat its.toArray.size)=i:=by
   rw[A4 (),ur]
   omega
  show(its.toArray.extract 0 (if x<0 then(x+((its.toArray.size:Nat):Int)).toNat else min x.toNat its.toArray.size)).push Z++its.toArray.extract (if x<0 then(x+((its.toArray.size:Nat):Int)).toNat else min x.toNat its.toArray.size)=_
  rw[hk];apply Array.toList_inj.mp;simp;exact vg (by rw[vh];exact uh _)
 .rw[uw,um,uQ,vh];rw[uB];omega
end
abbrev Yt (n:Nat):Kd->Str->om Pt
 | .words,z=>u_ (.s z)| .box,z=>if z>BX then u_ (.s z) else U_| .line,z=>((Vq n).find? λi:Nat=>decide ((Vo (1+(i:Int)):Str)=z)).map λi:Nat=> .n (1+(i:Int))
abbrev YI (n:Nat):oj Kd->oj Str->om (oj Pt)
 | [],_=>u_ []|k::ks,z::zs=>match Yt n k z,YI n ks zs with
  |some p,u_ ps=>u_ (p::ps)|_,_=>U_
 |_::_,[]=>U_
abbrev Xn (w:Str):om (oj Kd):=(FRM.find? λx=>decide (x.1=w)).map (·.2)
abbrev pcs (ks:oj Kd)(z:Str):oj Str:=spl (if Kd.words>ks then ↑ks else ↑z+1) z
abbrev w8 (n:Nat)(z:Str):om Rw:=
 if QH z=v_ then match Xn (hd z) with
  |none=>U_|some ks=>if(pcs ks z).length=1+↑ks then(YI n ks ((pcs ks z).drop 1)).map λl=>(hd z,l) else U_
 else U_
variable {ks:oj Kd}
def Zn {w:Str}(h:Xn w=u_ ks):(w,ks)>FRM:=by
 unfold Xn at h;cases e:FRM.find? λx=>decide (x.1=w) with
 |none=>rw[e,0] at h|some x=>
  rw[e] at h;let U:=V0 e;let hm:=vX e;rw[h,0];have:x.1=w:=ui U;subst this;exact hm
def WY {w:Str}(h:Xn w=U_):∀x>FRM,x.1≠w:=by
 unfold Xn at h;rw[Tj,Ut] at h;intro x U e;exact h x U (u8 e)
variable {n:Nat}{z:Str}
def DR {m:Nat}{k:Kd}{p:Pt}(hz:↑z<=m)(ha:z.cps.toList.all QI=v_)(h:Yt n k z=u_ p):Aaf n m k p/\p.t=z:=by
 cases k with
 |words=>rw[h,0];exact[[hz:ha]:1]|box=>
  simp![Yt] at h;by_cases U:z>BX
  .rw[A6 U,0] at h;exact[U:1]
  .rw[A4 U,0] at h
 |line=>
  simp![Yt] at h;cases e:(Vq n).find? λi:Nat=>decide ((Vo (1+(i:Int)):Str)=z) with
  |none=>rw[e,0] at h|some i=>
   rw[e,0] at h;let h1:=V0 e;let h2:=List.mem_range.mp (vX e);exact[[():()]:ui h1]
set_option tactic.hygienic true in
def KM {n m:Nat}:∀{ks:oj Kd}{zs:oj Str}{ps:oj Pt},(∀z>zs,↑z<=m/\z.cps.toList.all QI=v_)->↑zs=↑ks->YI n ks zs=u_ ps->jE n m ks ps/\ps.map Pt.t=zs
 | [],[],ps,_,_,h=>by rw[h,0];exact[trivial:1]| [],_::_,_,_,hl,_=>by simp at hl|_::_,[],_,_,hl,_=>by simp at hl|k::ks,z::zs,ps,hz,hl,h=>by
  unfold YI at h;split at h
  .rename_i p qs h1 h2
   rw[h,0];erw[DR (hz z ug).1 (hz z ug).2 h1,U,Z];obtain⟨b1,b2⟩:=KM (λy hy=>hz y (uf _ hy)) (by simpa using hl) h2
   exact⟨[U:b1],by rw[uA,Z,b2]⟩
  .rw[h,0]
abbrev qaM:oj (oj Nat)->oj Nat
 | []=> []| [x]=>x|x::y::r=>x++32::qaM (y::r)
def CK (x:oj Nat){q:oj (oj Nat)}(U:q≠ []):qaM (x::q)=x++32::qaM q:=by
 cases q with
 |nil=>exact A8 rfl U|cons y r=>rfl
def qak:∀(n:Nat) (L:oj Nat),qaM (lj 32 n L)=L
 |0,L=>by simp[lj,qaM]|n+1,[]=>by simp[lj,qaM]|n+1,a::r=>by
  by_cases h:a=32
  .let U:=qak n r;erw[xb 32 n r,p,q,e];rw[lj,A6 h,CK [] (by rw[e];simp),U,h]
   rfl
  .let U:=qak (n+1) r;erw[xb 32 (n+1) r,p,q,e];rw[e] at U;simp![lj,A4 h,e];cases q with
   |nil=>simp![qaM] at U⊢;rw[U]|cons y t=>
    simp![qaM] at U⊢;rw[UN,U]
def BJ:∀l:oj (oj Nat),(Vl " " (l.map ofL)).cps.toList=qaM l
 | []=>rfl| [x]=>by show(ofL x).cps.toList=x;unfold ofL;simp|x::y::r=>by
  let U:=BJ (y::r);show(Vl " " (ofL x::ofL y::r.map ofL)).cps.toList=_;rw[xt];let e:(ofL x).cps.toList=x:=by unfold ofL;simp
  rw[e];show x++32::(Vl " " ((y::r).map ofL)).cps.toList=_;rw[U]
  rfl
def IZ (n:Nat)(z:Str):Vl " " (spl n z)=z:=by
 unfold spl;let h:=BJ (lj 32 n z.cps.toList);rw[qak] at h;rw[<-yl (Vl " " ((lj 32 n z.cps.toList).map ofL)),h,yl]
def Ca:∀(n:Nat) (L:oj Nat),∃q,lj 32 (n+1) L=Xa 32 L::q
 |n,[]=>⟨[],by simp[lj,Xa]⟩|n,a::r=>by
  by_cases h:a=32
  .exact⟨lj 32 n r,by simp[lj,Xa,h]⟩
  .erw[Ca n r,q,e,<-⟨q,by simp![lj,A4 h,e,Xa]⟩]
def IY (n:Nat)(z:Str):∃q,spl (n+1) z=hd z::q:=by
 erw[Ca n z.cps.toList,q,e,<-⟨q.map ofL,by unfold spl hd;rw[e];rfl⟩]
def AN:∀(n:Nat) (L:oj Nat),∀p>lj 32 n L,↑p<=↑L/\∀c>p,c>L
 |0,L=>λp U=>by
  simp[lj] at U;subst U;exact[uh _:λc Z=>Z]
 |n+1,[]=>λp U=>by
  simp[lj] at U;subst U;exact[uh _:λc Z=>Z]
 |n+1,a::r=>λp U=>by
  by_cases h:a=32
  .rw[lj,A6 h] at U;rcases Ab.mp U with rfl|U
   .exact⟨uK _,λc Z=>by simp at Z⟩
   .erw[AN n r p U,h1,h2,<-⟨by simp;omega,λc Z=>uf _ (h2 c Z)⟩]
  .erw[xb 32 (n+1) r,p0,q,e];let ih:=AN (n+1) r;rw[e] at ih;simp![lj,A4 h,e] at U;rcases Ab.mp U with rfl|U
   .erw[ih p0 ug,h1,h2];refine⟨by simp;omega,λc Z=>?_⟩
    rcases Ab.mp Z with rfl|Z
    .exact ug
    .exact uf _ (h2 c Z)
   .erw[ih p (uf _ U),h1,h2,<-⟨by simp;omega,λc Z=>uf _ (h2 c Z)⟩]
def MM {m:Nat}(hz:↑z<=m)(ha:z.cps.toList.all QI=v_):∀p>spl n z,↑p<=m/\p.cps.toList.all QI=true:=by
 intro p U;erw[Af.mp U,q,Z,rfl];erw[AN n z.cps.toList q Z,h1,h2];let e:(ofL q).cps.toList=q:=by unfold ofL;simp
 rw[_,?_,?_]
 .have:↑(ofL q)=↑q:=by unfold ofL G7;simp
  rw[this];have:↑z.cps.toList=↑z:=by simp[G7]
  omega
 .rw[e,U4];intro c hc;exact List.all_eq_true.mp ha c (h2 c hc)
variable {r:Rw}
set_option tactic.hygienic true in
def Bm (h:w8 n z=u_ r):JN n 300 r/\Yz r=z:=by
 unfold w8 at h;split at h
 .rename_i ht
  let U:=ht;unfold QH at U;rw[uE,vm] at U;split at h
  .rw[h,0]
  .rename_i ks hk
   split at h
   .rename_i hl
    cases e:YI n ks ((pcs ks z).drop 1) with
    |none=>rw[e,0] at h|some l=>
     rw[e,0] at h;let hm:=Zn hk;let Z:∀p>(pcs ks z).drop 1,↑p<=300/\p.cps.toList.all QI=true:=λp hp=>MM U.1 U.2 p (vF hp);obtain⟨a1,a2⟩:=KM Z (by rw[vh,hl];omega) e
     rw[_,[ks:hm:a1]];let aa:∃j,(if Kd.words>ks then ↑ks else ↑z+1)=j+1:=by
      split
      .rename_i hw
       exact⟨↑ks-1,by have:=List.length_pos_iff.mpr (λe=>by rw[e] at hw;simp at hw:ks≠ []);omega⟩
      .exact[↑z:1]
     erw[aa,j,hj];erw[IY j z,q,hq];let hp:pcs ks z=hd z::q:=by unfold pcs;rwa[hj]
     let hb:Vl " " (pcs ks z)=z:=IZ _ z;show Vl " " (hd z::l.map Pt.t)=z;rw[a2];rw[hp] at hb⊢;exact hb
   .rw[h,0]
 .rw[h,0]
end L2
namespace PySem.AwV
open PySem PySem.Calls PyProof.Rows Builtin Builtin.ObjectAttr Builtin.Getset_descriptor PySem.W
structure ExcCls (K:Frag)(C:o3):Prop where
 ga:findIn K (-C) "__getattribute__"=u_ (u_ (.builtin "BaseException.__getattribute__"))
 gt:findIn K (-C) "__getattr__"=u_ U_
 cl:findIn K (-C) "__class__"=u_ (u_ (.builtin "object.__class__"))
 sp:specialIn K (.builtin "object.__class__") "__get__"=u_ (u_ (.builtin "getset_descriptor.__get__"))
 tk:takesIn K (.builtin "object.__class__")=u_ v_
 ob:mroIn K C (.type "object")=u_ v_
 be:mroIn K C (.type "BaseException")=u_ v_
end PySem.AwV
namespace L2
open PySem PySem.Spec PyProof.Rows
section
variable {X:Cx}{ot:oj (o3×Obj)}{σ:St}{H:Hp}{s:o7}
def nO:∀{cs:oj o3}{its:oj o6},iE (cs.map V.ref) its->its=cs.map Vj
 | [],_,h=>by rw[h,0];rfl|c::cs,_,h=>by
  cases h with
  |cons U Z=>
   rw[nO Z,show _=Vj c from U]
   rfl
end
section
variable {X:Cx}
def ZW:∀{ls:oj Str}{its:oj o6},iE (ls.map V.str) its->Tg its ls
 | [],_,h=>by rw[h,0];exact .nil|z::ls,_,h=>by
  cases h with
  |cons U Z=>
   erw[U,t,e];rw[e];exact .cons z t (ZW Z)
def wg:∀{ls:oj Str}{its:oj o6},Tg its ls->iE (ls.map V.str) its
 |_,_,.nil=> .nil|_,_,.cons x t h=> .cons [t:1] (wg h)
def KO:∀{xs:oj V}{us:oj o6},↑xs=↑us->(∀(j:Nat) (x:V) (v:o6),xs[j]? =u_ x->us[j]? =u_ v->il x v)->iE xs us
 | [],[],_,_=> .nil|x::xs,u::us,hl,h=> .cons (h 0 x u rfl rfl) (KO (by simpa using hl) λj y v h1 h2=>h (j+1) y v (by simpa using h1) (by simpa using h2))| [],_::_,hl,_=>by simp at hl|_::_,[],hl,_=>by simp at hl
def qaF (hc:X.calm=v_):jg X (.builtin "sorted") (λxs H Q=>∃(d:o3) (kvs:oj (Key×V)) (ls:oj Str),xs= [-d]/\Rd H d (.dK kvs)/\kvs.map (·.1)=ls.map Vf/\↑ls<64/\∀(ms:oj Str) (q:o3),ms.Perm ls->Ta ms=v_->H q=U_->Q (-q) (upd H q (.lst (ms.map V.str)))):=by
 rw[2,xs,us,Q,I,r,h];erw[h,d,kvs,ls,rfl,hd,hk,am,q];erw[xn r,u,rfl,ru];rw[ru,0];erw[Zl I.hok hd,hz,lo,vs,ae,dd];erw[id dd,o,es,ep,ho];let af:s.heap.DictAt (Qg X.prog X.w) d vs ep:=[o:es:ho];let aa:↑vs=↑ls:=by
  let h1:=Aa Gm hk;rw[u7,u7] at h1;rw[<-↑ae,h1]
 refine vf (n:=1) I.tk ?_;refine PySem.Calls.call_function_entry kind_sorted plain_sorted entry_sorted (args_sorted1 _) ?_;unfold g_.«sorted»;refine A7 (m:=checkCount "sorted" 1 1 _) (uC ?_);refine A7 (PySem.W.kdu_collect (A:=X.A.in1) (PySem.W.kdl_dict lo) (I.ok.hd hc) af (by rw[aa,uB];omega) λh' tk Z ag U=>?_)
 let hS:Tg Z.toList ls:=by
  refine ZW (KO (by rw[u7,vo];exact aa.symm.trans U.1.symm) λj x v hx hv=>?_)
  rw[uH] at hx;cases ac:ls[j]? with
  |none=>rw[ac,0] at hx|some z=>
   rw[ac,0] at hx;obtain⟨k,y,e1,e2⟩:=U.2 j v (by rwa[<-Uz])
   let e3:(kvs.map (·.1))[j]? =u_ k:=by
    rw[ae.keys,uH,e1]
    rfl
   rw[hk,uH,ac,0] at e3;rcases QF (show oT (Vf z) v=v_ from e2) with⟨i,t,e4,e5⟩|⟨z',t,e4,e5⟩
   .rw[e4,0]
   .rw[e4,0];exact[t:e5]
 let ah:↑Z.toList=↑ls:=by rw[vo,U.1,aa]
 refine A7 (T4 ?_ (by rw[ah,uB];omega))
 let ad:(h'.push (seqObj "list" Z.toList.toArray 0)).get? h'.objs.size=u_ (seqObj "list" Z.toList.toArray 0):=uD _ rfl;refine A7 (VS (vQ slot_list_sort [_:ad:1] entry_list_sort (list_sort_treeK strKind_oneLt ad hS.keysOf (λv₁ v₂ rest e=>keyKind_strs (by rwa[<-e])) () λak a1 a2=>[0:?_]) (args_list_sort _)))
 refine uC [0:?_];erw[sorted_out_str hS a1 a2,ms,b1,b2,b3];erw[sortedHeap_at (out:=(arrOf ak).map (·.2)) ad,e,he];let al:↑ms=↑ls:=b2.length_eq;intro htk;let I':Inv X ot σ H {s with heap:=h',toks:=tk}:=I.kept ag
 rw[_,.ref h'.objs.size,_,I'.laid (t':=tk) (o:= .lst (ms.map V.str)) (λb u w=>?_) (uh _) (?_,_,e,wg b1,he),1,q ms _ b2 b3 (I'.hok.fresh (uh _))]
 .let hb:=uG w;rw[sortedHeap_old (uU hb) (by rw[size_push'];exact Nat.lt_succ_of_lt hb)]
  exact u9 _ w
 .rw[u7,al,uB];omega
def sI (Z:X.calm=v_):jg X (.builtin "sorted") (λxs H Q=>∃(d:o3) (kvs:oj (Key×V)) (ls:oj Str),xs= [-d]/\H d=u_ (.dK kvs)/\kvs.map (·.1)=ls.map Vf/\↑ls<64/\∀(U:oj Str) (q:o3),U.Perm ls->Ta U=v_->H q=U_->Q (-q) (upd H q (.lst (U.map V.str)))):=λot s σ H xs us Q I r ⟨d,kvs,ls,e,hd,h⟩=>qaF Z ot s σ H xs us Q I r (d,kvs,ls,e,.inl hd,h)
abbrev Itd (d:o3)(o:Obj):It:=
 ⟨λi H=>∃kvs,H d=u_ (.frz o (.dK kvs))/\i<↑kvs,λi H x H'=>H'=H/\∀kvs,H d=u_ (.frz o (.dK kvs))->(kvs.map λp=>kV p.1)[i]? =u_ x,λi H=>∃kvs,H d=u_ (.frz o (.dK kvs))/\↑kvs<=i⟩
variable {w:og}
def DS {P:o9}{es:oj GH}{kvs:oj (Key×o6)}(h:Pairs (Qg P w) es kvs):↑es=↑kvs:=↑h
variable {H:Hp}{h:o8}{o:Obj}
def E6 {P:o9}{d:o3}{kvs:oj (Key×V)}{es:Array GH}{ep:Nat}(ok:HOk P w H h)(e:H d=u_ (.frz o (.dK kvs)))(hd:o.data= .dict es ep):
  (d==Vy)=Vd/\∃vs,KV kvs vs/\h.DictAt (Qg P w) d vs ep/\↑vs=es.size/\↑kvs<=sizeLine:=by
 obtain⟨Z,hz,lo,vs,r,o',aa,ac,U,c1,c2,c3,c4,c5⟩:=(show yp P w H h d (.frz o (.dK kvs)) from ok d _ e)
 rw[Z,0] at U;rw[hd,0] at c2;exact(lo,vs,r,(o,es,Z,c1,hd,c3,c4,c5),by rw[<-vo];exact(DS c4).symm,hz)
def EG {k:Key}{v:o6}(h:oT k v=v_):il (kV k) v:=by
 rcases QF h with⟨i,t,rfl,rfl⟩|⟨z,t,rfl,rfl⟩
 .exact[t:1]
 .exact[t:1]
variable {K:o0}{tg:Expr}
def Db {P:o9}(d it:o3){es:Array GH}{ep:Nat}(hd:o.data= .dict es ep):NE P w K tg (Itd d o) [it] it (λi h=>h.IsKeyIter it d i es.size ep) where
 mem:=by simp
 obj:=λi h st b U=>by
  let e:b=it:=by simpa using U
  subst e;erw[st,o,e,c,d,<-⟨o,e,λv z=>by rw[d,0] at z⟩]
 keep:=λi h h' st k=>by
  erw[st,o,e,c,dd,<-(o,k it (by simp) o e,c,dd)]
 item:=by
  intro X hP hw hK hc i ot s σ H E I hf st hg;subst hP hw hK;erw[hg,kvs,hq,hx];erw[E6 I.hok hq hd,lo,vs,r,Z,hl,_];let ae:=↑r;obtain⟨f0,f1,f2,f3,f4,f5⟩:=hf it (by simp)
  obtain⟨⟨k,v⟩,aa⟩:∃p,vs[i]? =u_ p:=[_:ub ()]
  refine wpAny_pyNext_dict_item (by rwa[hl]) Z aa λaf h' hk ac sb=>?_
  let I1:Inv X ot σ H {s with heap:=h'}:=I.turned (t':=s.toks) (λb o U e=>(sb.2 b U).trans e) f0 f1 f3 f4 f5
  erw[id ac,oi,e,c,di];refine⟨af,1,EY (s:={s with heap:=h'}) e c di () (kV k,H,I1,EG hk,[1:λag ad=>?_],by rw[<-hl];exact ac,λb U=>(hf b U).1)⟩
  rw[hq,0] at ad;let e3:(kvs.map (·.1))[i]? =u_ k:=by
   rw[r.keys,uH,aa]
   rfl
  rw[uH] at e3⊢;cases h4:kvs[i]? with
  |none=>rw[h4,0] at e3|some p=>
   rw[h4,0] at e3
   rfl
 done:=by
  intro X hP hw hK hc i ot s σ H E I hf st hg;subst hP hw hK;erw[hg,kvs,hq,hx];erw[E6 I.hok hq hd,lo,vs,r,Z,hl,_];let ae:=↑r;obtain⟨f0,f1,f2,f3,f4,f5⟩:=hf it (by simp)
  exact wpAny_pyNext_dict_end (I.ok.hd hc) (by rwa[hl]) Z (rf ()) λh' eb=>[1:I.turned (t':=s.toks) (λb o U e=>eb b o U e) f0 f1 f3 f4 f5]
 self:=λ_ _ _ _ _ st h=>wpAny_pyIter_keyiter st h
abbrev Adh (tl:TE):TI:=λσ H R=>tl σ H λx H1=>∃d o kvs,x= .ref d/\H1 d=u_ (.frz o (.dK kvs))/\R (Itd d o) H1
def O0 {tg l:Expr}{tl:TE}(hl:PE X l tl):PI X tg l (Adh tl):=by
 rw[2,R,I,h];refine thn (hl ot s σ H _ I h) λv s1 zq=>?_;erw[zq,x,H1,U,r1,q1];erw[q1,d,o,kvs,rfl,hq,q];rw[r1,0];obtain⟨ho,_,lo,vs,r,o',es,ep,Z,c1,c2,_⟩:=(show yp X.prog X.w H1 s1.heap d (.frz o (.dK kvs)) from U.hok d _ hq)
 rw[ho,0] at Z;erw[E6 U.hok hq c2,lo,vs,r,aa,hl,_];refine wpAny_pyIter_dict lo aa ?_;refine(#[0,s1],[#[0,s1]],_,_,H1,1,U.kept (t':=s1.toks) λb o e=>u9 _ e,Db d _ c2,(_,uD _ rfl,1,by rw[hl];rfl),λb hb=>?_,q)
 let e:b=#[0,s1]:=by simpa using hb
 subst e;exact U.fpOk (uh _) (U.hok.fresh (uh _))
end
end L2
namespace PySem.AwK
open PySem Builtin Builtin.ObjectAttr
def Sh:HI (.type "list") "keys"=pure none:=by rw[RG,rH];kernel_rfl
section
variable {prog:o9}{w:og}{A:oh}{E:o6->o7->Prop}{s:o7}
def qaL:isSubtype (.type "AttributeError") (.type "AttributeError")=pure true:=by rw[isSubtype_type];kernel_rfl
def Cv {α:Type}{o:o6}{name U:Str}{Q:α->o7->Prop}(hh:A.handled=U_)(hm:↑U<=Vg)
  (hq:∀h' ac e,(∀b ob,s.heap.get? b=u_ ob->h'.get? b=u_ ob)->(∃oe,h'.get? e=u_ oe/\oe.cls= .type "AttributeError")->E (-e) {s with heap:=h',toks:=ac}):
  Ve #[w,w] A (r_ o name U:Sem α) Q E s:=by
 unfold r_;refine A7 (wpAny_mkStr (A7 ?_) hm);unfold newExc Ts;refine A7 (vv ?_ (by show(1:Nat)<=Vg;rw[uB];decide))
 refine A7 (m:=t_ _ _) (Hj (a:=VZ) (by kernel_rfl) ?_)
 obtain⟨h1,aa⟩:∃h1,h1=s.heap.push {cls:= .type "tuple",data:= .seq #[VF U s.toks]}:=⟨0⟩;let k1:∀b ob,s.heap.get? b=u_ ob->h1.get? b=u_ ob:=λb ob e=>by rw[aa];exact u9 _ e
 show Ve #[w,w] A (newObj (.type "AttributeError") (.fields #[.ref #[0,s],.none,.none,.none,.bool Vd,.none,V_,V_])) _ E {s with heap:=s.heap.push {cls:= .type "tuple",data:= .seq #[VF U s.toks]},toks:=s.toks+1}
 rw[<-aa];refine vv ?_ (by unfold sizeOk;first|trivial|(rw[uB];simp)|decide)
 obtain⟨h2,Z⟩:∃h2,h2=h1.push {cls:= .type "AttributeError",data:= .fields #[.ref #[0,s],.none,.none,.none,.bool Vd,.none,V_,V_]}:=⟨0⟩;let k2:∀b ob,h1.get? b=u_ ob->h2.get? b=u_ ob:=λb ob e=>by rw[Z];exact u9 _ e
 let e2:h2.get? h1.objs.size=u_ {cls:= .type "AttributeError",data:= .fields #[.ref #[0,s],.none,.none,.none,.bool Vd,.none,V_,V_]}:=by rw[Z];exact uD _ rfl
 show Ve #[w,w] A (do let x<-mkText name;noteAttr (-h1.objs.size) o x;raiseNew (-h1.objs.size)) Q E {s with heap:=h1.push {cls:= .type "AttributeError",data:= .fields #[.ref #[0,s],.none,.none,.none,.bool Vd,.none,V_,V_]},toks:=s.toks+1}
 rw[<-Z];let ne:∀b ob,h1.get? b=u_ ob->b≠h1.objs.size:=λb ob e=>uU (uG e);generalize h1.objs.size=e at e2 ne⊢;refine A7 (Rg (A7 ?_));let hT:∀g d t os,((h2,g,d,t,os):o7).TypeIs (-e) "AttributeError":=λ_ _ _ _=>[_:e2:1];unfold noteAttr lacksNameAndObj;refine A7 (A7 (UO (hT _ _ _ _) qaL ?_));simp![Bool.not_true,UV,if_false];refine A7 (tj e2 ?_);dsimp only;rw[A4 (by simp[V_,VI]),A4 (by simp[V_,doubtfulMember,VI])]
 refine uC ?_;rw[A6 rfl];refine A7 (UR (A7 (Gk (hT _ _ _ _) ?_)));show Ve #[w,w] A (layMembers e 6 #[VF name (s.toks+1),o]) _ E _;unfold layMembers;refine A7 (tj e2 ?_);dsimp only;refine wpAny_update e2 ?_;let e3:=tT (RB λvs=>vs.extract 0 6++ #[VF name (s.toks+1),o]) e2 rfl;let k3:∀b ob,b≠e->h2.get? b=u_ ob->(h2.update e (RB λvs=>vs.extract 0 6++ #[VF name (s.toks+1),o])).get? b=u_ ob:=λb ob hb q=>(T2 _ _ (U1 hb)).trans q;exact wpAny_raiseNew_none hh (hq _ _ e (λb ob q=>k3 b ob (ne b ob (k1 b ob q)) (k2 b ob (k1 b ob q))) [_:e3:1])
end
section
variable {prog:o9}{w:og}{A:oh}{E:o6->o7->Prop}{h:o8}{g:Array T8}{d:Drawn}{t:Nat}{os:OsState}{a:o3}{its:Array o6}{n:Nat}{sl:Array (om o6)}
def L6 {tk:Tok}{Q:Fin->o7->Prop}(hh:A.handled=U_)(hx:h.get? a=u_ {cls:= .type "list",dict:=U_,data:= .seq its n,slots:=sl})
  (hq:∀h' U e,(∀b ob,h.get? b=u_ ob->h'.get? b=u_ ob)->(∃Z,h'.get? e=u_ Z/\Z.cls= .type "AttributeError")->E (-e) (h',g,d,U,os)):
  Ve #[w,w] A (g_.«object.__getattribute__» [[-a,.str "keys" tk]:[]]) Q E (h,g,d,t,os):=by
 let hT:((h,g,d,t,os):o7).TypeIs (-a) "list":=[_:hx:1];let f4:=Sh
 repeat (any_goals (first|assumption|wp_step))
 exact Cv hh (by rw[uB];decide+kernel) hq
def Sd {tk:Tok}{R:GL->o7->Prop}(hh:A.handled=U_)(Z:h.get? a=u_ {cls:= .type "list",dict:=U_,data:= .seq its n,slots:=sl})
  (hq:∀h' U e,(∀b ob,h.get? b=u_ ob->h'.get? b=u_ ob)->(∃oe,h'.get? e=u_ oe/\oe.cls= .type "AttributeError")->R (.error (-e)) (h',g,d,U,os)):
  VL #[w,w] A (.call (.builtin "list.__getattribute__") [[-a,.str "keys" tk]:[]]) R (h,g,d,t,os):=
 TF F.slot_list_getattribute.plain F.entry_list_ga (F.slot_list_getattribute.check _ _ _ _ _ _ _ _ (show((h,g,d,t,os):o7).TypeIs (-a) "list" from[_:Z:1]) (F.args_list_getattribute_2 _ _) (L6 hh Z hq))
def Sc {Q:om o6->o7->Prop}(hh:A.handled=U_)(Z:h.get? a=u_ {cls:= .type "list",dict:=U_,data:= .seq its n,slots:=sl})
  (hq:∀h' U,(∀b ob,h.get? b=u_ ob->h'.get? b=u_ ob)->Q U_ (h',g,d,U,os)):Ve #[w,w] A (getAttr? (-a) "keys") Q E (h,g,d,t,os):=by
 let hT:∀t,((h,g,d,t,os):o7).TypeIs (-a) "list":=λt=>[_:Z:1];unfold getAttr? getAttrBy?;refine A7 (Rg (A7 (UY ?_)));unfold getAttrBy;refine VS (A7 (Gk (hT _) ?_));rw[F.slot_list_getattribute.lookup];refine A7 (uC ?_);show Ve #[w,w] A (rR (-a) _ (.type "list") (.builtin "list.__getattribute__") Vd Vd) _ _ _;unfold rR;refine A7 (m:=hookBefore _) (uC ?_);refine A7 (UY (VS ?_));show Ve #[w,w] A (rc (.builtin "list.__getattribute__") (-a) _) _ _ _;unfold rc;rw[F.slot_list_getattribute.bind];refine A7 (uC (Hc (Sd hh Z λh' U e k zq=>?_)));erw[zq,oe,e1,e2];let hE:∀t,((h',g,d,t,os):o7).TypeIs (-e) "AttributeError":=λt=>[_:e1:e2];show Ve #[w,w] A (Fz (-a) _ (.type "list") (-e) U_ Vd Vd) _ _ (h',g,d,U,os);unfold Fz;refine A7 (UO (hE _) qaL ?_);rw[A6 rfl];let lg:hookBehind (.type "list") U_=pure none:=by
  show HI (.type "list") "__getattr__"=pure U_;rw[RG,rH]
  kernel_rfl
 rw[lg];refine A7 (uC ?_);show Ve #[w,w] A (p9 (-a) _ (-e) Vd Vd) _ _ _;unfold p9;refine rX ?_;refine A7 (UO (hE _) qaL ?_);rw[A6 rfl];exact uC (hq h' U k)
end
def Kk:entryFor table "dict.update.loop"=u_ g_.«dict.update.loop»:=entryFor_of_fast (by kernel_rfl)
def xT:plainId "dict.update.loop"=true:=by decide+kernel
section
variable {prog:o9}{w:og}{A:oh}{E:o6->o7->Prop}{K:Type}[DecidableEq K]{knd:KeyKind prog w K}
abbrev addAll (cur:oj (K×o6)):oj (K×o6)->oj (K×o6)
 | []=>cur|p::r=>addAll (GF cur p.1 p.2) r
structure Ab9 (h:o8)(d it:o3)(v:o6)(p:K×o6):Prop where
 at_:∃(t:o3) (o:Obj) (k:o6) (n:Nat),v= .ref t/\t≠d/\t≠it/\h.get? t=u_ o/\o.cls= .type "tuple"/\o.data= .seq #[k,p.2] n/\knd.is p.1 k=v_
def Cy (hh:A.handled=U_){d it l:o3}{items:Array o6}{ps:oj (K×o6)}{R:GL->o7->Prop}(au:d≠l)(aw:it≠l)(ac:d≠it)(hn:items.size=↑ps)(hz:2*↑ps<=Vg)(res:o6):
  ∀(m i:Nat) (s:o7) (U:oj (K×o6)),i+m=↑ps->s.heap.IsListIter it l i->s.heap.IsList l items->s.heap.DictOf knd d U->↑U<=i->
  (∀(j:Nat) (v:o6) (p:K×o6),items[j]? =u_ v->ps[j]? =u_ p->Ab9 (knd:=knd) s.heap d it v p)->
  (∀h' ad,h'.DictOf knd d (addAll U (ps.drop i))->(∀b o,b≠d->b≠it->s.heap.get? b=u_ o->h'.get? b=u_ o)->R (.ok (.ret res)) {s with heap:=h',toks:=ad})->
  VL #[w,w] A (.builtin "dict.update.loop" [[-d,-it,VI i,res]:[]]) R s:=by
 intro m
 induction m with
 |zero=>
  intro i s U hm ae hl hd hc hp hR;refine UZ Kk ?_;rw[UL xT _];show Ve _ A.in1 (VG (-it)>>=_) _ _ s;refine A7 (FQ (A:=A.in1) hh ae hl (by rw[Array.getElem?_eq_none ()]) λh' eb=>?_)
  let af:h'.DictOf knd d U:=by
   erw[hd,o,es,ep,ho,r,<-(o,es,ep,eb d o ac ho,r)]
  have:=hR h' s.toks (by rwa[List.drop_eq_nil_of_le ()]) λb o aa Z e=>eb b o Z e
  show Ve #[w,w] A.in1 (Dict.addKeywords d []>>=λ_=>ret res) _ _ _;refine A7 (m:=Dict.addKeywords d []) (uC ?_);exact uC this
 |succ m ih=>
  intro i s U hm ae hl hd hc hp hR;refine UZ Kk ?_;rw[UL xT _];let hi:i<items.size:=by omega
  let ah:i<↑ps:=by omega
  let hx:items[i]? =u_ items[i]:=Array.getElem?_eq_getElem hi;let ax:ps[i]? =u_ ps[i]:=ub ah;erw[(hp i _ _ hx ax).at_,t,o,k,n,ev,aE,ay,ho,aA,aB,hk];rw[ev] at hx;show Ve _ A.in1 (VG (-it)>>=_) _ _ s;refine A7 (RN (A:=A.in1) ae hl hx λh1 ak ag=>?_);let al:h1.get? t=u_ o:=(ag.2 t ay).trans ho;let hT:(({s with heap:=h1}:o7)).TypeIs (-t) "tuple":=[_:al:aA]
  let am:h1.DictOf knd d U:=hd.sameBut ag ac;dsimp only;refine A7 (VS (A7 (wpAny_tryCatch ?_)));unfold Dict.pairItems;refine A7 (Gk hT ?_);rw[A6 ()]
  refine A7 ?_;unfold Tn;refine A7 (tj al ?_);rw[aB];refine uC (uC ?_);show Ve #[w,w] A.in1 (VW [k,ps[i].2] (dictSet d k ps[i].2)) _ _ _;refine VS (wpAny_dictSet_pairs hk am (λh2 aC ao=>?_) ())
  let ap:h2.IsListIter it l (i+1):=by
   erw[ak,oi,e,c,<-[oi:(ao.2 it (U1 ac)).trans e:c]]
  let keep:∀b ob,b≠d->b≠it->s.heap.get? b=u_ ob->h2.get? b=u_ ob:=λb ob aa Z e=>(ao.2 b aa).trans ((ag.2 b Z).trans e);let aD:h2.IsList l items:=by
   erw[hl,ol,e,c,<-[ol:keep l ol (U1 au) (U1 aw) e:c]]
  refine uC [Hv xT _:?_];let aq:↑(GF U ps[i].1 ps[i].2)<=i+1:=by
   unfold GF;split
   .rw[u7];omega
   .rw[uw];show ↑U+1<=i+1;omega
  refine ih (i+1) _ _ () ap aD aC aq (λj v p h1 h2=>?_) λh' ad af kp=>?_
  .erw[(hp j v p h1 h2).at_,t',o',k',n',e1,e2,e3,e4,e5,<-⟨(t',o',k',n',e1,e2,e3,keep t' o' e2 e3 e4,e5)⟩]
  .refine hR h' ad ?_ λb ob aa Z e=>kp b ob aa Z (keep b ob aa Z e);rw[vc ah];exact af
def dict_pairs (hh:A.handled=U_){s:o7}{l:o3}{items:Array o6}{n:Nat}{sl:Array (om o6)}{ps:oj (K×o6)}{Q:o6->o7->Prop}(hl:s.heap.get? l=u_ {cls:= .type "list",dict:=U_,data:= .seq items n,slots:=sl})(hn:items.size=↑ps)(hz:2*↑ps<=Vg)
  (hp:∀(j:Nat) (v:o6) (p:K×o6),items[j]? =u_ v->ps[j]? =u_ p->∃(t:o3) (o:Obj) (k:o6) (n:Nat),v= .ref t/\s.heap.get? t=u_ o/\o.cls= .type "tuple"/\o.data= .seq #[k,p.2] n/\knd.is p.1 k=v_)
  (hQ:∀h' ac,h'.DictOf knd #[0,s] (addAll [] ps)->(∀b o,s.heap.get? b=u_ o->h'.get? b=u_ o)->Q (.ref #[0,s]) {s with heap:=h',toks:=ac}):
  Ve #[w,w] A (call (.type "dict") [-l]) Q E s:=by
 refine Ti (Q₁:=λobj s₁=>obj= .ref #[0,s]/\s₁={s with heap:=s.heap.push {cls:= .type "dict",data:= .dict #[]}}) F.kt_called_dict (F.kt_typeCall_dict_1 _) F.entry_dict_init (kt_code_dict_new _ [1:1]) ?_
 rintro obj s₁ ⟨rfl,rfl⟩;let Z:(s.heap.push {cls:= .type "dict",data:= .dict #[]}).DictOf knd #[0,s] []:=RH s.heap;rw[_,Z.typeIs,F.args_dict_init_2 _ _];unfold g_.«dict.__init__»;refine A7 ?_;unfold pQ;refine A7 (wpAny_notOrdered_dict Z.typeIs ?_);refine(show Ve _ _ (pure (#[0,s],[Vj l])) _ _ _ from ?_)
 refine uC ?_;refine(show Ve _ _ (FC "dict.__init__" #[0,s] (-l) [] .none) _ _ _ from ?_)
 unfold FC;let aa:(s.heap.push {cls:= .type "dict",data:= .dict #[]}).get? l=u_ {cls:= .type "list",dict:=U_,data:= .seq items n,slots:=sl}:=u9 _ hl;refine A7 (Gk (T:="list") [_:aa:1] ?_);rw[A6 ()]
 refine A7 (Sc (A:=A.in1.in1) hh aa λh2 am k2=>?_);rw[A6 (show(U_:om o6).isNone=v_ from rfl)]
 let ad:l<#[0,s]:=uG hl;let af:h2.IsList l items:=(_,k2 _ _ aa,1,n,1);refine A7 (UR (A7 (V5 af ?_)));let ae:h2.DictOf knd #[0,s] []:=by
  erw[Z,o,es,ep,ho,r,<-(o,es,ep,k2 _ _ ho,r)]
 let U:#[0,s]<h2.objs.size:=by
  erw[ae,o,es,ep,ho,r,<-uG ho]
 let k1:∀b o,s.heap.get? b=u_ o->h2.get? b=u_ o:=λb o e=>k2 b o (u9 _ e);let k3:∀b o,h2.get? b=u_ o->(h2.push {cls:= .type "list_iterator",data:= .fields #[-l,.int 0 0]}).get? b=u_ o:=λb o e=>u9 _ e;let ag:(h2.push {cls:= .type "list_iterator",data:= .fields #[-l,.int 0 0]}).IsList l items:=(_,k3 _ _ (k2 _ _ aa),1,n,1);let ah:(h2.push {cls:= .type "list_iterator",data:= .fields #[-l,.int 0 0]}).DictOf knd #[0,s] []:=ae.push _;refine uC [Hv xT _:Cy (A:=A.in1) hh (d:=#[0,s]) (it:=h2.objs.size) (l:=l) (items:=items) (ps:=ps) (U5 ad) (U5 (HP ad U)) (uU U) hn hz .none ↑ps 0 _ [] () (_,uD _ rfl,1,1) ag ah (uh _) (λj v p h1 ak=>?_) λh' ac al kp=>?_]
 .erw[hp j v p h1 ak,t,o,k,n',e1,e2,e3,e4,e5];let ht:=uG e2;exact⟨(t,o,k,n',e1,uU ht,uU (HP ht U),k3 _ _ (k1 _ _ e2),e3,e4,e5)⟩
 .rw[1,hQ h' ac al λb o e=>?_];let hb:=uG e;exact kp b o (uU hb) (uU (HP hb U)) (k3 _ _ (k1 _ _ e))
end
end PySem.AwK
namespace L2
open PySem PySem.Spec PyProof.Rows
section
variable {X:Cx}
abbrev iM (ps:oj (Str×V)):oj (Key×V):=ps.map λp=>(Vf p.1,p.2)
def Wk (ps:oj (Str×V)):(iM ps).map (·.1)=(ps.map (·.1)).map Sum.inr:=by
 unfold iM;rw[uO,uO]
 rfl
def Cm {kvs:oj (Key×o6)}{k:Key}{v:o6}(h:k∉kvs.map (·.1)):GF kvs k v=kvs++ [(k,v)]:=by
 unfold GF;rw[A4];intro q;erw[List.any_eq_true.mp q,p,U,e,<-h (Af.mpr [p:U:ui e])]
def Kl:∀{ps U:oj (Key×o6)},((U++ps).map (·.1)).Nodup->AwK.addAll U ps=U++ps
 | [],U,_=>(vH U).symm|p::r,U,h=>by
  unfold AwK.addAll;let Z:p.1∉U.map (·.1):=by
   rw[uj,uA] at h;intro q;exact(List.nodup_append.mp h).2.2 _ q _ ug rfl
  rw[Cm Z,Kl (by rw[V6];exact h),V6]
  rfl
set_option tactic.hygienic true in
def oI {P:o9}{w:og}{H:Hp}{h:o8}(ok:HOk P w H h):∀{ts:oj o3}{ps:oj (Str×V)},↑ts=↑ps->(∀(i:Nat) (t:o3) (p:Str×V),ts[i]? =u_ t->ps[i]? =u_ p->H t=u_ (-[.str p.1,p.2]))->
  ∃pv:oj (Key×o6),KV (iM ps) pv/\∀(j:Nat) (v:o6) (p:Key×o6),(ts.map Vj)[j]? =u_ v->pv[j]? =u_ p->∃(t:o3) (o:Obj) (k:o6) (n:Nat),v= .ref t/\h.get? t=u_ o/\o.cls= .type "tuple"/\o.data= .seq #[k,p.2] n/\(Qg P w).is p.1 k=v_
 | [],[],_,_=>⟨[],.nil,λj v p e=>by simp at e⟩|t::ts,p::ps,hl,hp=>by
  obtain⟨pv,h1,h2⟩:=oI ok (ts:=ts) (ps:=ps) (by simpa using hl) λi t' p' U e2=>hp (i+1) t' p' (by simpa using U) (by simpa using e2)
  obtain⟨_,its,rv,o,Z,hc,n,hd⟩:=(show yp P w H h t (-[.str p.1,p.2]) from ok t _ (hp 0 t p rfl rfl))
  cases rv with
  |cons r1 rv=>
  cases rv with
  |cons r2 rv=>
  cases rv with
  |nil=>
  erw[r1,tk,rfl]
  rename_i u
  rw[_,(Vf p.1,u)::pv,.cons [1:r2] h1,λj v q U e2=>?_];cases j with
  |zero=>
   simp![uA,List.getElem?_cons_zero,pO] at U e2;subst U e2;exact(t,o,_,n,1,Z,hc,hd,Wq _ _ _ _)
  |succ j=>exact h2 j v q (by simpa using U) (by simpa using e2)
 | [],_::_,hl,_=>by simp at hl|_::_,[],hl,_=>by simp at hl
abbrev Ch (H:Hp)(l:o3)(ps:oj (Str×V)):Prop:=∃ts:oj o3,H l=u_ (.lst (ts.map V.ref))/\↑ts=↑ps/\∀(i:Nat) (t:o3) (p:Str×V),ts[i]? =u_ t->ps[i]? =u_ p->H t=u_ (-[.str p.1,p.2])
def Ip {ot:oj (o3×Obj)}{σ:St}{H:Hp}{s:o7}{l:o3}{ps:oj (Str×V)}{Q:o6->o7->Prop}(hc:X.calm=v_)(I:#[I])(hl:Ch H l ps)(hn:(ps.map (·.1)).Nodup)(hz:↑ps<=1000)
  (h:∀h' U pv,0<U->(∀b o,s.heap.get? b=u_ o->h'.get? b=u_ o)->KV (iM ps) pv->h'.DictOf (Qg X.prog X.w) #[0,s] pv->Q (.ref #[0,s]) {s with heap:=h',toks:=U}):
  Ve #[X,X] X.A (call (.type "dict") [-l]) Q X.xe s:=by
 erw[hl,ts,e1,e2,e3];obtain⟨_,its,n,rv,ho⟩:=(show yp X.prog X.w H s.heap l (.lst (ts.map V.ref)) from I.hok l _ e1)
 rw[nO rv,0];erw[oI I.hok e2 e3,pv,r,hp];let ad:↑pv=↑ps:=by
  rw[<-↑r];unfold iM;rw[u7]
 let aa:(pv.map (·.1)).Nodup:=by
  rw[<-r.keys,Wk];exact Pf _ (λa b ac e=>ac (Uu e)) hn
 refine vf (n:=1) I.tk ?_;refine AwK.dict_pairs (knd:=Qg X.prog X.w) (I.ok.hd hc) (ps:=pv) ho (by rw[ur,u7];omega) (by rw[uB];omega) (λj v p h1 h2=>hp j v p (by simpa using h1) h2) λh' U Z kp=>?_
 rw[Kl (by simpa using aa),tW] at Z
 exact λhtk=>h h' U pv htk kp r Z
def CU (hc:X.calm=v_):jg X (.type "dict") (λxs H Q=>∃(l:o3) (ps:oj (Str×V)),xs= [-l]/\Ch H l ps/\(ps.map (·.1)).Nodup/\↑ps<=1000/\∀q,H q=U_->Q (-q) (upd H q (.dK (iM ps)))):=by
 rw[2,xs,us,Q,I,r,h];erw[h,l,ps,rfl,hl,hn,hz,q];erw[xn r,u,rfl,ru];rw[ru,0];refine Ip hc I hl hn hz λh' aa pv htk kp rel dd=>?_;let U:(#[0,s]==Vy)=false:=by
  rw[beq_eq_false_iff_ne];exact U5 I.big
 let Z:↑(iM ps)<=sizeLine:=by unfold iM;rw[u7,uB];omega
 exact(.ref #[0,s],_,I.laid kp (uh _) (sF Z U rel dd),1,q _ I.fresh)
def CV (hc:X.calm=v_):jg X (.type "dict") (λxs H Q=>∃(l:o3) (ps:oj (Str×V)),xs= [-l]/\Ch H l ps/\(ps.map (·.1)).Nodup/\↑ps<=1000/\∀q o,H q=U_->Q (-q) (upd H q (.frz o (.dK (iM ps))))):=by
 rw[2,xs,us,Q,I,r,h];erw[h,l,ps,rfl,hl,hn,hz,q];erw[xn r,u,rfl,ru];rw[ru,0];refine Ip hc I hl hn hz λh' aa pv htk kp rel dd=>?_;let U:(#[0,s]==Vy)=false:=by
  rw[beq_eq_false_iff_ne];exact U5 I.big
 let Z:↑(iM ps)<=sizeLine:=by unfold iM;rw[u7,uB];omega
 erw[id dd,o,es,ep,ho,rr,<-(.ref #[0,s],_,I.laid (o:= .frz o (.dK (iM ps))) kp (uh _) [ho:sF Z U rel dd],1,q _ o I.fresh)]
end
mutual
noncomputable def nD:D->Bool
 | .non=>v_| .str _=>v_| .int _=>v_| .tup xs=>nL xs|_=>Vd
noncomputable def nL:oj D->Bool
 | []=>v_|x::r=>nD x&&nL r
end
def Es:∀{xs:oj D}{j:Nat}{x:D},nL xs=v_->xs[j]? =u_ x->nD x=v_
 | [],_,_,_,e=>by simp at e|y::r,0,x,h,e=>by
  let h':nD y=v_/\nL r=true:=by simpa [nL] using h
  have:y=x:=by simpa using e
  exact this▸h'.1
 |y::r,j+1,x,h,e=>by
  let h':nD y=v_/\nL r=true:=by simpa [nL] using h
  exact Es h'.2 (by simpa using e)
mutual
noncomputable def eqD:D->D->Bool
 | .non,.non=>v_| .str a,.str b=>a==b| .int a,.int b=>a==b| .tup xs,.tup ys=>eqL xs ys|_,_=>Vd
noncomputable def eqL:oj D->oj D->Bool
 | [],[]=>v_|x::r,y::q=>eqD x y&&eqL r q|_,_=>Vd
end
mutual
theorem JZ:∀{d e:D},nD d=v_->(eqD d e=v_↔d=e)
 | .non,e,_=>by cases e<;>simp[eqD]| .str a,e,_=>by cases e<;>simp[eqD]| .int a,e,_=>by cases e<;>simp[eqD]| .tup xs,¬ys,h=>by
  have:=eqXL_iff (xs:=xs) (ys:=ys) (by simpa [nD] using h)
  simp![eqD,this,D.tup.injEq]
 | .tup xs,.non,_=>by simp[eqD]| .tup xs,.bl _,_=>by simp[eqD]| .tup xs,.int _,_=>by simp[eqD]| .tup xs,.str _,_=>by simp[eqD]| .tup xs,.lst,_=>by simp[eqD]| .tup xs,.dct,_=>by simp[eqD]| .bl _,_,h=>by simp[nD] at h| .lst,_,h=>by simp[nD] at h| .dct,_,h=>by simp[nD] at h
theorem eqXL_iff:∀{xs ys:oj D},nL xs=v_->(eqL xs ys=v_↔xs=ys)
 | [],[],_=>by simp[eqL]| [],_::_,_=>by simp[eqL]|_::_,[],_=>by simp[eqL]|x::r,y::q,h=>by
  let h':nD x=v_/\nL r=true:=by simpa [nL] using h
  simp![eqL,uE,JZ h'.1,eqXL_iff h'.2,UB]
end
mutual
theorem Is.detN {H:Hp}:∀{d e:D}{v:V},nD d=v_->nD e=v_->Is H d v->Is H e v->d=e
 | .non,e,v,_,he,h1,h2=>by
  rw[show v= .non from h1,0]
  cases e with
  |non=>rfl|str b=>obtain⟨q,_⟩:=(show V.non=V.str b/\_ from h2);rw[q,0]|int b=>rw[show V.non=V.int b from h2,0]|tup ys=>erw[h2,p,us,q,_];rw[q,0]|_=>simp[nD] at he
 | .str a,e,v,_,he,h1,h2=>by
  obtain⟨rfl,_⟩:=(show v= .str a/\_ from h1)
  cases e with
  |non=>rw[show V.str a=V.non from h2,0]|str b=>obtain⟨q,_⟩:=(show V.str a=V.str b/\_ from h2);rw[q,0];rfl|int b=>rw[show V.str a=V.int b from h2,0]|tup ys=>erw[h2,p,us,q,_];rw[q,0]|_=>simp[nD] at he
 | .int a,e,v,_,he,h1,h2=>by
  rw[show v= .int a from h1,0]
  cases e with
  |non=>rw[show V.int a=V.non from h2,0]|str b=>obtain⟨q,_⟩:=(show V.int a=V.str b/\_ from h2);rw[q,0]|int b=>rw[show V.int a=V.int b from h2,0];rfl|tup ys=>erw[h2,p,us,q,_];rw[q,0]|_=>simp[nD] at he
 | .tup xs,e,v,hd,he,h1,h2=>by
  erw[id h1,p,vs,rfl,hp,hl];cases e with
  |non=>rw[show V.ref p=V.non from h2,0]|str b=>obtain⟨q,_⟩:=(show V.ref p=V.str b/\_ from h2);rw[q,0]|int b=>rw[show V.ref p=V.int b from h2,0]|tup ys=>
   erw[h2,p',us,q,U,Z];rw[q,0];rw[hp,0] at U;rw[IsL.detN (by simpa [nD] using hd) (by simpa [nD] using he) hl Z]
  |_=>simp[nD] at he
 | .bl _,_,_,hd,_,_,_=>by simp[nD] at hd| .lst,_,_,hd,_,_,_=>by simp[nD] at hd| .dct,_,_,hd,_,_,_=>by simp[nD] at hd
theorem IsL.detN {H:Hp}:∀{xs ys:oj D}{vs:oj V},nL xs=v_->nL ys=v_->IsL H xs vs->IsL H ys vs->xs=ys
 | [],[],_,_,_,_,_=>rfl| [],_::_,_,_,_,h1,h2=>by
  rw[show _= [] from h1,0]
  erw[h2,v,r,q,_];rw[q,0]
 |_::_,[],_,_,_,h1,h2=>by
  rw[show _= [] from h2,0]
  erw[h1,v,r,q,_];rw[q,0]
 |x::xs,y::ys,_,hd,he,h1,h2=>by
  erw[h1,v,r,rfl,a1,a2];erw[h2,v',r',q,b1,b2];rw[q,0];let U:nD x=v_/\nL xs=true:=by simpa [nL] using hd
  let Z:nD y=v_/\nL ys=true:=by simpa [nL] using he
  rw[Is.detN U.1 Z.1 a1 b1,IsL.detN U.2 Z.2 a2 b2]
end
def qat:∀(xs ys:oj D),eqL xs ys=((Vq (min ↑xs ↑ys)).all (λj=>eqD (xs.getD j .non) (ys.getD j .non))&&↑xs==↑ys)
 | [],[]=>by simp[eqL]| [],_::_=>by simp[eqL]|_::_,[]=>by simp[eqL]|x::r,y::q=>by
  let U:=qat r q;rw[um,um,show min (↑r+1) (↑q+1)=min ↑r ↑q+1 by omega,RX,vN,US]
  let e:(Vq (min ↑r ↑q)).all ((λj=>eqD ((x::r).getD j .non) ((y::q).getD j .non))∘rn)=(Vq (min ↑r ↑q)).all λj=>eqD (r.getD j .non) (q.getD j .non):=by congr 1
  rw[e];let e2:(↑r+1==↑q+1)=(↑r==↑q):=by rw[U2];simp
  rw[e2,Bool.and_assoc,<-U]
  rfl
nonrec abbrev AJ:oj D->oj D->Bool:=eqL
def Qy {xs ys:oj D}(h:nL xs=v_):AJ xs ys=v_↔xs=ys:=eqXL_iff h
mutual
noncomputable def puD:D->Bool
 | .str _=>v_| .int _=>v_| .tup xs=>puL xs|_=>Vd
noncomputable def puL:oj D->Bool
 | []=>v_|x::r=>puD x&&puL r
end
mutual
theorem OU:∀{d:D},puD d=v_->nD d=v_
 | .str _,_=>rfl| .int _,_=>rfl| .tup xs,h=>puL_n (xs:=xs) h| .non,_=>rfl
theorem puL_n:∀{xs:oj D},puL xs=v_->nL xs=v_
 | [],_=>rfl|x::r,h=>by
  let h':puD x=v_/\puL r=true:=by simpa [puL] using h
  simp![nL,OU h'.1,puL_n h'.2,Tq]
end
section
variable {X:Cx}{ot:oj (o3×Obj)}{σ:St}{H:Hp}{s:o7}
variable {e:D}{A:oh}
def su (I:#[I]){u:V}{b:o6}(Z:nD e=v_)(h2:Is H e u)(U:il u b)(hu:A.units<Vn):VJ A s .none b (eqD .non e):=by
 cases e with
 |non=>
  rw[show u= .non from h2,0]
  rw[U,0];exact Tl _
 |str y=>
  obtain⟨rfl,_⟩:=(show u= .str y/\_ from h2)
  erw[U,t2,rfl,<-rS _ _]
 |int y=>
  rw[show u= .int y from h2,0]
  erw[U,t2,rfl,<-Fv _ _]
 |tup ys=>
  erw[id h2,p,us,rfl,hp,hl];rw[U,0];erw[I.tuple (.inl (.of hp)),its,_,q,_,<-pV q hu]
 |_=>simp[nD] at Z
variable {z:Str}
def Id (I:#[I]){t:Tok}{u:V}{b:o6}(Z:nD e=v_)(h2:Is H e u)(U:il u b)(hu:A.units<Vn):VJ A s (.str z t) b (eqD (!z) e):=by
 cases e with
 |non=>
  rw[show u= .non from h2,0]
  rw[U,0];exact ph _ _
 |str y=>
  obtain⟨rfl,_⟩:=(show u= .str y/\_ from h2)
  erw[U,t2,rfl,<-pc _ _ _ _]
 |int y=>
  rw[show u= .int y from h2,0]
  erw[U,t2,rfl,<-tV _ _ _ _]
 |tup ys=>
  erw[id h2,p,us,rfl,hp,hl];rw[U,0];erw[I.tuple (.inl (.of hp)),its,_,q,_,<-Pb _ _ q hu]
 |_=>simp[nD] at Z
def sw (I:#[I]){z:Int}{t:Tok}{u:V}{b:o6}(Z:nD e=v_)(h2:Is H e u)(U:il u b)(hu:A.units<Vn):VJ A s (.int z t) b (eqD (.int z) e):=by
 cases e with
 |non=>
  rw[show u= .non from h2,0]
  rw[U,0];exact Fk _ _
 |str y=>
  obtain⟨rfl,_⟩:=(show u= .str y/\_ from h2)
  erw[U,t2,rfl,<-Fd _ _ _ _]
 |int y=>
  rw[show u= .int y from h2,0]
  erw[U,t2,rfl,<-rV _ _ _ _]
 |tup ys=>
  erw[id h2,p,us,rfl,hp,hl];rw[U,0];erw[I.tuple (.inl (.of hp)),its,_,q,_,<-pW _ _ q hu]
 |_=>simp[nD] at Z
def DP {xs ys:oj D}{vs us:oj V}{its its':oj o6}{A:oh}(hd:nL xs=v_)(he:nL ys=v_)(hl:IsL H xs vs)(U:IsL H ys us)(rv:iE vs its)(Z:iE us its')
  (ih:∀x>xs,∀(e:D) (v u:V) (a b:o6),nD x=v_->nD e=v_->Is H x v->Is H e u->il v a->il u b->VJ A s a b (eqD x e)):
  ∀j (a1:j<its.toArray.size) (a2:j<its'.toArray.size),VJ A s its.toArray[j] its'.toArray[j] (eqD (xs.getD j .non) (ys.getD j .non)):=λj a1 a2=>by
 let l1:↑its=↑xs:=by rw[<-↑rv,↑hl]
 let l2:↑its'=↑ys:=by rw[<-↑Z,↑U]
 let j1:j<↑xs:=by rw[<-l1];simpa using a1
 let j2:j<↑ys:=by rw[<-l2];simpa using a2
 obtain⟨v1,e1,i1⟩:=hl.get (i:=j) (d:=xs[j]) (by simp[j1])
 obtain⟨v2,e2,i2⟩:=U.get (i:=j) (d:=ys[j]) (by simp[j2])
 erw[rv.get e1,b1,f1,g1];erw[Z.get e2,b2,f2,g2];let k1:its.toArray[j]=b1:=by
  have:=f1;rw[ub (by rwa[l1])] at this
  simpa using this
 let k2:its'.toArray[j]=b2:=by
  have:=f2;rw[ub (by rwa[l2])] at this
  simpa using this
 let d1:xs.getD j .non=xs[j]:=by simp[GP,j1]
 let d2:ys.getD j .non=ys[j]:=by simp[GP,j2]
 rw[k1,k2,d1,d2];exact ih _ (uN j1) _ _ _ _ _ (Es (j:=j) hd (by simp[j1])) (Es (j:=j) he (by simp[j2])) i1 i2 g1 g2
def Ic (I:#[I]){xs:oj D}{e:D}{v u:V}{a b:o6}{A:oh}(hd:nD (¬xs)=v_)(he:nD e=v_)(h1:Is H (¬xs) v)(h2:Is H e u)(r1:il v a)(U:il u b)(hu:A.units<Vn)
  (ih:∀x>xs,∀(e:D) (v u:V) (a b:o6),nD x=v_->nD e=v_->Is H x v->Is H e u->il v a->il u b->VJ A.in1 s a b (eqD x e)):VJ A s a b (eqD (¬xs) e):=by
 erw[id h1,p,vs,rfl,hp,hl];rw[r1,0];erw[I.tuple (.inl (.of hp)),its,rv,q,_];cases e with
 |non=>
  rw[show u= .non from h2,0]
  rw[U,0];exact pw q hu
 |str y=>
  obtain⟨rfl,_⟩:=(show u= .str y/\_ from h2)
  erw[U,t2,rfl,<-P0 _ _ q hu]
 |int y=>
  rw[show u= .int y from h2,0]
  erw[U,t2,rfl,<-Pk _ _ q hu]
 |tup ys=>
  by_cases hv:V.ref p=u
  .have:=Is.detN (e:=¬ys) hd he h1 (hv▸h2);subst hv;rw[U,0];rw[<-this,(JZ hd).mpr rfl];exact Tl _
  .erw[id h2,p',us,rfl,ac,Z];rw[U,0];erw[I.tuple (.inl (.of ac)),its',aa,q',_];let l1:↑its=↑xs:=by rw[<-↑rv,↑hl]
   let l2:↑its'=↑ys:=by rw[<-↑aa,↑Z]
   let ad:=Fq (e:=λj=>eqD (xs.getD j .non) (ys.getD j .non)) q q' hu (DP (by simpa [nD] using hd) (by simpa [nD] using he) hl Z rv aa ih)
   let e1:eqD (¬xs) (¬ys)=((Vq (min its.toArray.size its'.toArray.size)).all (λj=>eqD (xs.getD j .non) (ys.getD j .non))&&its.toArray.size==its'.toArray.size):=by
    rw[ur,ur,l1,l2,<-qat];simp![eqD]
   rw[e1];exact Pd (λz=>hv (by rw[z])) ad
 |_=>simp[nD] at he
def Ie (I:#[I]):∀(n:Nat) (d e:D) (v u:V) (a b:o6) (A:oh),dp d<=n->nD d=v_->nD e=v_->Is H d v->Is H e u->il v a->il u b->A.units+n<Vn->VJ A s a b (eqD d e):=by
 intro n
 induction n with
 |zero=>
  intro d e v u a b A hn hd Z h1 h2 r1 r2 hu;cases d with
  |non=>
   rw[show v= .non from h1,0]
   rw[r1,0];exact su I Z h2 r2 hu
  |int z=>
   rw[show v= .int z from h1,0]
   erw[r1,t,rfl,<-sw I Z h2 r2 hu]
  |str z=>simp[dp] at hn|tup xs=>simp[dp] at hn|_=>simp[nD] at hd
 |succ n ih=>
  intro d e v u a b A hn hd Z h1 h2 r1 r2 hu;let U:A.units<cLine:=TH (Fb _ _) hu;cases d with
  |non=>
   rw[show v= .non from h1,0]
   rw[r1,0];exact su I Z h2 r2 U
  |int z=>
   rw[show v= .int z from h1,0]
   erw[r1,t,rfl,<-sw I Z h2 r2 U]
  |str z=>
   obtain⟨rfl,_⟩:=(show v= .str z/\_ from h1)
   erw[r1,t,rfl,<-Id I Z h2 r2 U]
  |tup xs=>
   let hm:dpL xs<=n:=by
    have:dp (¬xs)=1+dpL xs:=by simp![dp]
    omega
   exact Ic I hd Z h1 h2 r1 r2 U λx hx e v u a b k1 k2 k3 k4 k5 k6=>ih x e v u a b A.in1 ((sE xs).mp hm x hx) k1 k2 k3 k4 k5 k6 (by rw[ve];omega)
  |_=>simp[nD] at hd
def AbS (I:#[I])(n:Nat)(d e:D)(v u:V)(a b:o6)(A:oh)(hn:dp d<=n)(hd:puD d=v_)(U:puD e=v_)(h1:Is H d v)(h2:Is H e u)(Z:il v a)(r2:il u b)(hu:A.units+n<Vn):VJ A s a b (eqD d e):=Ie I n d e v u a b A hn (OU hd) (OU U) h1 h2 Z r2 hu
end
section
variable {X:Cx}
abbrev trD:D->Bool
 | .str _=>v_| .tup xs=>puL xs|_=>Vd
variable {ot:oj (o3×Obj)}{σ:St}{H:Hp}{s:o7}{A:oh}{ds:oj D}{y:V}{u:o6}
def Acr (I:#[I]){es:oj D}{x:V}{v:o6}(h1:Is H (¬ds) x)(h2:Is H (¬es) y)(hn:nL ds=v_)(aa:nL es=v_)(hd:dpL ds<=60)(rx:il x v)(ry:il y u)(hu:A.units+64<Vn):
  Fj A s v u (eqL ds es)/\R_ A s v u (!(eqL) ds es):=by
 erw[id h1,p,vs,rfl,hp,hl];erw[id h2,p',us,rfl,ac,U];rw[rx,0];rw[ry,0];erw[I.tuple (.inl (.of hp)),its,rv,q,_];erw[I.tuple (.inl (.of ac)),its',Z,q',_];let l1:↑its=↑ds:=by rw[<-↑rv,↑hl]
 let l2:↑its'=↑es:=by rw[<-↑Z,↑U]
 let pe:=DP (A:=A.in1) hn aa hl U rv Z λx hx e v u a b k1 k2 k3 k4 k5 k6=>Ie I 60 x e v u a b A.in1 ((sE ds).mp hd x hx) k1 k2 k3 k4 k5 k6 (by rw[ve];omega)
 let e1:=Fq (e:=λj=>eqD (ds.getD j .non) (es.getD j .non)) q q' () pe
 let e2:=Fp (e:=λj=>eqD (ds.getD j .non) (es.getD j .non)) q q' () pe
 rw[ur,ur,l1,l2,<-qat] at e1 e2;exact[e1:e2]
variable {e:D}
def Aeo (I:#[I]){d:D}{x:V}{v:o6}(h1:Is H d x)(h2:Is H e y)(p1:trD d=v_)(p2:trD e=v_)(hn:dp d<=60)(rx:il x v)(Z:il y u)(hu:A.units+64<Vn):
  Fj A s v u (eqD d e)/\R_ A s v u (!(eqD) d e):=by
 let U:A.units<cLine:=by omega
 cases d with
 |str z=>
  obtain⟨rfl,_⟩:=(show x= .str z/\_ from h1)
  erw[rx,t,rfl];cases e with
  |str w=>
   obtain⟨rfl,_⟩:=(show y= .str w/\_ from h2)
   erw[Z,t2,rfl,<-[pq _ _ _ _:pY _ _ _ _]]
  |tup ys=>
   erw[id h2,p,us,rfl,hp,hl];rw[Z,0];erw[I.tuple (.inl (.of hp)),its,_,q,_,<-[RM _ _ q U:pL _ _ q U]]
  |_=>simp[trD] at p2
 |tup xs=>
  erw[id h1,p,vs,rfl,hp,hl];rw[rx,0];erw[I.tuple (.inl (.of hp)),its,rv,q,_];cases e with
  |str w=>
   obtain⟨rfl,_⟩:=(show y= .str w/\_ from h2)
   erw[Z,t2,rfl,<-[Ff _ _ q U:Pa _ _ q U]]
  |tup ys=>
   erw[id h2,p',us,rfl,ac,ad];rw[Z,0];let hm:dpL xs<=60:=by
    have:dp (¬xs)=1+dpL xs:=by simp![dp]
    omega
   let aa:=Acr I h1 h2 (puL_n (by simpa [trD] using p1)) (puL_n (by simpa [trD] using p2)) hm (v:=-p) (u:=-p') rfl rfl hu
   rw[show eqD (¬xs) (¬ys)=eqL xs ys by simp![eqD]]
   exact aa
  |_=>simp[trD] at p2
 |_=>simp[trD] at p1
inductive AcX (g:Bool->Bool)(x:V)(y:V)(H:Hp)(Q:VK):Prop
 |mk (d e:D)(_:Is H d x)(_:Is H e y)(_:trD d=v_)(_:trD e=v_)(_:dp d<=60)(_:Q (.bl (g (eqD d e))) H)
def DY (U:X.A.units+64<Vn):OpR X (Vm .Eq) (AcX id):=by
 rw[2,x,y,v,u,Q,I,Z,ry,h];erw[h,d,e,h1,h2,p1,p2,hn,q,<-(Aeo I h1 h2 p1 p2 hn Z ry U).1 X.prog X.w X.xe _ (.bl _,H,I,1,q)]
end
variable {X:Cx}
def xh:jg X (.builtin "len") (λxs H Q=>(∃z:Str,xs= [!z]/\↑z<=Vg/\Q (.int ↑z) H)\/∃p ys,xs= [-p]/\(SqL X.K H p ys\/SqT X.K H p ys)/\(↑ys<=Vg->Q (.int ↑ys) H)):=by
 rw[2,xs,us,Q,I,r,h];rcases h with⟨z,e,hz,q⟩|h
 .exact qaf ot s σ H xs us Q I r (_,↑z,e,[hz:1],q)
 .exact IA ot s σ H xs us Q I r h
abbrev Adl (K:o0)(n:Nat)(t:TGs):TG:=λv σ H Q=>∃a xs,v= .ref a/\SqL K H a xs/\↑xs=n/\t xs σ H Q
def O1 {X:Cx}{es:oj Expr}{k:Nat}{t:TGs}{n:Nat}{pos:Pos}(hc:X.calm=v_)(h:PGs X es t)
  (hn:↑(G9 es X.env)=n) (U:(G9 es X.env).findIdx? (·.1)=U_):PG X (.Tuple es k pos) (Adl X.K n t):=by
 rw[2,v,u,Q,I,r,Z];erw[Z,a,xs,e1,hq,hl,Z];subst e1;rw[r,0];erw[I.list hq,its,rv,ht,hz];rw[assign_Tuple];refine A7 (HN ?_);unfold unpack;rw[U,hn,<-hl,show ↑xs=its.toArray.size by simp[rv.length]]
 refine A7 (VS (PySem.W.kun_itemsOf (I.ok.hd hc) ht.isList λh' hx=>?_));let I1:Inv X ot σ H {s with heap:=h'}:=I.kept (t':=s.toks) λb o e=>hx b o (uU (uG e)) e
 exact h ot _ σ H xs _ Q I1 (by simpa using rv) Z
variable {w:og}{K:o0}{mg:Str->om o6}{base:o8}{f:o3}{A:oh}
def Ac3 {P:o9}{N:oj Str}{qual:Str}{scope:Vv}{cd:o6}{outer:oj Env}{s₀:o7}{H₀:Hp}{E:XK}:
  zj (CX1 P w) (cxOf (CX1 P w) P w K mg base N qual scope f cd A outer s₀ H₀ E) E:=by
 intro ot σ H s e s' I h;erw[h,ea,C,a0,H',B,rfl,au,ae,htk,aw,al,am,hold,hE];show Ve (Vs P w) (A.deeper (Vk qual scope #[0,s₀] f cd)) (Tw (Vk qual scope #[0,s₀] f cd) (-ea)) (λ_ af=>CX1 P w outer H₀ s₀ E (-ea) af) (λe' af=>CX1 P w outer H₀ s₀ E e' af) _;let ax:(A.deeper (Vk qual scope #[0,s₀] f cd)).frames=u_ (Vk qual scope #[0,s₀] f cd::outer):=I.ok.frames;let ag:frs (Vk qual scope #[0,s₀] f cd::outer)=#[0,s₀]::frs outer:=rfl;let U:Un (frs outer) [] H₀ H s₀.heap s.heap:=I.base;let Z:Un (frs (Vk qual scope #[0,s₀] f cd::outer)) [] H H' s.heap s'.heap:=aw;let aa:rG B (Vk qual scope #[0,s₀] f cd::outer) ea (-C) a0 s'.heap:=am;let ac:∀b o,s.heap.get? b=u_ o->b∉frs (Vk qual scope #[0,s₀] f cd::outer)->∃o',B.get? b=u_ o':=hold;let ay:=aa.2.2.1;let ad:∀b o,s₀.heap.get? b=u_ o->b∉frs outer->b∉frs (Vk qual scope #[0,s₀] f cd::outer):=λb o e hb hm=>by
  rw[ag] at hm;rcases Ab.mp hm with rfl|hm
  .exact A8 (uG e) (vM _)
  .exact hb hm
 let nd:∀b>frs outer,∀o,s'.heap.get? b=u_ o->∀vs,o.data≠ .fields vs:=λb hb o e=>by
  obtain⟨_,o',e',hn⟩:=ay.mem (show b>(Vk qual scope #[0,s₀] f cd::outer).filterMap (·.frame) from by rw[show(Vk qual scope #[0,s₀] f cd::outer).filterMap (·.frame)=frs (Vk qual scope #[0,s₀] f cd::outer) from rfl,ag];exact uf _ hb)
  rw[e] at e';rw[e',0];exact hn
 refine wpAny_leaves_onW (base:=B) (L:=#[0,s₀]) ax rfl aa λaA ah ao=>?_;let aB:∀b o o',B.get? b=u_ o'->s'.heap.get? b=u_ o->aA.get? b=u_ o:=λb o o' e1 e2=>by
  have:=aa.1 b o' e1;rw[e2,0] at this;exact ah.1 b o e1
 rw[_,ea,C,a0,H',B,1,au.trans I.os,ae,htk,(?_,?_,?_,?_,?_,?_,?_),al,ah,?_,hE]
 .intro b o e1 hn hb hx;let e2:=U.keep b o e1 hn hb hx;let ak:=U.free b o e1 hn hx;let ap:=ad b o e1 hb;let e3:=Z.keep b o e2 ak ap hx;erw[ac b o e2 ap,o',e4,<-aB b o o' e4 e3]
 .intro b o e1 hn hb hx;erw[U.slot b o e1 hn hb hx,sl,e2];let ak:=U.free b o e1 hn hx;obtain⟨aC,e3⟩:=Z.slot b _ e2 ak (by rw[ag];exact uf _ hb) hx
  erw[ao b _ e3 (nd b hb _ e3),aq,e4,<-[aq:e4]]
 .intro b o e1 hn hx;erw[U.there b o e1 hx,o',e2,<-Z.free b o' e2 (U.free b o e1 hn hx) hx]
 .intro b o e1 hx;erw[U.there b o e1 hx,o',e2];by_cases hb:b>frs outer
  .erw[Z.there b o' e2 hx,o2,e3];erw[ao b _ e3 (nd b hb _ e3),aq,e4,<-[_:e4]]
  .erw[ac b o' e2 (ad b o e1 hb),o2,e3,<-[o2:ah.1 b o2 e3]]
 .exact λb xs e=>Z.tups b xs (U.tups b xs e)
 .exact λb o u e=>Z.frzs b o u (U.frzs b o u e)
 .intro b ps e;erw[U.tbls b ps e,m1,e1];erw[Z.tbls b _ e1,m2,e2,<-⟨m1++m2,by rwa[<-TJ]⟩]
 .intro b o e1 hb;obtain⟨o',e2⟩:=U.there b o e1 (by simp)
  exact ac b o' e2 (ad b o e1 hb)
def DO:zj (CX1 X.prog X.w) X E0:=λ_ _ _ _ _ _ _ h=>by
 erw[h,_,_,_,_,_,_,_,_,_,_,_,_,_,z,<-Vw z]
end L2
namespace L2
open PySem PyProof.Rows
variable {H:Hp}{p:o3}
def Tk.updD {xs ys:oj (Key×V)}(h:H p=u_ (.dK xs)):Tk H (upd H p (.dK ys)):=by
 rw[_,λb zs e=>?_,λb zs e=>[zs:?_],λb zs e=>?_]
 .rw[qk (λz=>by rw[z,h,0] at e)];exact e
 .rw[qk (λz=>by rw[z,h,0] at e)];exact e
 .by_cases z:b=p
  .exact⟨ys,by rw[z];exact qg⟩
  .exact⟨zs,by rwa[qk z]⟩
variable {C dx:o3}
def Tk.updI {U dx':o3}{xs ys:oj (Str×V)}(h:H p=u_ (.ins C dx xs)):Tk H (upd H p (.ins U dx' ys)):=
 ⟨λb zs e=>by rw[qk (λz=>by rw[z,h,0] at e)];exact e,λb zs e=>⟨zs,by rw[qk (λz=>by rw[z,h,0] at e)];exact e⟩,λb zs e=>⟨zs,by rw[qk (λz=>by rw[z,h,0] at e)];exact e⟩⟩
section
variable {X:Cx}
inductive ON (x:V)(vs:List V)(H:Hp)(Q:VK):Prop
 |mk (z y:Str)(_:x= !z)(_:vs= [!y])(_:Q (.bl (Gq z y)) H)
def Et:MtM X "str.startswith" ON:=by
 rw[2,x,vs,v,us,Q,I,U,rv,h];erw[h,z,y,rfl,rfl,q];erw[U,t,rfl];erw[rv.one,u,rfl,t',rfl,<-SC.startswith (.bl (Gq z y),H,I,1,q)]
end
def Sm {d A:o3}{o:Obj}{H1:Hp}{tc:TT}{te:TE}{tl:St}{Q:VK}{kvs:oj (Key×V)}{ls:oj Str}(p:Str->Bool)(f:Str->V)(hd:H1 d=u_ (.frz o (.dK kvs)))(hk:kvs.map (·.1)=ls.map Vf)(hn:↑ls<=Vg)(hA:H1 A=U_)
  (Z:∀z H (R:Bool->Hp->Prop),z>ls->ic H1 H->R (p z) H->tc (u_ (!z)::tl) H R)
  (aa:∀z H (R:VK),z>ls->ic H1 H->R (f z) H->te (u_ (!z)::tl) H R)
  (hQ:∀H',ic H1 H'->H' A=u_ (.lst ((ls.filter p).map f))->Q (-A) H'):Az A (Itd d o) (YG 0) tc te (U_::tl) H1 Q:=by
 let ad:↑kvs=↑ls:=by
  have:=Aa Gm hk
  simpa using this
 rw[_,↑ls,λi σ ys H=>(∃w,σ=w::tl)/\ys=((ls.take i).filter p).map f/\ic H1 H,hn,[[U_:1]:1:qf hA _],?_,?_]
 .rintro i σ ys H hi ⟨⟨w,rfl⟩,rfl,sm⟩ U hy;rw[_,[kvs:sm _ _ hd:()]]
  rintro x H' ⟨rfl,hx⟩;let e:=hx kvs (sm _ _ hd);let e2:(kvs.map λp=>kV p.1)[i]? =u_ (V.str ls[i]):=by
   have:(kvs.map λp=>kV p.1)=(kvs.map (·.1)).map kV:=by rw[uO];rfl
   rw[this,hk,uO,uH,ub hi]
   rfl
  rw[e2,0] at e;let et:ls.take (i+1)=ls.take i++ [ls[i]]:=by rw[uV,ub hi];rfl
  let ac:∀ys,ic H1 (upd H' A (.lst ys)):=λys b o' e=>by
   rw[qk (ql e hA)];exact sm _ _ e
  dsimp![YG,Gx];refine Z ls[i] H' _ (uN hi) sm ?_;cases hp:p ls[i] with
  |true=>
   refine iY (aa ls[i] H' _ (uN hi) sm (U,⟨0⟩,?_,ac _));rw[et,V1,uj];simp[hp]
  |false=>
   refine iU (U,⟨0⟩,?_,sm);rw[et,V1,uj];simp[hp]
 .rintro σ ys H ⟨_,rfl,sm⟩ U;rw[vT] at U;exact[[kvs:sm _ _ hd:()]:hQ H sm U]
def Sj {K:o0}{a A:o3}{H1:Hp}{te:TE}{tl:St}{Q:VK}{ls:oj Str}(C:Nat->oj V->Hp->Prop)(ha:H1 a=u_ (.lst (ls.map V.str)))(hn:↑ls<=Vg)(hA:H1 A=U_)(h0:C 0 [] (upd H1 A (.lst [])))
  (aa:∀i z ys H,ls[i]? =u_ z->C i ys H->H A=u_ (.lst ys)->H a=u_ (.lst (ls.map V.str))->↑ys<=i->∀R:VK,(∀y H4,H4 A=u_ (.lst ys)->H4 a=u_ (.lst (ls.map V.str))->C (i+1) (ys++ [y]) (upd H4 A (.lst (ys++ [y])))->R y H4)->te (u_ (!z)::tl) H R)
  (hQ:∀ys H,C ↑ls ys H->H A=u_ (.lst ys)->Q (-A) H):Az A (Itl K a) (YG 0) nK te (U_::tl) H1 Q:=by
 let Z:a≠A:=ql ha hA;refine(↑ls,λi σ ys H=>(∃w,σ=w::tl)/\C i ys H/\H a=u_ (.lst (ls.map V.str)),hn,⟨[U_:1],h0,by rwa[qk Z]⟩,?_,?_)
 .rintro i σ ys H hi ⟨⟨w,rfl⟩,hc,hl⟩ U hy;let e0:(ls.map V.str)[i]? =u_ (V.str ls[i]):=by rw[uH,ub hi];rfl
  rw[_,(_,_,SqL.of hl,e0)];rintro x H' ⟨rfl,hx⟩;let e:=hx _ (SqL.of hl);rw[e0,0] at e;dsimp![YG,nK,Gx];rw[A6 rfl];exact aa i ls[i] ys H' (ub hi) hc U hl hy _ λy H4 h4 h5 c4=>(h4,⟨0⟩,c4,by rwa[qk Z])
 .rintro σ ys H ⟨_,hc,hl⟩ U;exact⟨⟨_,SqL.of hl,by simp⟩,hQ ys H hc U⟩
section
variable {X:Cx}{K:o0}{o e:Expr}{es:oj Expr}{to:TE}{t:TA}{name:Str}{apos cpos:Pos}{T id:String}{r:V->oj V->Hp->VK->Prop}
def Abc (hK:X.K=K)(pa:Tb T)(slot:Slot T name id)(ad:HY (.builtin id)=pure (.type "method_descriptor"))(hm:MtR X id r)(ho:PE X o to)(ha:PA X (e::es) t)
  (Z:Gh o name X.env (eval o X.env)=eval o X.env)
  (ac:((Vp cpos (Vi (e::es) X.env)).all (λx=> !(x).1)&&(Gj cpos (Gf [] X.env)).all (λx=>x.1.isSome)
   &&decide (↑(e::es)+↑([]:oj GD)+(if([]:oj GD).isEmpty then 0 else 1)<30))=v_)
  (aa:(apos.endLine==cpos.line)=v_) (hs:Vi (e::es) X.env=(Vd,eval e X.env)::Vi es X.env) (U:(Vp cpos (Vi es X.env)).any (·.1)=Vd):
  PE X (.Call (.Attribute o name apos) (e::es) [] cpos) (tBM K T r to t):=by
 subst hK;exact YS pa slot ad hm ho ha Z ac aa hs U
end
section
variable {X:Cx}
def Inv.laidM {ot:oj (o3×Obj)}{σ:St}{H H':Hp}{s:o7}{h':o8}{t':Nat}(I:#[I])(k:∀b u,s.heap.get? b=u_ u->h'.get? b=u_ u)(sm:ic H H')
  (U:∀b o,H b=U_->H' b=u_ o->#[0,s]<=b/\yp X.prog X.w H' h' b o) (Z:0<t'):Inv X ot σ H' {s with heap:=h',toks:=t'}:=by
 refine I.un (λb u q _ _ _=>k b u q,λb u q _ _ _=>[u.slots:k b u q],λb u q n _=>?_,λb u q _=>[u:k b u q],λb xs q=>sm _ _ q,λb u xs q=>sm _ _ q,λb ps q=>⟨#[],by rw[sm _ _ q];simp⟩) (λb u e=>?_) Z
 .cases e:H' b with
  |none=>rfl|some o=>
   exact A8 (uG q) (Nat.not_lt.mpr (U b o n e).1)
 .cases q:H b with
  |none=>exact(U b u q e).2|some o=>
   rw[sm _ _ q,0] at e;exact(I.hok b _ q).stay (λc v _ z=>k c v z) (λc z=>sm _ _ z) λc xs z=>sm _ _ z
end
section
variable {prog:o9}{w:og}{A:oh}{E:o6->o7->Prop}{s:o7}
def IR {r:o3}{T:String}{Q:o6->o7->Prop}{G:oj o6->o7->Prop}(aa:T="dict_items"\/T="list_reverseiterator")(ac:s.TypeIs (-r) T)
  (Z:∀(R:oj o6->o7->Prop) (E':o6->o7->Prop),(∀vs s',G vs s'->R vs s')->Ve #[w,w] A.in1.in1 (collect (-r)) R E' s)
  (hQ:∀vs s',G vs s'->↑vs<=Vg/\Q (.ref #[0,s']) {s' with heap:=s'.heap.push {cls:= .type "tuple",data:= .seq vs.toArray}}):
  Ve #[w,w] A (call (.type "tuple") [-r]) Q E s:=by
 let new:VL #[w,w] A.in1 (.call (.builtin "tuple.__new__") ⟨[.type "tuple",-r],[]⟩) (HK (λobj U=>U.TypeIs obj "tuple"/\Q obj U) E) s:=by
  refine To ?_;show Ve _ A.in1.in1 (do Hz "tuple.__new__" [[.type "tuple",-r]:[]];again (.builtin "tuple.__new__" [[.type "tuple",-r]:[]])) _ _ s
  refine A7 (Hj (PySem.F.newCall_tuple_1 _) (uC [Hv Uk _:UZ PySem.F.entry_tuple_new ?_]));rw[UL Uk _];let ae:=RD;let ad:=FY;let af:=FI;rcases aa with rfl|rfl
  all_goals
   wp_walk using Gk ac,Z
   intro vs s' hg;erw[hQ vs s' hg,hl,hq];show Ve _ _ (Gr vs.toArray>>=λv=>ret v) _ _ _;unfold Gr;refine A7 (vv ?_ (by show vs.toArray.size<=Vg;simpa using hl))
   refine uC ?_;exact[[_:uD _ rfl:1]:hq]
 refine Ti (Q₁:=λobj U=>U.TypeIs obj "tuple"/\Q obj U) PySem.F.called_tuple (PySem.F.typeCall_tuple_1 _) PySem.F.entry_object_init new λobj U h₁=>?_;exact[h₁.1:PySem.F.args_object_init_2 obj _:re PySem.F.called_tuple.init.lookup PySem.F.called_tuple.made () prog w A.in1 _ U [h₁.1:1:h₁.2]]
end
abbrev NC (ps:oj (o3×oj V))(H:Hp):Hp:=ps.foldl (λh p=>upd h p.1 (.tup p.2)) H
def zy:∀(ps:oj (o3×oj V)) (H:Hp) (b:o3),b∉ps.map (·.1)->NC ps H b=H b
 | [],_,_,_=>rfl|p::r,H,b,h=>by
  show NC r (upd H p.1 (.tup p.2)) b=_;rw[zy r _ b (λm=>h (uf _ m)),qk (λe=>h (by rw[e];exact ug ..))]
def IH:∀(ps:oj (o3×oj V)) (H:Hp) (p:o3×oj V),(ps.map (·.1)).Nodup->p>ps->NC ps H p.1=u_ (.tup p.2)
 | [],_,_,_,h=>nomatch h|q::r,H,p,hn,h=>by
  let U:=List.nodup_cons.mp hn;show NC r (upd H q.1 (.tup q.2)) p.1=_;rcases Ab.mp h with rfl|h
  .rw[zy r _ _ U.1,qg]
  .exact IH r _ p U.2 h
abbrev qaD (H:Hp)(kvs:oj (Key×V))(ts:oj o3):Prop:=↑ts=↑kvs/\∀(j:Nat) (t:o3) (p:Key×V),ts[j]? =u_ t->kvs[j]? =u_ p->H t=u_ (-[kV p.1,p.2])
inductive S6 (mk:List V->HO)(Q:VK)(x:V)(H1:Hp):Prop
 |mk (d:Addr)(kvs:List (Key×V))(_:x=-d)(_:Rd H1 d (.dK kvs))(_:∀(t:Addr)(ts:List Addr)(H2:Hp),ic H1 H2->H1 t=U_->H2 t=u_ (mk (ts.map V.ref))->qaD H2 kvs ts->Q (-t) H2)
abbrev AaD (mk:oj V->HO)(to:TE):TE:=λσ H Q=>to σ H λx H1=>S6 mk Q x H1
def Wa {α β:Type}:∀{as:oj α}{bs:oj β},↑as=↑bs->(as.zip bs).map (·.1)=as
 | [],[],_=>rfl|a::as,b::bs,h=>by
  rw[List.zip_cons_cons,uA,Wa (by simpa using h)]
def WI {α β:Type}{F:α->β->Prop}:∀{l₁:oj α}{l₂:oj β},Paired F l₁ l₂->∀{j:Nat}{a:α}{b:β},l₁[j]? =u_ a->l₂[j]? =u_ b->F a b
 |_,_,.nil,j,a,b,h,_=>by simp at h|_,_,.cons f r,0,a,b,h1,h2=>by
  rw[h1,0];rw[h2,0];exact f
 |_,_,.cons f r,j+1,a,b,h1,h2=>WI r (j:=j) (by simpa using h1) (by simpa using h2)
section
variable {X:Cx}{ot:oj (o3×Obj)}{σ:St}{H:Hp}{s:o7}
def CL {r t:o3}{kvs:oj (Key×V)}{vs:oj (Key×o6)}{as:oj o3}{h1 h2:o8}{tk:Nat}{o:HO}(I:#[I])(U:KV kvs vs)(k2:∀b u,s.heap.get? b=u_ u->h2.get? b=u_ u)(hl:↑as=↑vs)(hz:#[0,s]<=r)
  (hG:PySem.W.KdxG (Qg X.prog X.w) vs r h1 as) (ac:∀a>as,∀u,h1.get? a=u_ u->h2.get? a=u_ u) (ht:#[0,s]<=t) (ad:t∉as) (hu:∃u,o=u) (htk:0<tk)
  (new:∀H',ic H H'->qaD H' kvs as->yp X.prog X.w H' h2 t o):
  ∃H',Inv X ot σ H' {s with heap:=h2,toks:=tk}/\ic H H'/\H t=U_/\H' t=u_ o/\qaD H' kvs as:=by
 let hn:as.Nodup:=hG.rise.imp λh=>uU h;let hf:∀a>as,H a=none:=λa ha=>I.hok.fresh (uY hz (Ui (hG.above a ha)));let aa:H t=none:=I.hok.fresh ht;let ag:↑kvs=↑vs:=↑U
 refine_lift let ps:oj (o3×oj V):=as.zip (kvs.map λp=> [kV p.1,p.2]);?_
 let ef:ps.map (·.1)=as:=Wa (by rw[u7];omega)
 let ae:ic H (NC ps H):=λb u e=>by
  rw[zy ps H b (by rw[ef];exact λm=>by rw[hf b m,0] at e)]
  exact e
 let sm:ic H (upd (NC ps H) t o):=λb u e=>by
  rw[qk (ql e aa)];exact ae _ _ e
 let it:qaD (upd (NC ps H) t o) kvs as:=by
  rw[_,(),λj a p h3 h4=>?_]
  let ma:=uW h3;rw[qk (λe=>ad (by rwa[<-e]))]
  refine IH ps H (a,[kV p.1,p.2]) (by rwa[ef]) ?_
  refine uW (i:=j) ?_;show(as.zip (kvs.map λp=> [kV p.1,p.2]))[j]? =_;rw[Rp];exact⟨h3,by rw[uH,h4];rfl⟩
 rw[_,upd (NC ps H) t o,I.laidM k2 sm (λb u e1 e2=>?_) htk,sm,aa,qg,it];by_cases hb:b=t
 .subst hb;rw[qg,0] at e2;exact[ht:new _ sm it]
 .rw[qk hb] at e2;let mb:b>as:=by
   refine FX λm=>?_;rw[zy ps H b (by rwa[ef]),e1] at e2
   rw[e2,0]
  rw[_,uY hz (Ui (hG.above b mb))];erw[List.mem_iff_getElem?.mp mb,j,hj];erw[hG.pairs j b hj,af,kk,x,f1,f2,f3];let Z:j<↑kvs:=by
   have:=(Ag.mp f1).1;omega
  let e5:=it.2 j b kvs[j] hj (ub Z);rw[qk hb,e2,0] at e5;let q1:kvs[j].1=kk:=by
   have:(kvs.map (·.1))[j]? =u_ kk:=by rw[U.keys,uH,f1];rfl
   rw[uH,ub Z] at this;exact uL this
  let q2:il kvs[j].2 x:=by
   exact(WI U (ub Z) f1).2
  refine(by show 2<=Vg;decide,[af,x],.cons (by rw[q1];exact EG f2) (.cons q2 .nil),(_,ac b mb _ f3,1,0))
def CS {o:Expr}{to:TE}{apos cpos:Pos}{R:o6->o7->Prop}{Q:VK}(ho:PE X o to)(I:#[I])(U:Gh o "items" X.env (eval o X.env)=eval o X.env)(Z:(apos.endLine==cpos.line)=v_)
  (h:to σ H Q)
  (k:∀(s1:o7) (H1:Hp) (x:V),Inv X ot σ H1 s1->Q x H1->∃(d:o3) (kvs:oj (Key×V)),x= .ref d/\Rd H1 d (.dK kvs)/\R (.ref #[0,s1]) {s1 with heap:=s1.heap.push {cls:= .type "dict_items",data:= .fields #[-d]}}):
  Ve #[X,X] X.A (eval (.Call (.Attribute o "items" apos) [] [] cpos) X.env) R X.xe s:=by
 refine FR U Z (thn (ho ot s σ H _ I h) λv s1 zq=>?_);erw[zq,x,H1,I1,r1,q];erw[k s1 H1 x I1 q,d,kvs,ex,hd,q2];subst ex;rw[r1,0];erw[Zl I1.hok hd,hz,lo,vs,ac,dd];let aa:∀a,Vj d= .ref a->∃ob,s1.heap.get? a=u_ ob/\ob.dict=none:=AM I1 (y:=kV (Gb 0)) (.inl (kvs,Gb 0,hd,1,1));exact("dict","dict.items",Uj,PySem.F.slot_dict_items,PySem.F.type_dict_items,dd.typeIs,aa,vU rfl (PySem.evalArgs_none (Hd PySem.F.slot_dict_items dd.typeIs PySem.F.entry_dict_items (PySem.F.args_dict_items_1 _) (meets_dict_items (Qg X.prog X.w) d lo) [[vs:dd]:q2])))
def Am {x:Str}{o:Expr}{to:TE}{p pos apos cpos:Pos}(hc:X.calm=v_)(hg:Gl X x)(hm:X.mg x=U_)(hv:GO x=u_ (.type "tuple"))(ho:PE X o to)(hn:x≠"__name__")(ae:(x==("__debug__":Str))=Vd)
  (Z:Gh o "items" X.env (eval o X.env)=eval o X.env) (aa:(apos.endLine==cpos.line)=v_)
  (he:Vi [.Call (.Attribute o "items" apos) [] [] cpos] X.env=(Vd,eval (.Call (.Attribute o "items" apos) [] [] cpos) X.env)::Vi [] X.env) (af:(Vp pos (Vi [] X.env)).any (·.1)=Vd):
  PE X (.Call (.Name x p) [.Call (.Attribute o "items" apos) [] [] cpos] [] pos) (AaD .tup to):=by
 rw[2,Q,I,h];refine Uq (ZQ I hg hm hv ?_ hn ae);refine vy ?_ he af;rw[he];show Ve _ _ (Td ((Vd,eval (.Call (.Attribute o "items" apos) [] [] cpos) X.env)::Vp pos (Vi [] X.env))) _ _ s;refine U7 (CS ho I Z aa h ?_);rintro s1 H1 x I1 ⟨d,kvs,rfl,hd,q⟩;rw[_,d,kvs,1,hd,UG ?_];erw[Zl I1.hok hd,hz,lo,vs,ac,dd];erw[id dd,o,es,ep,ho];let ag:s1.heap.DictAt (Qg X.prog X.w) d vs ep:=[o:es:ho];let U:(s1.heap.push {cls:= .type "dict_items",data:= .fields #[-d]}).IsItemsView #[0,s1] d:=(_,uD _ rfl,1,1);refine vf (n:=1) I1.tk ?_;refine IR (G:=λus s'=>∃(h':o8) (tk:Nat) (as:oj o3),us=as.map Vj/\s'={s1 with heap:=h',toks:=tk}/\(∀b o,(s1.heap.push {cls:= .type "dict_items",data:= .fields #[-d]}).get? b=u_ o->h'.get? b=u_ o)/\↑as=↑vs/\PySem.W.KdxG (Qg X.prog X.w) vs (s1.heap.push {cls:= .type "dict_items",data:= .fields #[-d]}).objs.size h' as)
  (.inl rfl) U.typeIs (λR E' k=>PySem.W.kdx_collect (s:={s1 with heap:=s1.heap.push {cls:= .type "dict_items",data:= .fields #[-d]}}) (knd:=Qg X.prog X.w) (kvs:=vs) (ep:=ep) (A:=X.A.in1.in1) (I1.ok.hd hc) U (ag.push _) (by rwa[<-↑ac]) λh' tk as k1 k2 k3=>k _ _ (h',tk,as,1,1,k1,k2,k3)) ?_
 rintro us s' ⟨h',tk,as,rfl,rfl,k1,k2,k3⟩;let am:=↑ac;refine⟨by rw[u7];omega,λhtk=>?_⟩
 let hsz:#[0,s1]<=(s1.heap.push {cls:= .type "dict_items",data:= .fields #[-d]}).objs.size:=by rw[vn];exact Ue _
 let k0:∀b u,s1.heap.get? b=u_ u->h'.get? b=u_ u:=λb u e=>k1 b u (u9 _ e);let ah:∀a>as,a<h'.objs.size:=λa ha=>k3.there ha;let ad:#[0,s1]<=h'.objs.size:=by
  have:=uG (k1 _ _ (uD s1.heap (o:={cls:= .type "dict_items",data:= .fields #[-d]}) rfl));exact Ui this
 let ak:∀l:oj o3,iE (l.map V.ref) (l.map Vj):=by
  intro l
  induction l with
  |nil=>exact .nil|cons a r ih=>exact .cons rfl ih
 obtain⟨H2,I2,sm,tn,al,it⟩:=CL (h2:=h'.push {cls:= .type "tuple",data:= .seq (as.map Vj).toArray}) (t:=h'.objs.size) (o:= .tup (as.map V.ref)) (tk:=tk) I1 ac (λb u e=>u9 _ (k0 b u e)) k2 hsz k3 (λa _ u e=>u9 _ e) ad (λm=>vM _ (ah _ m)) ⟨0⟩ htk (λH' _ _=>(by rw[u7];omega,as.map Vj,ak as,(_,uD _ rfl,1,0)))
 exact(-h'.objs.size,H2,I2,1,q _ as H2 sm tn al it)
end
abbrev Na:D->Bool
 | .non=>v_|d=>trD d
section
variable {X:Cx}
inductive Aew (x:V)(y:V)(H:Hp)(Q:VK):Prop
 |mk (d:D)(z:Str)(_:Is H d x)(_:y= !z)(_:↑z<=1000)(_:Na d=v_)(_:dp d<=60)(_:Q (.bl (eqD d (!z))) H)
def Abg (hu:X.A.units+64<Vn):OpR X (Vm .Eq) Aew:=by
 rw[2,x,y,v,u,Q,I,U,Z,h];erw[h,d,z,hd,rfl,hz,hk,hp,q];cases d with
 |non=>
  rw[show x= .non from hd,0]
  exact Qd ot s σ H .non (!z) v u Q I U Z ⟨1,by simpa [eqD] using q⟩
 |str a=>exact DY hu ot s σ H x _ v u Q I U Z (_,!z,hd,⟨1,by rw[uB];omega⟩,hk,1,hp,q)|tup a=>exact DY hu ot s σ H x _ v u Q I U Z (_,!z,hd,⟨1,by rw[uB];omega⟩,hk,1,hp,q)|_=>simp[Na,trD] at hk
inductive Aeu (K:PySem.W.Frag)(x:V)(y:V)(H:Hp)(Q:VK):Prop
 |mk (d:D)(p:Addr)(ls:List Str)(_:Is H d x)(_:y=-p)(_:(SqL K H p (ls.map V.str)\/SqT K H p (ls.map V.str)))(_:(∀z>ls,↑z<=1000))(_:Na d=v_)(_:dp d<=60)(_:Q (.bl (ls.any λz=>eqD d (!z))) H)
def Fr (us:oj Str):(us.map V.str).all ZE=true:=by
 rw[US,U4];exact λ_ _=>rfl
def M5 (hu:X.A.units+64<Vn):OpR X (Vm .In) (Aeu X.K):=by
 rw[2,x,y,v,u,Q,I,rx,ry,h];erw[h,d,p,ls,hd,rfl,U,ac,hk,hp,q];cases d with
 |non=>
  rw[show x= .non from hd,0]
  refine QV ot s σ H .non _ v u Q I rx ry (p,0,U,1,Fr _,?_);let e:inV .non (ls.map V.str)=ls.any λz=>eqD .non (!z):=by
   unfold inV;rw[TU]
   rfl
  rwa[A4 uc,e]
 |str a=>
  erw[hd,rfl,_];refine QV ot s σ H _ _ v u Q I rx ry (p,0,U,1,Fr _,?_);let e:inV (!a) (ls.map V.str)=ls.any λz=>eqD (!a) (!z):=by
   unfold inV;rw[TU];refine Aa (λf=>ls.any f) (funext λz=>?_);show(z==a)=(a==z);rw[U2,beq_iff_eq,beq_iff_eq];exact eq_comm
  rwa[A4 uc,e]
 |tup xs=>
  let e:(ls.any λz=>eqD (¬xs) (!z))=false:=by
   rw[Te];intro z _;simp[eqD]
  rw[e] at q;erw[hd,pa,vs,rfl,ha,hl];rw[rx,0];rw[ry,0];erw[I.tuple (.inl (.of ha)),ad,ae,af,_];let ag:X.A.units<cLine:=by omega
  let Z:∀{its:oj o6},iE (ls.map V.str) its->∀w>its,∀A:oh,A.units+1<Vn->VJ A s w (-pa) false:=by
   intro its r w hw A hA;erw[List.mem_iff_getElem?.mp hw,j,hj];let aa:j<↑ls:=by
    have:=(Ag.mp hj).1;have:=↑r;rw[u7] at this;omega
   obtain⟨u',e1,e2⟩:=r.get (i:=j) (x:=V.str ls[j]) (by rw[uH,ub aa];rfl)
   rw[hj,0] at e1;have:=AbS I 1 (.str ls[j]) (¬xs) (.str ls[j]) (-pa) _ (-pa) A (by simp[dp]) rfl (by simpa [Na,trD,puD] using hk) ⟨1,by have:=ac _ (uN aa);rw[uB];omega⟩ (pa,vs,1,ha,hl) e2 rfl ()
   simpa [eqD] using this
  rcases U with U|U
  .erw[I.list U,its,r,pl,hz];refine rZ (λ_=>Vd) pl.isList (λw hw=>Z r w (by simpa using hw) _ ?_) (.bl _,H,I,1,?_)
   .first|omega|(rw[ve];omega)|(rw[ve,ve];omega)|(rw[ve,ve,ve];omega)
   .rw[show its.toArray.any (λ_=>Vd)=Vd by rw[RO];exact List.any_eq_false.mpr λ_ _=>uc]
    exact q
  .erw[I.tuple U,its,r,pl,hz];refine FA (λ_=>Vd) pl (λw hw=>Z r w (by simpa using hw) _ ?_) (.bl _,H,I,1,?_)
   .first|omega|(rw[ve];omega)|(rw[ve,ve];omega)|(rw[ve,ve,ve];omega)
   .rw[show its.toArray.any (λ_=>Vd)=Vd by rw[RO];exact List.any_eq_false.mpr λ_ _=>uc]
    exact q
 |_=>simp[Na,trD] at hk
end
end L2
namespace L2
open PySem PySem.Spec PyProof.Rows Builtin Builtin.Str
abbrev AaJ (P:o9)(w:og)(K:o0)(mg:Str->om o6)(base:o8)(k:Nat)(tf:TE)(t:TA):TE:=λσ H Q=>tf σ H λv H1=>∃(f:o3) (fd:Vh) (ps:oj Str) (sp:Sp),v= .ref f/\
 FnOk P w K mg base CX0 k f fd ps sp/\XJ K fd ps []/\PySem.W.keepIn K (-f)=v_/\t σ H1 λvs H2=>sp vs H2 Q E0
def Ly {X:Cx}{o i e:Expr}{es:oj Expr}{U pos:Pos}{tf:TE}{t:TA}{k:Nat}{P:o9}{w:og}{K:o0}{mg:Str->om o6}{base:o8}(e1:X.prog=P/\X.w=w/\X.K=K/\X.mg=mg/\X.base=base)(hf:PE X (.Subscript o i U) tf)(hr:mC k X.A)(ha:PA X (e::es) t)
  (he:Vi (e::es) X.env=(Vd,eval e X.env)::Vi es X.env) (Z:(Vp pos (Vi es X.env)).any (·.1)=Vd):
  PE X (.Call (.Subscript o i U) (e::es) [] pos) (AaJ P w K mg base k tf t):=by
 erw[e1,rfl,rfl,rfl,rfl,rfl];rw[2,Q,I,h];show Ve _ _ (do Hi pos (<-eval (.Subscript o i U) X.env) [] (Vp pos (Vi (e::es) X.env)) (Gj pos (Gf [] X.env))) _ _ s
 refine A7 (thn (hf ot s σ H _ I h) λu s1 zq=>?_);erw[zq,v,H1,I1,rv,f,fd,ps,sp,ev,F,hb,hk,q];subst ev;obtain rfl:u=Vj f:=rv;refine Ur (h₀:=X.base) I1.ok.mod.kin hk (thn (ha pos ot s1 σ H1 _ I1 q) λus s2 ⟨vs,H2,I2,r,q2⟩=>[I2.kIn:?_]) he Z;exact Bj (ds:= []) (dvs:= []) F hr hb .nil qC I2 r (by rw[vH];exact q2)
def qax (z y:Str)(hi U:Nat):∀(l:oj Nat) (st:Array Nat×Nat),(VV l st (Gz z y hi U)).run.fst.size<=st.fst.size+↑l
 | [],st=>uh _|a::l,st=>by
  rw[Ux];unfold Gz;split
  .refine uY (qax z y hi U l _) ?_;simp![p8,um];omega
  .refine uY (qax z y hi U l _) ?_;simp![um];omega
def PY (z y:Str)(n:Nat):↑(occurrences z y 0 ↑z n)<=↑z+1:=by
 rw[RE];have:=qax z y ↑z n (GU 0 (↑z+1-0)) (#[],0);rw[vo];refine uY this ?_;simp
abbrev spG (z y:Str):oj Str:=if(decide (↑z<↑y)||decide (VB z<VB y))=v_ then [z] else if(occurrences z y 0 ↑z (↑z+1)).isEmpty=v_ then [z] else partsBetween z (occurrences z y 0 ↑z (↑z+1)) ↑y
def OC (z y:Str):↑(spG z y)<=↑z+2:=by
 unfold spG;let h:=PY z y (↑z+1);split
 .simp
 .split
  .simp
  .simp![partsBetween,u7,List.length_zip,um,uw,HW];omega
variable {z:Str}
def OB {y p:Str}(h:p>spG z y):↑p<=↑z:=by
 unfold spG at h;split at h
 .rw[Ub] at h;subst h;exact uh _
 .split at h
  .rw[Ub] at h;subst h;exact uh _
  .simp![partsBetween,Af] at h;erw[h,q,_,e];rw[<-e];exact strSub_length_le _ _ _
section
variable {X:Cx}
inductive OP (x:V)(vs:List V)(H:Hp)(Q:VK):Prop
 |mk (z:_)(y:_)(_:x= !z)(_:vs= [!y])(_:0<↑y)(_:↑z<=1000)(_:∀p,H p=U_->Q (-p) (upd H p (.lst ((spG z y).map V.str))))
def Ev:MtM X "str.split" OP:=by
 rw[2,x,vs,v,us,Q,I,rx,rv,h];erw[h,z,y,rfl,rfl,hy,hz,q];erw[rx,t,rfl];erw[rv.one,u,rfl,t',rfl];let aa:↑z<=sizeLine:=by rw[uB];omega
 let U:(↑y==0)=false:=by simp;omega
 let one:spG z y= [z]->∀(T:Nat),0<T->EP X ot σ Q (.ref #[0,s]) {s with heap:=s.heap.push {cls:= .type "list",data:= .seq [VF z t].toArray},toks:=T}:=λe T hT=>by
  rw[e] at q;exact xL (ys:= [V.str z]) I (.cons (show il (V.str z) _ from[t:1]) .nil) (by show 1<=Vg;decide) q
 cases h1:(decide (↑z<↑y)||decide (VB z<VB y)) with
 |true=>
  refine vP vS (vY _ _ _) vJ (Ua _ _) (rB z y t t' h1) ?_;exact one (by unfold spG;rw[A6 h1]) s.toks I.tk
 |false=>
  cases Z:(occurrences z y 0 ↑z (↑z+1)).isEmpty with
  |true=>
   refine vP vS (vY _ _ _) vJ (Ua _ _) (RU z y t t' h1 U Z) ?_;exact one (by unfold spG;rw[A4 (by rw[h1];decide),A6 Z]) s.toks I.tk
  |false=>
   let hl:=OC z y;let e:spG z y=partsBetween z (occurrences z y 0 ↑z (↑z+1)) ↑y:=by unfold spG;rw[A4 (by rw[h1];decide),A4 (by rw[Z];decide)]
   rw[e] at q hl;refine vP vS (vY _ _ _) vJ (Ua _ _) (Rv z y t t' h1 U Z aa (by rw[uB];omega)) ?_
   exact xL I (zN _ _) (by rw[u7,uB];omega) q
inductive Aa1 (K:PySem.W.Frag)(x:V)(vs:List V)(H:Hp)(Q:VK):Prop
 |mk (sep:Str)(p:Addr)(l:List Str)(_:x= !sep)(_:vs= [-p])(_:SqT K H p (l.map V.str))(_:(l.map (·.length)).sum+↑l*↑sep<=1000000)(_:Q (.str (Vl sep l)) H)
def L7:MtM X "str.join" (Aa1 X.K):=by
 rw[2,x,vs,v,us,Q,I,rx,rv,h];erw[h,sep,p,l,rfl,rfl,hp,hz,q];erw[rx,t,rfl];erw[rv.one,u,rfl,ru];rw[ru,0];erw[I.tuple hp,its,r,pl,hl];erw[Ww r,ps,rfl,e2];let Z:tooLong ((ps.map (·.1)).toArray.foldl (·+ ·.length+↑sep) 0)=false:=by
  rw[e2];have:=FD sep l;rw[this];unfold tooLong;refine ud ?_;rw[uB];omega
 refine vP F.slot_str_join (vY _ _ _) F.entry_str_join (F.args_str_join_2 _ _) (meets_str_join_tuple sep t p ps Z) ⟨(let⟨o,h1,h2,n,h3⟩:=pl;(o,n,h1,h2,h3)),?_⟩;let U:(glued sep (ps.map (·.1))).length<=sizeLine:=Fn Z
 match ps,e2,U with
 | [],e2,U=>
  subst e2;exact(U,.str _,H,I.tok _,⟨0⟩,q)
 | [a],e2,_=>
  subst e2;exact(.str _,H,I,[a.2:1],q)
 |a::b::r,e2,U=>
  subst e2;rw[_,U,.str _,H,I.tok _,⟨0⟩];rw[R9];exact q
def AaT:SlR X (λx lo hi H Q=>AdR x lo hi H Q\/Acs X.K x lo hi H Q):=AaS.or Yj
end
end L2
namespace L2
open PySem PySem.Spec PyProof.Rows
open Builtin.Int (intBits)
section
variable {X:Cx}
inductive Aev (K:PySem.W.Frag)(w:World)(x:V)(y:V)(H:Hp)(Q:VK):Prop
 |mk (z:_)(a:_)(r:_)(_:x= !z)(_:y=-a)(_:IJ K w a)(_:PySem.W.nsIn K a z=u_ r)(_:Q (.bl r.isSome) H)
def Abf:OpR X (Vm .In) (Aev X.K X.w):=by
 rw[2,x,y,v,u,Q,I,Z,ry,h];erw[h,z,a,r,rfl,rfl,[hs,es,n,U,hk],hn,q];erw[Z,t,rfl];rw[ry,0];let hm:=PySem.W.mapOf_K (prog:=X.prog) (w:=X.w) I.kIn U hk;refine Rc (tK X.prog X.w z t) hs hm (.bl r.isSome,H,I.tok _,?_,q);rw[PySem.W.find_K U hn]
 rfl
end
end L2
namespace AwZ
open PySem PySem.Spec PyProof.Rows
def tc_enum0 (a:o6):FJ "enumerate" [[a]:[]]=pure Unit.unit:=by kernel_rfl
def nc_enum0 (a:o6):Hz "enumerate.__new__" [[.type "enumerate",a]:[]]=pure Unit.unit:=by kernel_rfl
set_option tactic.hygienic true in
def enum0_made (l:o3)(its:Array o6):GR (g_.«enumerate.__new__» [[.type "enumerate",-l]:[]]) (λ_ R s=>s.heap.IsTuple l its/\
   R (.ok (.ret (.ref (q1 s.heap l).objs.size))) {s with heap:=(q1 s.heap l).push {cls:= .type "enumerate",data:= .fields #[.none,.bool Vd,.ref #[0,s],VI 0,.none,.none]}}):=
 .of_wp λprog w A R s h=>by
  erw[s,U,g,d,tk,os];erw[h,Z,h];let sub:=sub_enumerate;let h1:p7 (TD (U,g,d,tk,os)) l its:=Z
  wp_walk
  refine wpAny_stack_any λst=>uC ?_;split
  .rename_i c _ _ _ _ _
   rw[c==GC "enumerate",0]
   .wp_walk using U6 h1
    exact[0:h]
   .wp_walk using U6 h1
    exact[0:h]
  .wp_walk using U6 h1
   exact[0:h]
end AwZ
namespace L2
open PySem PySem.Spec PyProof.Rows
section
variable {X:Cx}{ot:oj (o3×Obj)}{σ:St}{H:Hp}{s:o7}
abbrev AeF (K:o0)(te:TE):TI:=λσ H R=>te σ H λx H2=>∃a xs,x= .ref a/\SqT K H2 a xs/\(↑xs<=Vg->R (Ite K a 0) H2)
def Bv {Z:oj Expr}{c:Nat}{tp p pos:Pos}{e:Expr}{te:TE}(hg:Gl X "enumerate")(hm:X.mg "enumerate"=U_)(he:PE X e te)(hs:Vi [e] X.env= [(Vd,eval e X.env)]):
  PI X (.Tuple Z c tp) (.Call (.Name "enumerate" p) [e] [] pos) (AeF X.K te):=by
 rw[2,R,I,h];let ha:PA X [e] (IU te Aaz):=qb he qd hs;refine HF (ZQ I hg hm boot_enumerate (vy (thn (ha pos ot s σ H (λvs H2=>match vs with| [x]=>∃a xs,x= .ref a/\SqT X.K H2 a xs/\(↑xs<=Vg->R (Ite X.K a 0) H2)|_=>False) I h) λus s2 zq=>?_) (by rw[hs];rfl) ()));erw[zq,vs,H2,I2,r1,q1]
 match vs,r1,q1 with
 | [x],r1,q1=>
 erw[q1,a,xs,rfl,hA,q];erw[xn r1,u,rfl,ru];rw[ru,0];erw[I2.tuple hA,its,ra,pa,za];refine AwZ.new_kw (kw:= []) F.called_enumerate () (AwZ.tc_enum0 _) (AwZ.nc_enum0 _) (λobj=>F.args_object_init_2 _ _) F.entry_enumerate_new (AwZ.enum0_made a its.toArray) ⟨show s2.heap.IsTuple a its.toArray from pa,?_⟩
 let hz:(AwZ.q1 s2.heap a).objs.size=#[0,s2]+1:=vn ..;let U:VX ((AwZ.q1 s2.heap a).push {cls:= .type "enumerate",data:= .fields #[.none,.bool Vd,.ref #[0,s2],VI 0,.none,.none]}) (AwZ.q1 s2.heap a).objs.size #[0,s2] 0 .none:=uD _ rfl;rw[_,[_:U:1]];refine Fe (s:={s2 with heap:=_}) U ?_
 rw[_,_,[(AwZ.q1 s2.heap a).objs.size,#[0,s2]],_,_,H2,1,I2.kept (t':=s2.toks) (λb o e=>u9 _ (u9 _ e)),Da a _ _ 0,[[.none:U]:(_,u9 _ (uD _ rfl),1,1):λe=>U5 (V9 _) (hz.symm.trans e)],λx hx=>?_,q za];let aa:#[0,s2]<=x:=by
  simp![uF,uX,uR] at hx;exact Aap hz hx
 exact I2.fpOk aa (I2.hok.fresh aa)
end
section
variable {X:Cx}
inductive Aa4 (g:Bool->Bool)(x:V)(y:V)(H:Hp)(Q:VK):Prop
 |mk (ds es:List D)(_:Is H (¬ds) x)(_:Is H (¬es) y)(_:nL ds=v_)(_:nL es=v_)(_:dpL ds<=60)(_:Q (.bl (g (AJ ds es))) H)
def Xp (Z:X.A.units+64<Vn):OpR X (Vm .Eq) (Aa4 id):=by
 rw[2,x,y,v,u,Q,I,rx,ry,h];erw[h,ds,es,h1,h2,hn,U,hd,q,<-(Acr I h1 h2 hn U hd rx ry Z).1 X.prog X.w X.xe _ (.bl _,H,I,1,q)]
def Wu (Z:X.A.units+64<Vn):OpR X (Vm .NotEq) (Aa4 not):=by
 rw[2,x,y,v,u,Q,I,rx,ry,h];erw[h,ds,es,h1,h2,hn,U,hd,q,<-(Acr I h1 h2 hn U hd rx ry Z).2 X.prog X.w X.xe _ (.bl _,H,I,1,q)]
end
end L2
namespace L2
open PySem PyProof.Rows
section
variable {X:Cx}{ot:oj (o3×Obj)}{σ:St}{H:Hp}{s:o7}
def L8 {pl:Sem Bool}{k:Nat}{C f:o3}{fd:Vh}{ps:oj Str}{sp:Sp}{m:Str}{o:Expr}{apos pos:Pos}{e:Expr}{es:oj Expr}{ta:TE}{t:TA}{Q:VK}{E:XK}(he:PE X.nox o ta)(c:Cls X.K C)(hm:Aaj X.K C m f)(F:FnOk X.prog X.w X.K X.mg X.base (CX1 X.prog X.w) k f fd ps sp)(hr:mC k X.A)
  (hb:XJ X.K fd ps []) (ha:PA X.nox (e::es) t) (I:#[I]) (h:ta σ H λx H1=>∃a dx fs,x= .ref a/\H1 a=u_ (.ins C dx fs)/\fs.lookup m=U_/\t σ H1 λvs H2=>sp (x::vs) H2 Q E)
  (aa:Vi (e::es) X.env=(Vd,eval e X.env)::Vi es X.env) (ac:(Vp pos (Vi es X.env)).any (·.1)=Vd)
  (ht:eval (.Call (.Attribute o m apos) (e::es) [] pos) X.env=(do
   let ov<-eval o X.env
   GG apos.atName
   let(f,first)<-VW [ov] (GV ov m pl)
   Hi pos f first (Vp pos (Vi (e::es) X.env)) (Gj pos (Gf [] X.env)))):
  Ve #[X,X] X.A (eval (.Call (.Attribute o m apos) (e::es) [] pos) X.env) (EP X ot σ Q) (Cat X ot σ E) s:=by
 refine PySem.W.methodCall_KW (pl:=pl) (vz (he ot s σ H _ (I.wish _) h) (λu s1 h1=>?_) λ_ _ z=>z.elim) ht;erw[h1,x,H1,ad,rx,a,dx,fs,ex,ea,l,q];let I1:Inv X ot σ H1 s1:=ad.unwish;subst ex;obtain rfl:u=Vj a:=rx;refine ZI I1 ea c hm l ?_;refine Ur (first:= [-a]) (h₀:=X.base) I.ok.mod.kin hm.kp (vz (ha pos ot s1 σ H1 _ (I1.wish _) q) (λus s2 h2=>?_) λ_ _ z=>z.elim) aa ac;erw[h2,vs,H2,ae,r,q2];let U:Inv X ot σ H2 s2:=ae.unwish;rw[_,U.kIn];let r2:iE (V.ref a::vs) (Vj a::us):= .cons rfl r;let hl:↑(Vj a::us)=↑ps:=by rw[<-↑r2];exact F.len _ _ _ _ q2
 let Z:=hb s2 (Vj a::us) U.kIn (by rwa[vH])
 rw[vH] at Z;refine Hc (Uw (F.run X.A X.stack s2 H2 [Vj a::us:[]] (Vj a::us) (V.ref a::vs) Q E hr U.env0 Z r2 q2 (.inl U.tk)) λr s' hq=>?_);cases r with
 |error e=>exact(H2,s2,U,hq)|ok fl=>
  cases fl with
  |ret u=>exact U.after hq|next=>exact Vw hq|brk=>exact Vw hq|cont=>exact Vw hq
abbrev AcF (C:o3)(m:Str)(sp:Sp)(ta:TE)(t:TA)(Cc:o3)(ts:TS):TS:=λD σ H=>ta σ H λx H1=>∃a dx fs,x= .ref a/\H1 a=u_ (.ins C dx fs)/\fs.lookup m=U_/\t σ H1 λvs H2=>sp (x::vs) H2 (λ_ H3=>D.nx σ H3) (λ_ C' H3=>C'=u_ Cc/\ts D σ H3)
def OV {pl:Sem Bool}{k:Nat}{C f:o3}{fd:Vh}{ps:oj Str}{sp:Sp}{m c:Str}{o:Expr}{apos np cpos Z aa pos:Pos}{e:Expr}{es:oj Expr}{ta:TE}{t:TA}{Cc C':o3}{b₀:Stmt}{U:oj Stmt}{ts:TS}(ho:PE X.nox o ta)(cl:Cls X.K C)(hm:Aaj X.K C m f)(F:FnOk X.prog X.w X.K X.mg X.base (CX1 X.prog X.w) k f fd ps sp)(hr:mC k X.A)
  (hb:XJ X.K fd ps []) (ha:PA X.nox (e::es) t) (ac:X.stack=X.env::X.outer/\X.env.frame=u_ X.env.locals) (ad:Gl X c) (ae:X.mg c=u_ (-C'))
  (hx:PySem.W.exmOne X.K (-Cc) (-C')=u_ v_) (hs:∀ee xe,PSs (X.marked ee xe) (b₀::U) ts) (af:(c==("__debug__":Str))=Vd)
  (he:Vi (e::es) X.env=(Vd,eval e X.env)::Vi es X.env) (ag:(Vp cpos (Vi es X.env)).any (·.1)=Vd) (ah:h_ (.Call (.Attribute o m apos) (e::es) [] cpos) U_ Z.line X.env=pure Vd)
  (ht:eval (.Call (.Attribute o m apos) (e::es) [] cpos) X.env=(do
   let ov<-eval o X.env
   GG apos.atName
   let(f,first)<-VW [ov] (GV ov m pl)
   Hi cpos f first (Vp cpos (Vi (e::es) X.env)) (Gj cpos (Gf [] X.env)))):
  PS X (.Try [.Expr (.Call (.Attribute o m apos) (e::es) [] cpos) Z] [.ExceptHandler (u_ (.Name c np)) U_ (b₀::U) aa] [] [] pos) (AcF C m sp ta t Cc ts):=by
 rw[2,D,I,h];refine wpAny_Try_except (tZ ?_);refine vz (Rs (Q:=SP X ot D) (vz (L8 ho cl hm F hr hb ha I h he ag ht) (λv s1 ⟨y,H1,I1,r1,q1⟩=>(σ,H1,I1,q1)) λ_ _ z=>z) I.quiet ah) (λfl s1 q=>?_) λe' s1 q=>Mx q ac ad ae hx hs af;cases fl with
 |next=>exact Uv (Uv q)|ret v=>exact q|brk=>exact q|cont=>exact q
end
end L2
namespace L2
open PySem PySem.Spec PyProof.Rows
structure FF (K:o0)(mg:Str->om o6)(x:Str)(st:Stmt)(ps:oj Str)(f:o3)(fd:Vh):Prop where
 F:Fun K x x st f fd
 b:XJ K fd ps []
 m:mg x=u_ (-f)
structure FM (K:o0)(C:o3)(x q:Str)(st:Stmt)(ps:oj Str)(f:o3)(fd:Vh):Prop where
 F:Fun K x q st f fd
 b:XJ K fd ps []
 h:Aaj K C x f
abbrev FZ (K:o0)(x q:Str)(st:Stmt)(f:o3):Prop:=∃(oc kV dc pm cd ct:o6) (od an:om o3) (sl:Array (om o6)),K.lookup f=u_ (oc,od,.func (PySem.W.fnOf x q (jf st) (Yg st) (qj st) .none kV dc pm an cd ct),sl)/\PySem.W.codeIn K cd q=v_/\PySem.W.keepIn K (-f)=v_
abbrev FZg (K:o0)(x:Str)(st:Stmt)(f:o3):Prop:=PySem.W.nsIn K VA x=u_ (u_ (-f))/\FZ K x x st f
abbrev FZm (K:o0)(C:o3)(x q:Str)(st:Stmt)(f:o3):Prop:=PySem.W.findIn K (-C) x=u_ (u_ (-f))/\PySem.W.isFn K (-f)=v_/\FZ K x q st f
abbrev BOk (x q:Str)(st:Stmt)(ps:oj Str):Prop:=∀(kV doc pm:o6) (an:om o3) (cdv ct:o6) (us:oj o6),↑us=↑ps->Gn (PySem.W.fnOf x q (jf st) (Yg st) (qj st) .none kV doc pm an cdv ct) [us:[]]=pure (ps.zip us)
variable {K:o0}{h:o8}{mg:Str->om o6}{x:Str}{st:Stmt}{f:o3}
def Qf (X:K.In h)(G:h.Ns VA mg)(z:FZg K x st f)(ps:oj Str)(U:BOk x x st ps):∃fd,FF K mg x st ps f fd:=by
 erw[z,a,oc,kV,dc,pm,Z,ct,od,an,sl,l,c,k];let F:=Nu (st:=st) l c k;exact(_,F,F.binds U,uS X G a)
variable {C:o3}
def Ya {q:Str}(z:FZm K C x q st f)(ps:oj Str)(U:BOk x q st ps):∃fd,FM K C x q st ps f fd:=by
 erw[z,a,i,oc,kV,dc,pm,Z,ct,od,an,sl,l,c,k];let F:=Nu (st:=st) l c k;exact(_,F,F.binds U,[a:i:k])
variable {fd:Vh}
def FF.law {ps:oj Str}(T:FF K mg x st ps f fd){y:Str}(h:∀(kV doc pm:o6) (an:om o3) (cdv ct u:o6),Gn (PySem.W.fnOf x x (jf st) (Yg st) (qj st) .none kV doc pm an cdv ct) [[u]:[]]=pure [(y,u)])(s:o7)(u:o6):GQ s fd [[u]:[]] [(y,u)]:=by
 erw[T.F.ex,oc,od,kV,doc,pm,an,cdv,ct,osl,rfl,lk,U,<-.of_eq (h kV doc pm an cdv ct u)]
abbrev txt? (u:o6):om Str:=match u with
 | .str z _=>u_ z|_=>U_
abbrev TZ (K:o0)(q:o3)(l:oj Str):Prop:=∃(d:om o3) (i:Array o6) (n:Nat) (sl:Array (om o6)),K.lookup q=u_ (.type "tuple",d,.seq i n,sl)/\i.toList.map txt? =l.map u_
def Df:∀{l:oj Str}{us:oj o6},us.map txt? =l.map u_->iE (l.map V.str) us
 | [],[],_=> .nil|z::l,u::us,h=>by
  rw[uA,uA] at h;injection h with h1 h2
  cases u with
  |str y t=>
   have:y=z:=uL h1;subst this;exact .cons [t:1] (Df h2)
  |_=>rw[h1,0]
 | [],_::_,h=>by simp at h|_::_,[],h=>by simp at h
variable {H:Hp}{q:o3}{l:oj Str}
def TZ.sq (h:TZ K q l)(hz:↑l<=100):SqT K H q (l.map V.str):=by
 erw[h,d,its,n,sl,Z,e];let U:its.size=↑l:=by rw[<-vo];simpa using Aa Gm e
 exact .inr (_,its,n,Z,1,1,by rw[U];exact Ui (zf ()),Df e)
abbrev TZn (K:o0)(a:o3)(x:Str)(l:oj Str):Prop:=∃q,PySem.W.nsIn K a x=u_ (u_ (-q))/\TZ K q l
end L2
namespace L2
open PySem PyProof.Rows
variable {σ:St}{H:Hp}
def qw {t u:TS}{D:nh}(h:∀N:St->Hp->Prop,(∀U H',u D U H'->N U H')->t {D with nx:=N} σ H):nA t u D σ H:=h (u D) λ_ _ h=>h
end L2
namespace L2
open PySem PySem.Spec PyProof.Rows
section
variable {X:Cx}
inductive Aex (K:PySem.W.Frag)(x:V)(y:V)(H:Hp)(Q:VK):Prop
 |mk (a b:Addr)(xs:List V)(_:x=-a)(_:y=-b)(_:SqL K H a xs)(_:SqL K H b [])(_:Q (.bl (decide (xs= []))) H)
def Abh (hu:X.A.units<Vn):OpR X (Vm .Eq) (Aex X.K):=by
 rw[2,x,y,v,u,Q,I,rx,ry,h];erw[h,a,b,xs,rfl,rfl,ha,hb,q];rw[rx,0];rw[ry,0];erw[I.list ha,its,rv,pl,_];erw[I.list hb,its',Z,U,_];rw[Z,0];cases xs with
 |nil=>
  rw[rv,0];exact pS (e:=λ_=>v_) pl.isList U.isList rfl hu (λj h1 h2=>by simp at h1) X.prog X.w X.xe _ (.bl v_,H,I,1,by simpa using q)
 |cons x xs=>
  cases rv with
  |cons r1 r2=>exact Pl pl.isList U.isList (by simp) hu X.prog X.w X.xe _ (.bl Vd,H,I,1,by simpa using q)
end
end L2
namespace L2
open PySem PyProof.Rows
def WC {xs:oj V}{us:oj o6}(r:iE xs us):∀is:oj Nat,iE (is.filterMap (xs[·]?)) (is.filterMap (us[·]?))
 | []=> .nil|i::is=>by
  rw[U0,U0];let U:=↑r;cases e:xs[i]? with
  |none=>
   have:us[i]? =none:=rf (by have:=List.getElem?_eq_none_iff.mp e;omega)
   rw[this];exact WC r is
  |some x=>
   erw[r.get e,u,e2,g];rw[e2];exact .cons g (WC r is)
section
variable {X:Cx}
inductive Adz (K:PySem.W.Frag)(Q:VK)(x:V)(H2:Hp):Prop
 |mk (a:_)(xs:_)(_:x=-a)(_:SqL K H2 a xs)(_:∀ys p,↑ys<=↑xs->(∀y>ys,y>xs)->H2 p=U_->Q (-p) (upd H2 p (.lst ys)))
abbrev Aed (K:o0)(te:TE)(tl:TO):TE:=λσ H Q=>te σ H λx H1=>tl σ H1 λ_ H2=>Adz K Q x H2
def Lv {e:Expr}{te:TE}{lo:om Expr}{tl:TO}{k:Int}{j pos p1 p2}(hk:k≠0)(he:PE X e te)(hl:PO X lo tl)(Z:Ho (.Slice lo U_ (u_ (.Constant (.int k) j p1)) p2) Vd=λv u=>HH [v,u] (VO v u)):PE X (.Subscript e (.Slice lo U_ (u_ (.Constant (.int k) j p1)) p2) pos) (Aed X.K te tl):=by
 rw[2,Q,I,h];refine tD (thn (he ot s σ H _ I h) λv s1 zq=>?_);erw[zq,x,H1,I1,r1,q1];refine Fi (thn (hl ot s1 σ H1 _ I1 q1) λvl s2 zq=>?_);erw[zq,lv,H2,I2,pl,q2];rw[tO];refine uC ?_;rw[RV];refine thn (qh (i:=k) ot s2 σ H2 (λy H3=>y= .int k/\H3=H2) I2 [1:1]) λu U h3=>?_;erw[h3,y,H3,I3,r3,rfl,rfl];erw[r3,tk,rfl];erw[q2,a,xs,rfl,hH,q];rw[r1,0];let I4:Inv X ot σ H3 {U with heap:=U.heap.push {cls:= .type "slice",data:= .fields #[vl,.none,.int k tk]}}:=I3.kept (t':=U.toks) λb ob q=>u9 _ q
 erw[I4.list hH,its,r,aa,hz];let ac:its.toArray.size=↑xs:=by rw[ur];exact r.length.symm
 show Ve #[X,X] X.A (HX e (.Slice lo U_ (u_ (.Constant (.int k) j p1)) p2) (-a) (.ref #[0,U])) (EP X ot σ Q) X.xe {U with heap:=U.heap.push {cls:= .type "slice",data:= .fields #[vl,.none,.int k tk]}}
 refine Hx (ops:= [-a,.ref #[0,U]]) aa.isList.typeIs slot_list_getitem.lookup ?_ (by rw[Z])
 refine Re (st:=u_ k) aa.isList (rK ..) pl .none (.int k tk) (by simpa using hk) ?_ (by rwa[ac])
 let hsz:=slicePick_size_le its.toArray lv U_ (u_ k);unfold TX at hsz⊢;generalize sliceRange (gV lv U_ (u_ k) its.toArray.size).1 (gV lv U_ (u_ k) its.toArray.size).2.1 (gV lv U_ (u_ k) its.toArray.size).2.2=is at hsz⊢;let ep:is.filterMap (its.toArray[·]?)=is.filterMap (its[·]?):=by simp
 rw[ep] at hsz⊢;let vp:=WC r is;let ad:(is.filterMap (xs[·]?)).length<=↑xs:=by
  rw[↑vp];rwa[ur,ur,<-↑r] at hsz
 rw[_,.ref _,_,I4.laid (t':=U.toks) (o:= .lst (is.filterMap (xs[·]?))) (λb ob q=>u9 _ q) (uh _) (uY ad hz,_,(0),vp,uD _ rfl),1,q _ _ ad (λy hy=>?_) (I4.hok.fresh (uh _))];erw[List.mem_filterMap.mp hy,i,_,hi,<-uW hi]
end
end L2
namespace L2
open PySem PySem.Spec PyProof.Rows
section
variable {X:Cx}{ot:oj (o3×Obj)}{σ:St}{H:Hp}{s:o7}{d:o3}
def Dc {prog:o9}{w:og}{A:oh}{E:o6->o7->Prop}{r:o3}{Q:o6->o7->Prop}{G:oj o6->o7->Prop}(aa:s.TypeIs (-r) "dict")
  (Z:∀(R:oj o6->o7->Prop) (E':o6->o7->Prop),(∀vs s',G vs s'->R vs s')->Ve #[w,w] A.in1.in1 (collect (-r)) R E' s)
  (hQ:∀vs s',G vs s'->↑vs<=Vg/\Q (.ref #[0,s']) {s' with heap:=s'.heap.push {cls:= .type "tuple",data:= .seq vs.toArray}}):
  Ve #[w,w] A (call (.type "tuple") [-r]) Q E s:=by
 let new:VL #[w,w] A.in1 (.call (.builtin "tuple.__new__") ⟨[.type "tuple",-r],[]⟩) (HK (λobj U=>U.TypeIs obj "tuple"/\Q obj U) E) s:=by
  refine To ?_;show Ve _ A.in1.in1 (do Hz "tuple.__new__" [[.type "tuple",-r]:[]];again (.builtin "tuple.__new__" [[.type "tuple",-r]:[]])) _ _ s
  refine A7 (Hj (PySem.F.newCall_tuple_1 _) (uC [Hv Uk _:UZ PySem.F.entry_tuple_new ?_]));rw[UL Uk _];let s1:=RD;let s2:=FY;let s3:=FI
  wp_walk using Gk aa,Z
  intro vs s' hg;erw[hQ vs s' hg,hl,hq];show Ve _ _ (Gr vs.toArray>>=λv=>ret v) _ _ _;unfold Gr;refine A7 (vv ?_ (by show vs.toArray.size<=Vg;simpa using hl))
  exact uC [[_:uD _ rfl:1]:hq]
 refine Ti (Q₁:=λobj U=>U.TypeIs obj "tuple"/\Q obj U) PySem.F.called_tuple (PySem.F.typeCall_tuple_1 _) PySem.F.entry_object_init new λobj U h₁=>?_;exact[h₁.1:PySem.F.args_object_init_2 obj _:re PySem.F.called_tuple.init.lookup PySem.F.called_tuple.made () prog w A.in1 _ U [h₁.1:1:h₁.2]]
end
section
variable {X:Cx}
def AR (hc:X.calm=v_):jg X (.type "tuple") (λxs H Q=>∃(d:o3) (kvs:oj (Key×V)),xs= [-d]/\Rd H d (.dK kvs)/\∀t,H t=U_->Q (-t) (upd H t (.tup (kvs.map λp=>kV p.1)))):=by
 rw[2,xs,us,Q,I,r,h];erw[h,d,kvs,rfl,hd,q];erw[xn r,u,rfl,ru];rw[ru,0];erw[Zl I.hok hd,hz,lo,vs,aa,dd];erw[id dd,o,es,ep,ho];let ad:s.heap.DictAt (Qg X.prog X.w) d vs ep:=[o:es:ho];refine vf (n:=1) I.tk ?_;refine Dc (G:=λus s'=>∃(h':o8) (tk:Nat) (U:Array o6),us=U.toList/\s'={s with heap:=h',toks:=tk}/\(∀b o,s.heap.get? b=u_ o->h'.get? b=u_ o)/\ItemsOf (λi v=>∃k x,vs[i]? =u_ (k,x)/\(Qg X.prog X.w).is k v=v_) U ↑vs) dd.typeIs
  (λR E' k=>PySem.W.kdu_collect (A:=X.A.in1.in1) (PySem.W.kdl_dict lo) (I.ok.hd hc) ad (by rwa[<-↑aa]) λh' tk U ac Z=>k _ _ (h',tk,U,1,1,ac,Z)) ?_
 rintro us s' ⟨h',tk,U,rfl,rfl,ac,Z⟩;let ae:↑U.toList=↑vs:=by rw[vo,Z.1]
 let af:=↑aa;rw[_,(),λhtk=>?_]
 let I':Inv X ot σ H {s with heap:=h',toks:=tk}:=I.kept ac htk
 let hv:iE (kvs.map λp=>kV p.1) U.toList:=by
  refine KO (by rw[u7];omega) λj x v hx hv=>?_
  rw[uH] at hx;cases hj:kvs[j]? with
  |none=>rw[hj,0] at hx|some p=>
   rw[hj,0] at hx;obtain⟨k,y,e1,e2⟩:=Z.2 j v (by rwa[<-Uz])
   let e3:=(WI aa hj e1).1;show il (kV p.1) v;rw[e3];exact EG e2
 refine(-h'.objs.size,_,I'.laid (t':=tk) (o:= .tup (kvs.map λp=>kV p.1)) (λb u w=>u9 _ w) (uh _) (by rwa[u7],U.toList,hv,(_,uD _ rfl,1,0)) htk,1,q _ (I'.hok.fresh (uh _)))
end
section
variable {x q:Str}{st:Stmt}{a b c d:Str}
def bo1 (h:∀(kV doc pm:o6) (an:om o3) (cdv ct u:o6),Gn (PySem.W.fnOf x q (jf st) (Yg st) (qj st) .none kV doc pm an cdv ct) [[u]:[]]=pure [(a,u)]):BOk x q st [a]:=by
 intro k1 k2 k3 Z k5 k6 us U;rcases us with _|⟨u,_|⟨_,_⟩⟩
 .rw[U,0]
 .exact h k1 k2 k3 Z k5 k6 u
 .rw[U,0]
def bo2 (h:∀(kV doc pm:o6) (an:om o3) (cdv ct u v:o6),Gn (PySem.W.fnOf x q (jf st) (Yg st) (qj st) .none kV doc pm an cdv ct) [[u,v]:[]]=pure [(a,u),(b,v)]):BOk x q st [a,b]:=by
 intro k1 k2 k3 Z k5 k6 us U;rcases us with _|⟨u,_|⟨v,_|⟨_,_⟩⟩⟩
 .rw[U,0]
 .rw[U,0]
 .exact h k1 k2 k3 Z k5 k6 u v
 .rw[U,0]
def bo3 (h:∀(kV doc pm:o6) (an:om o3) (cdv ct u v w:o6),Gn (PySem.W.fnOf x q (jf st) (Yg st) (qj st) .none kV doc pm an cdv ct) [[u,v,w]:[]]=pure [(a,u),(b,v),(c,w)]):BOk x q st [a,b,c]:=by
 intro k1 k2 k3 Z k5 k6 us U;rcases us with _|⟨u,_|⟨v,_|⟨w,_|⟨_,_⟩⟩⟩⟩
 .rw[U,0]
 .rw[U,0]
 .rw[U,0]
 .exact h k1 k2 k3 Z k5 k6 u v w
 .rw[U,0]
def bo4 (h:∀(kV doc pm:o6) (an:om o3) (cdv ct u v w z:o6),Gn (PySem.W.fnOf x q (jf st) (Yg st) (qj st) .none kV doc pm an cdv ct) [[u,v,w,z]:[]]=pure [(a,u),(b,v),(c,w),(d,z)]):BOk x q st [a,b,c,d]:=by
 intro k1 k2 k3 Z k5 k6 us U;rcases us with _|⟨u,_|⟨v,_|⟨w,_|⟨z,_|⟨_,_⟩⟩⟩⟩⟩
 .rw[U,0]
 .rw[U,0]
 .rw[U,0]
 .rw[U,0]
 .exact h k1 k2 k3 Z k5 k6 u v w z
 .rw[U,0]
end
end L2
namespace L2
open PySem PyProof.Rows
abbrev cl {α β:Type}(t:α->β->TS)(a:α)(b:β):TS:=t a b
section
variable {α β:Type}{t u:α->β->TS}{c:α->β->TT}{wi:α->β->TI}{g:α->β->TG}{a:α}{b:β}{D:nh}{σ:St}{H:Hp}
def cl_i (h:let S:St:=σ;let D1:nh:=D;cl t a b D1 S H):t a b D σ H:=h
def seq_oC (h:let S:St:=σ;let D1:nh:=D;∀N:St->Hp->Prop,(∀U H',cl u a b D1 U H'->N U H')->let E:nh:={D1 with nx:=N};cl t a b E S H):cl (λx y=>nA (t x y) (u x y)) a b D σ H:=h (u a b D) λ_ _ h=>h
def seq_0 (h:let S:St:=σ;let D1:nh:=D;let E:nh:={D1 with nx:=cl u a b D1};cl t a b E S H):cl (λx y=>nA (t x y) (u x y)) a b D σ H:=h
def if_C (h:let S:St:=σ;let D1:nh:=D;c a b S H λk H1=>if k=v_ then cl t a b D1 S H1 else cl u a b D1 S H1):cl (λx y=>AdN (c x y) (t x y) (u x y)) a b D σ H:=h
def while_C (h:let S:St:=σ;let D1:nh:=D;∃W:Nat->St->Hp->Prop,(∃m,W m S H)/\∀m σ H,W m σ H->
 c a b σ H λk H1=>if k=v_ then∃N:St->Hp->Prop,(∀U H',N U H'->∃Z,Z<m/\W Z U H')/\cl t a b {D1 with nx:=N,ct:=N,bk:=D1.nx} σ H1 else D1.nx σ H1):cl (λx y=>ML (c x y) (t x y)) a b D σ H:=h
def for_C (h:let S:St:=σ;let D1:nh:=D;wi a b S H λJ H1=>∃W:Nat->Nat->St->Hp->Prop,(∃m,W 0 m S H1)/\∀i m σ H,W i m σ H->
 (J.stop i H/\D1.nx σ H)\/(J.go i H/\∃N:St->Hp->Prop,(∀U H',N U H'->∃Z,Z<m/\W (i+1) Z U H')/\∀x H',J.yld i H x H'->g a b x σ H' λσ2 H2=>cl t a b {D1 with nx:=N,ct:=N,bk:=D1.nx} σ2 H2)):cl (λx y=>AdO (wi x y) (g x y) (t x y)) a b D σ H:=h
end
end L2
namespace L2
open PySem PySem.Spec PySem.W PyProof.Rows
variable {i:Nat}{v:V}{σ:St}{H:Hp}
def gN_ {Q:St->Hp->Prop}(h:Q (σ.set i (u_ v)) H):YG i v σ H Q:=h
end L2
namespace L2
open PySem PySem.Spec PySem.W PySem.Calls PyProof.Rows
section
variable {X:Cx}{ot:oj (o3×Obj)}{σ:St}{H:Hp}{s:o7}{a:o3}{kvs:oj (Key×V)}{k:Key}{u r:o6}{v:V}{A:oh}{E:o6->o7->Prop}
def Mw {Q:o6->o7->Prop}(I:#[I])(e:H a=u_ (.dK kvs))(ry:il (kV k) u)(rv:il v r)(hl:↑kvs<Vg)(h1:∀U w' s',iP kvs k=u_ U->Inv X ot σ H s'->il U w'->Q w' s')
  (h2:iP kvs k=U_->∀s',Inv X ot σ (upd H a (.dK (lV kvs k v))) s'->Q r s'):Ve #[X,X] A (call (.builtin "dict.setdefault") [-a,u,r]) Q E s:=by
 erw[SN I.hok e,z,hd,vs,rel,dd];refine Hd PySem.F.slot_dict_setdefault dd.typeIs PySem.F.entry_dict_setdefault (PySem.F.args_dict_setdefault_3 _ _ _) (kt_meets_setdefault (Qg X.prog X.w) a (oU ry) hd r) (vs,dd,by rwa[<-↑rel],λw' hw=>?_,λhn h' ac hs=>?_)
 .cases Z:iP kvs k with
  |none=>
   have:=nC.KR (o:=VQ vs k) (by rw[<-Z];exact rel.val k)
   rw[this,0] at hw
  |some U=>
   obtain⟨w2,aa,ad⟩:=nC.some_of (v:=U) (o:=VQ vs k) (by rw[<-Z];exact rel.val k)
   rw[aa,0] at hw;exact h1 U _ _ Z (I.tok _) ad
 .let Z:iP kvs k=none:=by
   cases Z:iP kvs k with
   |none=>rfl|some U=>
    obtain⟨w2,aa,_⟩:=nC.some_of (v:=U) (o:=VQ vs k) (by rw[<-Z];exact rel.val k)
    rw[aa,0] at hn
  let ae:↑(lV kvs k v)<=sizeLine:=by have:=yA kvs k v;omega
  let he:∃q,h'.get? a=u_ q:=let⟨q,_,_,hq,_⟩:=ac;[q:hq];exact h2 Z _ (qaw I (by rw[e];exact VH) hs he (sF ae hd (rel.put k rv) ac))
end
inductive S7 (ty tx:TE)(σ:St)(Q:VK)(x:V)(H1:Hp):Prop
 |mk (a:Addr)(_:x=-a)(_:IsD H1 a)(_:ty σ H1 λy H2=>tx σ H2 λz H3=>∃kvs k,H3 a=u_ (.dK kvs)/\y=kV k/\↑kvs<Vg/\(∀v,iP kvs k=u_ v->Q v H3)/\(iP kvs k=U_->Q z (upd H3 a (.dK (lV kvs k z)))))
abbrev AaE (td ty tx:TE):TE:=λσ H Q=>td σ H λx H1=>S7 ty tx σ Q x H1
section
variable {X:Cx}{o e f:Expr}{apos cpos:Pos}{td ty tx:TE}
def Lw (ho:PE X o td)(he:PE X e ty)(hf:PE X f tx)(m:M2 X o "setdefault" apos e f cpos):PE X (.Call (.Attribute o "setdefault" apos) [e,f] [] cpos) (AaE td ty tx):=by
 rw[2,Q,I,h];refine tS m.base m.few m.line Uj PySem.F.slot_dict_setdefault PySem.F.type_dict_setdefault (thn (ho ot s σ H _ I h) λu s1 zq=>?_);erw[zq,x,H1,I1,rx,a,ex,d,q1];subst ex;obtain rfl:u=Vj a:=rx;erw[ES I1 d,t1,t2,_];rw[_,t1,t2];rw[m.trees];refine vU rfl (Uf (U7 (thn (he ot s1 σ H1 _ I1 q1) λiv s2 ⟨y,H2,I2,ry,q2⟩=>
  U7 (thn (hf ot s2 σ H2 _ I2 q2) λfv s3 ⟨z,H3,I3,rz,kvs,k,ea,ey,hl,q3,q4⟩=>UG ?_))))
 subst ey;exact Mw I3 ea ry rz hl (λv0 w' s4 U Z aa=>(v0,H3,Z,aa,q3 v0 U)) λU s4 Z=>(z,_,Z,rz,q4 U)
end
variable {w:og}{K:o0}{mg:Str->om o6}{base:o8}{f:o3}{fd:Vh}
def FnOk.up0 {P:o9}{CX:CXT}{k:Nat}{ps:oj Str}{sp:Sp}(F:FnOk P w K mg base CX0 k f fd ps sp):FnOk P w K mg base CX k f fd ps sp:=
 ⟨F.len,λA outer s H args us vs Q E U Z hb hv h ht=>Uw (F.run A outer s H args us vs Q E U Z hb hv h ht) λr s' h=>by
  cases r with
  |ok c=>cases c<;>exact h|error e=>exact Vw h⟩
end L2
namespace K42
open PySem L2 PyProof.Rows
inductive A5 (p0 p1 p2 p3 p4:Prop):Prop
 |mk (_:p0)(_:p1)(_:p2)(_:p3)(_:p4)
inductive E3 {t0 t1 t2:Type}(p:t0->t1->t2->Prop):Prop
 |mk (x0:t0)(x1:t1)(x2:t2)(h:p x0 x1 x2)
open Builtin.Int (intBits)
abbrev top (i:Nat):Stmt:=PySem.Challenge.pw_askwright_k42_first_wrong_told.main.body.getD i (.Pass ((0),(0),(0),(0)))
nonrec abbrev W4:Stmt:=top 17
nonrec abbrev zg:Stmt:=top 18
nonrec abbrev WF:Stmt:=top 19
nonrec abbrev wT:Stmt:=top 21
nonrec abbrev Yi:Stmt:=top 22
nonrec abbrev X0:Stmt:=top 23
nonrec abbrev WK:Stmt:=top 29
nonrec abbrev XS:Stmt:=top 30
nonrec abbrev wE:Stmt:=top 31
nonrec abbrev J8:Stmt:=top 32
nonrec abbrev XE:Stmt:=top 33
nonrec abbrev zZ:Stmt:=top 34
nonrec abbrev Wx:Stmt:=top 35
nonrec abbrev XN:Stmt:=top 38
nonrec abbrev XZ:Stmt:=top 39
nonrec abbrev Xz:Stmt:=top 40
nonrec abbrev Zg:Stmt:=top 41
nonrec abbrev Zv:Stmt:=top 42
nonrec abbrev XL:Stmt:=top 43
nonrec abbrev J3:Stmt:=top 44
nonrec abbrev XB:Stmt:=top 45
nonrec abbrev Xv:Stmt:=top 46
nonrec abbrev ZK:Stmt:=top 47
nonrec abbrev XF:Stmt:=top 48
nonrec abbrev jd:Stmt:=top 50
nonrec abbrev YE:Stmt:=top 51
nonrec abbrev jC:Stmt:=Qq (top 52) 0
nonrec abbrev Jo:Stmt:=Qq (top 52) 1
nonrec abbrev YH:Stmt:=Qq (top 52) 2
nonrec abbrev Y4:Stmt:=Qq (top 52) 3
nonrec abbrev Y9:Stmt:=Qq (top 52) 6
nonrec abbrev yo:Stmt:=Qq (top 52) 7
nonrec abbrev YC:Stmt:=Qq (top 52) 8
nonrec abbrev jy:Stmt:=Qq (top 52) 9
nonrec abbrev Yk:Stmt:=top 53
nonrec abbrev DD:Stmt:=top 54
nonrec abbrev xm:Stmt:=Qq (top 56) 0
nonrec abbrev Js:Stmt:=Qq (top 56) 1
nonrec abbrev JT:Stmt:=Qq (top 56) 2
nonrec abbrev jB:Stmt:=Qq (top 56) 3
nonrec abbrev xJ:Stmt:=Qq (top 56) 4
nonrec abbrev JV:Stmt:=Qq (top 56) 5
nonrec abbrev Yb:Stmt:=Qq (top 57) 0
nonrec abbrev Q6:Stmt:=Qq (top 57) 1
nonrec abbrev Q8:Stmt:=Qq (top 57) 2
nonrec abbrev y6:Stmt:=Qq (top 57) 3
nonrec abbrev yz:Stmt:=Qq (top 57) 4
nonrec abbrev yE:Stmt:=Qq (top 57) 5
nonrec abbrev yS:Stmt:=Qq (top 57) 6
nonrec abbrev yR:Stmt:=Qq (top 57) 7
nonrec abbrev Q3:Stmt:=Qq (top 57) 8
nonrec abbrev YA:Stmt:=top 58
nonrec abbrev Wo:Stmt:=top 59
nonrec abbrev XO:Stmt:=top 60
nonrec abbrev J4:Stmt:=top 61
nonrec abbrev Jl:Stmt:=top 62
nonrec abbrev JU:Stmt:=top 63
nonrec abbrev J5:Stmt:=top 64
nonrec abbrev Ze:Stmt:=top 65
nonrec abbrev qab:Stmt:=top 66
nonrec abbrev Jh:Stmt:=top 68
nonrec abbrev JP:Stmt:=top 69
nonrec abbrev jp:Stmt:=top 70
nonrec abbrev Yc:Stmt:=top 71
nonrec abbrev Je:Stmt:=top 72
nonrec abbrev XX:Stmt:=top 73
nonrec abbrev XT:Stmt:=top 76
nonrec abbrev Yq:Stmt:=Qq (top 77) 0
nonrec abbrev Yl:Stmt:=Qq (top 77) 1
nonrec abbrev yF:Stmt:=Qq (top 77) 2
nonrec abbrev Q5:Stmt:=Qq (top 77) 3
nonrec abbrev Ja:Stmt:=top 78
nonrec abbrev Jx:Stmt:=top 80
nonrec abbrev wL:Stmt:=top 81
nonrec abbrev ZA:Stmt:=top 82
nonrec abbrev Zo:Stmt:=top 83
nonrec abbrev xM:Stmt:=top 84
nonrec abbrev xS:Stmt:=top 85
nonrec abbrev XW:Stmt:=top 86
nonrec abbrev xQ:Stmt:=top 87
nonrec abbrev JY:Stmt:=top 88
nonrec abbrev Jv:Stmt:=top 89
nonrec abbrev je:Stmt:=top 90
nonrec abbrev jD:Stmt:=top 91
nonrec abbrev ZG:Stmt:=top 92
nonrec abbrev ZC:Stmt:=top 93
nonrec abbrev Jb:Stmt:=top 94
nonrec abbrev Yd:Stmt:=top 95
nonrec abbrev yJ:Stmt:=top 96
nonrec abbrev OG:Stmt:=top 97
set_option genInjectivity false in
set_option genSizeOf false in
structure Ad where
 f_is_text:o3
 d_is_text:Vh
 f_is_tree:o3
 d_is_tree:Vh
 f_is_name:o3
 d_is_name:Vh
 f_is_pair:o3
 d_is_pair:Vh
 jT:o3
 jU:Vh
 wQ:o3
 wX:Vh
 f_part_of:o3
 d_part_of:Vh
 Wr:o3
 W7:Vh
 f_row_of:o3
 d_row_of:Vh
 wf:o3
 ZO:Vh
 WS:o3
 wR:Vh
 kO:o3
 ku:Vh
 f_is_rule:o3
 d_is_rule:Vh
 XY:o3
 WA:Vh
 XI:o3
 Wb:Vh
 XM:o3
 Wf:Vh
 Zt:o3
 Kr:Vh
 Zi:o3
 kA:Vh
 Xt:o3
 WO:Vh
 xf:o3
 ZP:Vh
 XQ:o3
 WV:Vh
 XA:o3
 Wp:Vh
 Za:o3
 KF:Vh
 XG:o3
 Wg:Vh
 xk:o3
 xG:Vh
 JH:o3
 JC:Vh
 jA:o3
 Xr:Vh
 zu:o3
 zi:Vh
 YB:o3
 YF:Vh
 J1:o3
 xr:Vh
 xv:o3
 JQ:Vh
 YK:o3
 YL:Vh
 JG:o3
 Jz:Vh
 Xd:o3
 Xk:Vh
 j8:o3
 jZ:Vh
 f_does:o3
 d_does:Vh
 xp:o3
 Z3:Vh
 ze:o3
 zV:Vh
 wm:o3
 ZM:Vh
 Xq:o3
 Xl:Vh
 Z6:o3
 ZL:Vh
 ZU:o3
 Z0:Vh
 y8:o3
 j3:Vh
 yZ:o3
 yU:Vh
 yT:o3
 yK:Vh
 jo:o3
 jl:Vh
 ja:o3
 YX:Vh
 Y0:o3
 YV:Vh
 ju:o3
 jw:Vh
 jr:o3
 js:Vh
 yI:o3
 yV:Vh
 JD:o3
 JF:Vh
 f_has_run:o3
 d_has_run:Vh
 WE:o3
 WW:Vh
 Z5:o3
 wc:Vh
 X6:o3
 zm:Vh
 Z1:o3
 Z4:Vh
 wn:o3
 wb:Vh
 Ko:o3
 k9:Vh
 f_met_by:o3
 d_met_by:Vh
 zO:o3
 zX:Vh
 Z2:o3
 wj:Vh
 ZS:o3
 wp:Vh
 jL:o3
 jQ:Vh
 zK:o3
 zI:Vh
 WB:o3
 W5:Vh
 W0:o3
 WD:Vh
 jF:o3
 Xj:Vh
 jS:o3
 jO:Vh
 YW:o3
 Y6:Vh
 Y1:o3
 jc:Vh
 zP:o3
 zW:Vh
 zd:o3
 zL:Vh
 f_law_pot:o3
 d_law_pot:Vh
 KK:o3
 Km:Vh
 kQ:o3
 Kb:Vh
 kH:o3
 Kt:Vh
 kG:o3
 kS:Vh
 WP:o3
 Wc:Vh
 Kj:o3
 Kh:Vh
 ZX:o3
 Z9:Vh
 zk:o3
 X8:Vh
 J0:o3
 xy:Vh
 Xi:o3
 Xf:Vh
 KI:o3
 Ks:Vh
 Ku:o3
 KJ:Vh
 WH:o3
 Wi:Vh
 jX:o3
 jV:Vh
 jt:o3
 jx:Vh
 f_law:o3
 d_law:Vh
 qq:o3
 qO:o3
 qv:o3
 qK:o3
structure Tx (K:o0)(mg:Str->om o6)(a:Ad):Prop where
 mR:FF K mg "is_text" W4 ["value"] a.f_is_text a.d_is_text
 lr:FF K mg "is_tree" zg ["value"] a.f_is_tree a.d_is_tree
 iF:FF K mg "is_name" WF ["value"] a.f_is_name a.d_is_name
 nI:FF K mg "is_pair" wT ["value"] a.f_is_pair a.d_is_pair
 lP:FF K mg "is_row_of_names" Yi ["tree"] a.jT a.jU
 na:FF K mg "is_answer" X0 ["ask","answer"] a.wQ a.wX
 nH:FF K mg "part_of" WK ["kind","piece","count"] a.f_part_of a.d_part_of
 mV:FF K mg "pieces_of" XS ["line","form"] a.Wr a.W7
 si:FF K mg "row_of" wE ["line","count"] a.f_row_of a.d_row_of
 md:FF K mg "read_lines" J8 ["value"] a.wf a.ZO
 lK:FF K mg "rule_rows" XE ["tree"] a.WS a.wR
 mh:FF K mg "bad_line" zZ ["tree"] a.kO a.ku
 mw:FF K mg "is_rule" Wx ["value"] a.f_is_rule a.d_is_rule
 lH:FF K mg "text_made" XN ["boxes","own","parts"] a.XY a.WA
 lJ:FF K mg "self_made" XZ ["boxes","own","parts"] a.XI a.Wb
 lS:FF K mg "copy_made" Xz ["boxes","own","parts"] a.XM a.Wf
 l8:FF K mg "row_made" Zg ["boxes","own","parts"] a.Zt a.Kr
 me:FF K mg "put_made" Zv ["boxes","own","parts"] a.Zi a.kA
 lO:FF K mg "join_made" XL ["boxes","own","parts"] a.Xt a.WO
 lm:FF K mg "first_made" J3 ["boxes","own","parts"] a.xf a.ZP
 lL:FF K mg "rest_made" XB ["boxes","own","parts"] a.XQ a.WV
 lI:FF K mg "size_made" Xv ["boxes","own","parts"] a.XA a.Wp
 mf:FF K mg "cut_made" ZK ["boxes","own","parts"] a.Za a.KF
 lR:FF K mg "glue_made" XF ["boxes","own","parts"] a.XG a.Wg
 mj:FF K mg "is_jump_taken" jd ["boxes","word","parts"] a.xk a.xG
 lZ:FF K mg "asked_or_fault" YE ["word","held"] a.JH a.JC
 iL:FM K a.qq "__init__" "Machine.__init__" jC ["self","rule","own"] a.jA a.Xr
 ik:FM K a.qq "now" "Machine.now" Jo ["self"] a.zu a.zi
 iH:FM K a.qq "answer" "Machine.answer" YH ["self","tree"] a.YB a.YF
 ml:FM K a.qq "asked" "Machine.asked" Y4 ["self"] a.J1 a.xr
 lf:FM K a.qq "go_on" "Machine.go_on" Y9 ["self"] a.xv a.JQ
 im:FM K a.qq "is_waiting" "Machine.is_waiting" yo ["self"] a.YK a.YL
 l7:FM K a.qq "do_row" "Machine.do_row" YC ["self","row"] a.JG a.Jz
 mr:FM K a.qq "hold" "Machine.hold" jy ["self","box","tree"] a.Xd a.Xk
 iW:FF K mg "asks_that_stand" Yk ["machine","asks"] a.j8 a.jZ
 E5:FF K mg "does" DD ["rule","own","run"] a.f_does a.d_does
 mI:FM K a.qO "__init__" "Going.__init__" xm ["self","name","source","order"] a.xp a.Z3
 lY:FM K a.qO "begin" "Going.begin" Js ["self","rule"] a.ze a.zV
 mi:FM K a.qO "look" "Going.look" JT ["self"] a.wm a.ZM
 mt:FM K a.qO "wanted" "Going.wanted" jB ["self"] a.Xq a.Xl
 lq:FM K a.qO "take" "Going.take" xJ ["self","answer"] a.Z6 a.ZL
 mJ:FM K a.qO "full" "Going.full" JV ["self"] a.ZU a.Z0
 lU:FM K a.qv "__init__" "PlainOrder.__init__" Yb ["self","project"] a.y8 a.j3
 iT:FM K a.qv "begin_anew" "PlainOrder.begin_anew" Q6 ["self","project"] a.yZ a.yU
 iR:FM K a.qv "go_through" "PlainOrder.go_through" Q8 ["self","name"] a.yT a.yK
 iQ:FM K a.qv "enter" "PlainOrder.enter" y6 ["self","name"] a.jo a.jl
 lh:FM K a.qv "settle" "PlainOrder.settle" yz ["self","going"] a.ja a.YX
 li:FM K a.qv "runner" "PlainOrder.runner" yE ["self","rule","own"] a.Y0 a.YV
 lD:FM K a.qv "leave" "PlainOrder.leave" yS ["self","going"] a.ju a.jw
 lG:FM K a.qv "go_on" "PlainOrder.go_on" yR ["self","going"] a.jr a.js
 iG:FM K a.qv "answer_yet" "PlainOrder.answer_yet" Q3 ["self","name"] a.yI a.yV
 iZ:FF K mg "answer_at_once" YA ["source"] a.JD a.JF
 mS:FF K mg "has_run" Wo ["source"] a.f_has_run a.d_has_run
 nc:FF K mg "answer_by" XO ["end"] a.WE a.WW
 lp:FF K mg "check_name" J4 ["name"] a.Z5 a.wc
 mB:FF K mg "check_names" Jl ["names"] a.X6 a.zm
 iV:FF K mg "order_from" JU ["project","name"] a.Z1 a.Z4
 ll:FF K mg "order_over" J5 ["project","names"] a.wn a.wb
 nz:FF K mg "full_run" Ze ["project","name"] a.Ko a.k9
 so:FF K mg "met_by" qab ["project","name"] a.f_met_by a.d_met_by
 mz:FF K mg "first_wrong" Jh ["project","paper"] a.zO a.zX
 mH:FF K mg "first_ends" JP ["paper"] a.Z2 a.wj
 mF:FF K mg "wrong_word" jp ["project","ends","earlier","step"] a.ZS a.wp
 lQ:FF K mg "is_right_answer" Yc ["project","earlier","ask","answer"] a.jL a.jQ
 my:FF K mg "is_full_run" Je ["source","name","asks","end"] a.zK a.zI
 mZ:FF K mg "is_run_of" XX ["rule","own","asks","end"] a.WB a.W5
 mY:FF K mg "is_source" XT ["value"] a.W0 a.WD
 lC:FM K a.qK "__init__" "Project.__init__" Yq ["self","sources"] a.jF a.Xj
 lT:FM K a.qK "sources" "Project.sources" Yl ["self"] a.jS a.jO
 ii:FM K a.qK "source_of" "Project.source_of" yF ["self","name"] a.YW a.Y6
 io:FM K a.qK "looked_up" "Project.looked_up" Q5 ["self","ask"] a.Y1 a.jc
 mx:FF K mg "longest_row" Ja ["names"] a.zP a.zW
 lX:FF K mg "_law_cell_at" Jx ["script","k"] a.zd a.zL
 mQ:FF K mg "_law_pot" wL ["cell","salt"] a.f_law_pot a.d_law_pot
 ig:FF K mg "_law_take" ZA ["pot","many"] a.KK a.Km
 iJ:FF K mg "_law_word" Zo ["pot","names"] a.kQ a.Kb
 nw:FF K mg "_law_line" xM ["pot","names","many","k"] a.kH a.Kt
 mD:FF K mg "_law_rule" xS ["pot","names"] a.kG a.kS
 mX:FF K mg "_law_maker" XW ["pot","names"] a.WP a.Wc
 mE:FF K mg "_law_leaf" xQ ["pot","names"] a.Kj a.Kh
 mG:FF K mg "_law_source" JY ["pot","names"] a.ZX a.Z9
 lW:FF K mg "_law_sources" Jv ["script"] a.zk a.X8
 lc:FF K mg "_law_all_steps" je ["project","names"] a.J0 a.xy
 mq:FF K mg "_law_answered" jD ["project","told","ask"] a.Xi a.Xf
 ny:FF K mg "_law_goes" ZG ["rule","name","asks","end"] a.KI a.Ks
 nu:FF K mg "_law_runs" ZC ["project","step"] a.Ku a.KJ
 mW:FF K mg "_law_wrong" Jb ["project","paper"] a.WH a.Wi
 lN:FF K mg "_law_step_spoilt" Yd ["step","pot","names"] a.jX a.jV
 lz:FF K mg "_law_paper_spoilt" yJ ["steps","others","pot","names"] a.jt a.jx
 BP:FF K mg "law" OG ["script"] a.f_law a.d_law
 qu:Cls K a.qq
 X4:Mk K a.qq a.jA
 X2:mg "Machine"=u_ (-a.qq)
 Yr:QX K a.qq "rows"
 kt:QX K a.qq "rule"
 zJ:QX K a.qq "own"
 QC:QX K a.qq "boxes"
 Qu:QX K a.qq "place"
 yq:QX K a.qq "done"
 YU:QX K a.qq "given"
 qP:QX K a.qq "there"
 qU:Cls K a.qO
 M_Going:Mk K a.qO a.xp
 m_Going:mg "Going"=u_ (-a.qO)
 Yv:QX K a.qO "name"
 zU:QX K a.qO "order"
 yX:QX K a.qO "made_by"
 Ym:QX K a.qO "rule_asks"
 qZ:QX K a.qO "rule_run"
 yh:QX K a.qO "end"
 qD:Cls K a.qv
 M_PlainOrder:Mk K a.qv a.y8
 m_PlainOrder:mg "PlainOrder"=u_ (-a.qv)
 Ql:QX K a.qv "given_project"
 QJ:QX K a.qv "stack"
 QG:QX K a.qv "under_way"
 Qm:QX K a.qv "full_runs"
 QL:QX K a.qv "found"
 Qt:Cls K a.qK
 M_Project:Mk K a.qK a.jF
 m_Project:mg "Project"=u_ (-a.qK)
 QW:QX K a.qK "by_name"
 m_MOST_SIGNS:∃t,mg "MOST_SIGNS"=u_ (.int 300 t)
 m_MOST_PARTS:∃t,mg "MOST_PARTS"=u_ (.int 40 t)
 m_MOST_SIZE:∃t,mg "MOST_SIZE"=u_ (.int 600 t)
 m_MOST_DEPTH:∃t,mg "MOST_DEPTH"=u_ (.int 12 t)
 ZF:∃t,mg "MOST_NAME_SIGNS"=u_ (.int 24 t)
 m_LETTERS:∃t,mg "LETTERS"=u_ (.str "abcdefghijklmnopqrstuvwxyz" t)
 m_NAME_SIGNS:∃t,mg "NAME_SIGNS"=u_ (.str "abcdefghijklmnopqrstuvwxyz0123456789./" t)
 m_PERCENT:∃t,mg "PERCENT"=u_ (.int 37 t)
 m_MOST_LINES:∃t,mg "MOST_LINES"=u_ (.int 40 t)
 m_MOST_DONE:∃t,mg "MOST_DONE"=u_ (.int 300 t)
 m_MOST_NAMES:∃t,mg "MOST_NAMES"=u_ (.int 60 t)
 z_ord:mg "ord"=U_
 QZ:mg "len"=U_
 qS:mg "isinstance"=U_
 wB:mg "str"=U_
 QO:mg "tuple"=U_
 z_all:mg "all"=U_
 z_int:mg "int"=U_
 Jj:mg "range"=U_
 z_zip:mg "zip"=U_
 z_dict:mg "dict"=U_
 W1:mg "enumerate"=U_
 z_sorted:mg "sorted"=U_
 z_abs:mg "abs"=U_
 z_min:mg "min"=U_
 z_sum:mg "sum"=U_
 z_list:mg "list"=U_
 z_bool:mg "bool"=U_
def kL:qx ["value","sign"] ["value"] (qj W4):=()
def yG:qx ["value","size","waiting","pair","part","depth"] ["value"] (qj zg):=()
def Cp:qx ["value"] ["value"] (qj WF):=()
def Co:qx ["value"] ["value"] (qj wT):=()
def zx:qx ["tree"] ["tree"] (qj Yi):=()
def n9:qx ["ask","answer"] ["ask","answer"] (qj X0):=()
def kX:qx ["kind","piece","count","numbers"] ["kind","piece","count"] (qj WK):=()
def nY:qx ["line","form"] ["line","form"] (qj XS):=()
def xH:qx ["line","count","word","form","pieces","parts"] ["line","count"] (qj wE):=()
def YO:qx ["value","rows","line","row"] ["value"] (qj J8):=()
def ZT:qx ["tree","read"] ["tree"] (qj XE):=()
def sZ:qx ["tree"] ["tree"] (qj zZ):=()
def Cn:qx ["value"] ["value"] (qj Wx):=()
def nV:qx ["boxes","own","parts"] ["boxes","own","parts"] (qj XN):=()
def nX:qx ["boxes","own","parts"] ["boxes","own","parts"] (qj XZ):=()
def oo:qx ["boxes","own","parts"] ["boxes","own","parts"] (qj Xz):=()
def sY:qx ["boxes","own","parts"] ["boxes","own","parts"] (qj Zg):=()
def Wj:qx ["boxes","own","parts","row"] ["boxes","own","parts"] (qj Zv):=()
def xI:qx ["boxes","own","parts","one","other"] ["boxes","own","parts"] (qj XL):=()
def X3:qx ["boxes","own","parts","whole"] ["boxes","own","parts"] (qj J3):=()
def ZR:qx ["boxes","own","parts","whole"] ["boxes","own","parts"] (qj XB):=()
def nW:qx ["boxes","own","parts"] ["boxes","own","parts"] (qj Xv):=()
def Xx:qx ["boxes","own","parts","whole","between"] ["boxes","own","parts"] (qj ZK):=()
def xw:qx ["boxes","own","parts","row","between"] ["boxes","own","parts"] (qj XF):=()
def wx:qx ["boxes","word","parts"] ["boxes","word","parts"] (qj jd):=()
def Zm:qx ["word","held"] ["word","held"] (qj YE):=()
def W9:qx ["self","rule","own"] ["self","rule","own"] (qj jC):=()
def kh:qx ["self"] ["self"] (qj Jo):=()
def jJ:qx ["self","tree","ask"] ["self","tree"] (qj YH):=()
def ww:qx ["self"] ["self"] (qj Y4):=()
def wC:qx ["self"] ["self"] (qj Y9):=()
def xo:qx ["self"] ["self"] (qj yo):=()
def Ye:qx ["self","row","word","parts"] ["self","row"] (qj YC):=()
def W3:qx ["self","box","tree"] ["self","box","tree"] (qj jy):=()
def yO:qx ["machine","asks","count","pair"] ["machine","asks"] (qj Yk):=()
def DB:qx ["rule","own","run","machine"] ["rule","own","run"] (qj DD):=()
def qaz:qx ["self","name","source","order"] ["self","name","source","order"] (qj xm):=()
def ko:qx ["self","rule"] ["self","rule"] (qj Js):=()
def qaH:qx ["self"] ["self"] (qj JT):=()
def WT:qx ["self"] ["self"] (qj jB):=()
def qaj:qx ["self","answer"] ["self","answer"] (qj xJ):=()
def X1:qx ["self","asks"] ["self"] (qj JV):=()
def zS:qx ["self","project"] ["self","project"] (qj Yb):=()
def jW:qx ["self","project"] ["self","project"] (qj Q6):=()
def QS:qx ["self","name","top","missing"] ["self","name"] (qj Q8):=()
def XC:qx ["self","name"] ["self","name"] (qj y6):=()
def xV:qx ["self","going"] ["self","going"] (qj yz):=()
def xY:qx ["self","rule","own"] ["self","rule","own"] (qj yE):=()
def Xs:qx ["self","going"] ["self","going"] (qj yS):=()
def yw:qx ["self","going","ask","answer"] ["self","going"] (qj yR):=()
def yH:qx ["self","name","at_once"] ["self","name"] (qj Q3):=()
def Zh:qx ["source"] ["source"] (qj YA):=()
def Cq:qx ["source"] ["source"] (qj Wo):=()
def ou:qx ["end"] ["end"] (qj XO):=()
def KZ:qx ["name"] ["name"] (qj J4):=()
def Xg:qx ["names","name"] ["names"] (qj Jl):=()
def qam:qx ["project","name"] ["project","name"] (qj JU):=()
def Jp:qx ["project","names","order","name"] ["project","names"] (qj J5):=()
def Ws:qx ["project","name","order"] ["project","name"] (qj Ze):=()
def DA:qx ["project","name"] ["project","name"] (qj qab):=()
def yb:qx ["project","paper","ends","earlier","place","step","word"] ["project","paper"] (qj Jh):=()
def yQ:qx ["paper","ends","name","asks","end"] ["paper"] (qj JP):=()
def YR:qx ["project","ends","earlier","step","name","end","source"] ["project","ends","earlier","step"] (qj jp):=()
def jm:qx ["project","earlier","ask","answer","source"] ["project","earlier","ask","answer"] (qj Yc):=()
def Yo:qx ["source","name","asks","end","rule"] ["source","name","asks","end"] (qj Je):=()
def ZV:qx ["rule","own","asks","end","machine"] ["rule","own","asks","end"] (qj XX):=()
def nZ:qx ["value"] ["value"] (qj XT):=()
def yP:qx ["self","sources","by_name","name","source"] ["self","sources"] (qj Yq):=()
def zA:qx ["self"] ["self"] (qj Yl):=()
def xU:qx ["self","name"] ["self","name"] (qj yF):=()
def xZ:qx ["self","ask"] ["self","ask"] (qj Q5):=()
def Ys:qx ["names","row","name"] ["names"] (qj Ja):=()
def kr:qx ["script","k"] ["script","k"] (qj Jx):=()
def YT:qx ["cell","salt","step","big","k"] ["cell","salt"] (qj wL):=()
def Wv:qx ["pot","many","digit"] ["pot","many"] (qj ZA):=()
def W8:qx ["pot","names","some"] ["pot","names"] (qj Zo):=()
def yC:qx ["pot","names","many","k","words","word","one","two","three","at"] ["pot","names","many","k"] (qj xM):=()
def Ji:qx ["pot","names","body","many","lines"] ["pot","names"] (qj xS):=()
def jq:qx ["pot","names","asked","lines"] ["pot","names"] (qj XW):=()
def We:qx ["pot","names","kind"] ["pot","names"] (qj xQ):=()
def zQ:qx ["pot","names","kind"] ["pot","names"] (qj JY):=()
def yt:qx ["script","names","pairs","k","cell"] ["script"] (qj Jv):=()
def yu:qx ["project","names","steps","name","met"] ["project","names"] (qj je):=()
def yN:qx ["project","told","ask","kind","text","source"] ["project","told","ask"] (qj jD):=()
def j9:qx ["rule","name","asks","end","engine","ask","answer"] ["rule","name","asks","end"] (qj ZG):=()
def Q7:qx ["project","step","name","asks","end","kind","rule","rest"] ["project","step"] (qj ZC):=()
def Qs:qx ["project","paper","told","met","place","name","asks","end","source","ask","answer","ends"] ["project","paper"] (qj Jb):=()
def qX:qx ["step","pot","names","name","asks","end","kind","k","tree","word","asked"] ["step","pot","names"] (qj Yd):=()
def Qr:qx ["steps","others","pot","names","found","kind","at","to","step"] ["steps","others","pot","names"] (qj yJ):=()
def ji:qx ["script","pairs","names","project","other","steps","others","turn","pot","paper","k","due","found"] ["script"] (qj OG):=()
structure Ga where
 (boxes asking forms makers br bn ba we:o3)
abbrev Acb:oj Str:= ["ask","has","names","go","like","rowed","none","say","fault"]
structure Fx (K:o0)(w:og)(mg:Str->om o6)(g:Ga)(a:Ad):Prop where
 m_BOXES:mg "BOXES"=u_ (-g.boxes)
 m_ASKING:mg "ASKING"=u_ (-g.asking)
 m_FORMS:mg "FORMS"=u_ (-g.forms)
 m_MAKERS:mg "MAKERS"=u_ (-g.makers)
 boxes:∀H,SqT K H g.boxes (BX.map V.str)
 asking:∀H,SqT K H g.asking [-"ask",-"has",-"names"]
 kd:IJ K w g.forms
 forms:∀x>FRM,∃q,PySem.W.nsIn K g.forms x.1=u_ (u_ (-q))/\∀H,SqT K H q (x.2.map λk=>V.str k.t)
 km:IJ K w g.makers
 k_text:PySem.W.nsIn K g.makers "text"=u_ (u_ (-a.XY))
 k_self:PySem.W.nsIn K g.makers "self"=u_ (u_ (-a.XI))
 k_copy:PySem.W.nsIn K g.makers "copy"=u_ (u_ (-a.XM))
 k_row:PySem.W.nsIn K g.makers "row"=u_ (u_ (-a.Zt))
 k_put:PySem.W.nsIn K g.makers "put"=u_ (u_ (-a.Zi))
 k_join:PySem.W.nsIn K g.makers "join"=u_ (u_ (-a.Xt))
 k_first:PySem.W.nsIn K g.makers "first"=u_ (u_ (-a.xf))
 k_rest:PySem.W.nsIn K g.makers "rest"=u_ (u_ (-a.XQ))
 k_size:PySem.W.nsIn K g.makers "size"=u_ (u_ (-a.XA))
 k_cut:PySem.W.nsIn K g.makers "cut"=u_ (u_ (-a.Za))
 k_glue:PySem.W.nsIn K g.makers "glue"=u_ (u_ (-a.XG))
 k_no:∀z>Acb,PySem.W.nsIn K g.makers z=u_ U_
 none_:∀z,Xn z=U_->PySem.W.nsIn K g.forms z=u_ U_
 m_BadRule:mg "BadRule"=u_ (-g.br)
 x_BadRule:PySem.W.excIn K g.br VE "ValueError.__new__"=v_
 m_BadName:mg "BadName"=u_ (-g.bn)
 x_BadName:PySem.W.excIn K g.bn VE "ValueError.__new__"=v_
 m_BadAnswer:mg "BadAnswer"=u_ (-g.ba)
 e_BadAnswer:PySem.W.exmOne K (-g.ba) (-g.ba)=u_ v_
 m_WrightError:mg "WrightError"=u_ (-g.we)
 ew:PySem.W.exmOne K (-g.bn) (-g.we)=u_ v_
 xc:AwV.ExcCls K g.bn
variable {n:Nat}
def yL (h:n<=1000):n<=sizeLine:=Ui (zf h)
def sml (h:Nat.ble n 1000=v_):n<=sizeLine:=yL (Nat.le_of_ble_eq_true h)
def nB (h:n<=16000000):n<=sizeLine:=by rw[uB];omega
def jG {α:Type}{xs:oj α}{i:Int}{c:α}(h:atI xs i=u_ c):c>xs:=by
 unfold atI at h;erw[Option.bind_eq_some_iff.mp h,j,_,e,<-uW e]
variable {z:Str}
def Ar (h:300<↑z):QH z=false:=by
 unfold QH;rw[ud ()]
 rfl
abbrev Mg:D->Bool
 | .str z=>QH z|_=>Vd
inductive Ke:Sp
 |mk (v:_)(d:_)(_:vs= [v])(_:Is H d v)(_:Q (.bl (Mg d)) H)
inductive Ky:Sp
 |mk (v:_)(d:_)(_:vs= [v])(_:Is H d v)(_:∀H',ic H H'->Q (.bl (isT d)) H')
abbrev pr (p:D×Nat):D:=-[p.1,.int (p.2:Int)]
variable {i:Nat}
def CC {c:Nat}(h:z.cps[i]? =u_ c)(U:QI c=Vd):QH z=false:=by
 unfold QH;let hm:c>z.cps.toList:=by
  have:z.cps.toList[i]? =u_ c:=by simpa using h
  exact uW this
 have:z.cps.toList.all QI=false:=by
  rw[List.all_eq_false];exact⟨c,hm,by rw[U];exact uc⟩
 rw[this,Tv]
section
variable {P:o9}{w:og}{K:o0}{mg:Str->om o6}{base:o8}{a:Ad}
def kC:#[T,1,a.f_is_text,a.d_is_text,["value"],Ke]:=by
 rw[9,T.mR,kL]
 erw[h,v,d,rfl,hv,k];rw[3,%[@qI _ _ _ _ _ _ _ _ #[jI,#[Qo,#[Qe,#[qz,#[qW,2,rfl],T.qS,uZ,#v[pv 0,#[yd,.ty "str",T.wB,V2]]]]],#[Yu,#[qm,Ap,#[qz,wk,T.QZ,uJ,#v[pv 0]],#[qaS,T.m_MOST_SIGNS]]]].pt %[|#[qo,Yx]] qp,#[y7,#[MW,4,pv 0],#[qJ,(1),kL.nd],%[|@qI _ _ _ _ _ _ _ _ #[jI,#[qm,DT,pv 1,qi],#[jI,#[qm,DW,pv 1,qi],#[Yu,#[qm,Qd,#[qz,My,T.z_ord,boot_ord,#v[pv 1]],#[qaS,T.m_PERCENT]]]]].pt %[|#[qo,Yx]] qp]]|#[qo,Yx]]]
 rw[0,v,"str",tyD d,isStr d,1,hv.ty,Jg d,0];cases d with
 |str z=>
  erw[hv,rfl,hz];refine iU ?_
  rw[0,z,1,hz,_,0,1,0];refine ky (λc=>?_) (λc=>?_)
  .let c':(300:Int)<(↑z:Int):=ui c;let e:Mg (!z)=false:=Ar ()
   rwa[e] at k
  .let c':¬(300:Int)<(↑z:Int):=λq=>c (u8 q)
   rw[0,z,1]
   refine_lift let J1_:Nat->L2.St->Hp->Prop:=λi σ H'=>(∃x,σ= [u_ (!z),x])/\H'=H/\(z.cps.toList.take i).all QI=v_;?_
   refine SI J1_ [⟨0⟩:1:1] ?_ ?_
   .rintro i c σ H' hc ⟨⟨x,rfl⟩,rfl,U⟩;let bad:QI c=Vd->Q (.bl Vd) H':=λe=>by
     let e':Mg (!z)=false:=CC hc e;rwa[e'] at k
    rw[0,_,0,1,0];rw[show decide ((⟨#[c]⟩:Str).cps.toList<(" ":Str).cps.toList)=decide (c<32) from Abv c 32]
    refine ky (λc1=>?_) (λc1=>?_)
    .refine iY (bad ?_);have:=ui c1;unfold QI;rw[ud ()]
     rfl
    .let aa:¬c<32:=λq=>c1 (u8 q)
     rw[0,_,0,1,0];rw[show decide (("~":Str).cps.toList<(⟨#[c]⟩:Str).cps.toList)=decide (126<c) from Abi c 126]
     refine ky (λc2=>?_) (λc2=>?_)
     .refine iY (bad ?_);have:=ui c2;unfold QI;rw[ud (p:=c<=126) (),Tv]
      rfl
     .have ac:¬126<c:=λq=>c2 (u8 q)
      rw[0,0,1,1,0];refine ky (λc3=>?_) (λc3=>?_)
      .have Z:c=37:=by
        have:=ui c3;have:=V.int.inj this;exact Pj this
       exact bad (by subst Z;rfl)
      .have Z:c≠37:=λq=>c3 (u8 (by rw[q];rfl))
       rw[_,⟨0⟩,1];rw[uV,show z.cps.toList[i]? =u_ c by simpa using hc,UX,U]
       show(v_&&(QI c&&v_))=v_;unfold QI;rw[u8 (),u8 (p:=c<=126) (),u8 Z]
       rfl
   .rintro σ H' ⟨⟨x,rfl⟩,rfl,U⟩;let e:Mg (!z)=true:=by
     show QH z=v_;unfold QH;rw[vg (by simp)] at U
     rw[U,u8 ()]
     rfl
    rwa[e] at k
 |_=>exact iY (iY k)
def BF {α β:Type}(f:α->β)(xs:oj α)(x:α):(xs++ [x]).map f=xs.map f++ [f x]:=by simp
def Sn {α:Type}(us:oj α)(x:α):(us++ [x])[↑(us++ [x])-1]? =u_ x:=by simp
def Ii {α:Type}(us:oj α)(x:α):(us++ [x]).dropLast=us:=by simp
abbrev Wt (v:V)(d:D)(H:Hp)(L:o3)(m:Nat)(σ:L2.St)(H':Hp):Prop:=
 ∃(n:Nat) (w:oj (D×Nat)) (ws:oj V) (x3 x4 x5:om V),σ= [u_ v,u_ (.int n),u_ (-L),x3,x4,x5]/\ic H H'/\H' L=u_ (.lst ws)/\IsL H' (w.map pr) ws/\G w n=isT d/\n<=600/\↑w<=1+40*n/\m=ndL (w.map (·.1))
def jM:#[T,2,a.f_is_tree,a.d_is_tree,["value"],Ky]:=by
 let wW:=#[kC,T];refine T.lr.F.ok yG () (λ_ _ _ _ H vs Q E hr h=>?_)
 erw[h,v,d,rfl,hv,k];rw[3,%[#[qF,(1),yG.nd,qh],#[qF,(2),yG.nd,#[QE,#v[#[qA,#v[pv 0,qh]]]]],#[wG,6,uP,#[Br,3,pv 2,(λ_=>rfl)],%[#[qF,(3),yG.nd,#[MY,9,uM,UC,UD,Ng,pv 2,_,_]],#[qF,(4),yG.nd,#[qE,qB,pv 3,qh]],#[qF,2,(5),4,yG.nd,rfl,GN rfl,#[qE,qB,pv 3,qh],_,_],@qI _ _ _ _ _ _ _ _ #[JR,#[Qe,#[qz,#[qW,2,rfl],T.qS,uZ,#v[pv 4,#[yd,.ty "tuple",T.QO,vx]]]],#[Y3,#[qm,DU,#[qz,qaf,T.QZ,uJ,#v[pv 4]],#[qaS,T.m_MOST_PARTS]]]].pt %[#[MU,2,(1),6,yG.nd,rfl,GZ rfl,qh,No,_]|#[qY,#[YS,uM,PySem.F.slot_list_extend,PySem.F.type_list_extend,oP,pv 2,#v[#[Xw,["below","depth"],[5],Md (qj zg) ["value","size","waiting","pair","part","depth"],#[Zb,pv 4],(λ_ _ _ _ _ _=>#[qJ,(0),(show Vu (["below","depth"]:oj Str) by decide+kernel)]),(λ_ _ _ _ _ _=>#[qA,#v[pv 0,#[qV,Q1,pv 1,qh]]])]]]]] %[|#[qI,#[Qe,#[qt,wW,T.mR,#v[pv 4]]],%[|#[MU,2,(1),6,yG.nd,rfl,GZ rfl,#[qV,Q1,qh,#[qz,qaf,T.QZ,uJ,#v[pv 4]]],No,_]],%[|#[qo,Yx]]]]|@qI _ _ _ _ _ _ _ _ #[jI,#[qm,Ap,pv 5,#[qaS,T.m_MOST_DEPTH]],#[Yu,#[qm,Ap,pv 1,#[qaS,T.m_MOST_SIZE]]]].pt %[|#[qo,Yx]] qp]]|#[qo,Yx]]]
 let no:∀{H':Hp}{w:oj (D×Nat)}{n:Nat},ic H H'->G w n=isT d->G w n=Vd->Q (.bl Vd) H':=λ{H' w n} sm e1 e2=>by
  let q:=k H' sm;rwa[<-e1,e2] at q
 rw[0,(sml rfl),λt1 h1=>[(sml rfl):λL hL=>?_]];let s1:ic H (upd H t1 (-[v,.int 1])):=qf h1 _;let s2:ic H (upd (upd H t1 (-[v,.int 1])) L (.lst [-t1])):=s1.trans (qf hL _);let ak:H L=none:=s1.free hL;let i1:Is (upd H t1 (-[v,.int 1])) (pr (d,1)) (-t1):=Is.new (ds:= [d,.int 1]) (v,0,hv,_,0,1,1) h1
 rw[_,Wt v d H L,(_,(0),[(d,1)],[-t1],U_,U_,U_,1,s2,qg,IsL.one (i1.mono (qf hL _).tk),Tm d,(),by simp,1)]
 rintro m σ H' ⟨n,w,ws,x3,x4,x5,rfl,sm,hl,hw,hG,hn,am,rfl⟩
 rw[0,!(ws.isEmpty),.inl [ws:SqL.of hl:1]];rcases RC w with rfl|⟨w',⟨e,j⟩,rfl⟩
 .rw[show ws= [] from hw,0]
  refine iU ?_;let q:=k H' sm;rwa[<-hG,AdI hn] at q
 .rw[RA] at*;rw[BF] at hw;erw[hw.unsnoc,us,x,rfl,hu,hx];let ne:(!(us++ [x]).isEmpty)=true:=by simp
  rw[ne];refine iY ⟨λσ' ao=>∃m',m'<ndL ((w'++ [(e,j)]).map (·.1))/\Wt v d H L m' σ' ao,λ_ _ h=>h,?_⟩;let hm:ndL ((w'++ [(e,j)]).map (·.1))=ndL (w'.map (·.1))+nd e:=by
   rw[BF,Zz];simp[ndL]
  let aq:↑w'<=40*n:=by
   rw[uw,U8] at am;omega
  let lu:=↑hu;rw[u7] at lu
  rw[0,.inl [1:_:SqL.of hl],L,_,x,1,1,hl,Sn us x];rw[Ii];let t2:Tk H' (upd H' L (.lst us)):=Tk.updL hl;let U:ic H (upd H' L (.lst us)):=λb o z=>by rw[qk (ql z ak)];exact sm b o z
  let ae:Is (upd H' L (.lst us)) (-[e,.int (j:Int)]) x:=hx.mono t2;let af:IsL (upd H' L (.lst us)) (w'.map pr) us:=hu.mono t2;let Z:upd H' L (.lst us) L=u_ (.lst us):=qg;generalize upd H' L (.lst us)=H2 at t2 U ae af Z⊢;clear t2 hl hx hu sm
  rw[0,XH (i:=0) ae rfl λy hy=>?_]
  rw[0,XH (i:=1) ae rfl λy1 ap=>?_];rw[show y1= .int (j:Int) from ap,0]
  show nA _ _ _ _ H2;refine qw λN0 n0=>n0 _ _ ?_;rw[8,BB,bb];let ad:∀(n':Nat) (w2:oj (D×Nat)) (aa:oj V) (H3:Hp),ic H H3->H3 L=u_ (.lst aa)->IsL H3 (w2.map pr) aa->(j<=12->n'<=600->G w2 n'=isT d)->(12<j\/600<n'->isT d=Vd)->↑w2<=1+40*n'->ndL (w2.map (·.1))<ndL ((w'++ [(e,j)]).map (·.1))->
    BB [u_ v,u_ (V.int (n':Int)),u_ (V.ref L),u_ x,u_ y,u_ (V.int (j:Int))] H3:=by
   intro n' w2 aa H3 s3 l3 i3 g3 b3 al m3;let bad:isT d=Vd->Q (.bl Vd) H3:=λe=>by
    let q:=k H3 s3;rwa[e] at q
   refine bb _ _ ?_
   rw[0,_,0,1,0];refine ky (λc=>iY (bad (b3 (.inl ?_)))) (λc=>(0,_,0,1,0,?_))
   .have:=ui c;omega
   .let c':¬(12:Int)<(j:Int):=λq=>c (u8 q);refine ky (λc2=>bad (b3 (.inr ?_))) (λc2=>?_)
    .have:=ui c2;omega
    .let au:¬(600:Int)<(n':Int):=λq=>c2 (u8 q);exact(_,m3,n',w2,aa,_,_,0,s3,l3,i3,g3 () (),(),al,1)
  rw[0,y,"tuple",tyD e,zp e,1,hy.ty,JW e,0];cases e with
  |tup xs=>
   refine iY ?_;erw[hy,a0,vs,rfl,ac,ag];let lv:=↑ag
   rw[0,_,↑vs,1,.inr [vs:SqT.of ac:1],_,0,1,0];refine ky (λc=>?_) (λc=>?_)
   .let c':(↑vs:Int)<=40:=ui c
    rw[0,_,0,1]
    rw[0,.inl [1:_:SqL.of Z],0,a0,vs,1,SqT.of ac,λaw A0 ah=>?_];refine Ax (tl:= [u_ (.int (j:Int))]) (λd0=>-[d0,.int ((j+1:Nat):Int)]) ac ag (nB ()) ah (λd0 x0 H3 R _ s3 i3 r=>?_) λH3 ys s3 l3 i3=>?_
    .rw[0,0,_,0,1,(sml rfl),λp hp=>?_];exact r _ _ (qf hp _) (Is.new (ds:= [d0,.int ((j+1:Nat):Int)]) (x0,0,i3,_,0,1,1) hp)
    .let ly:=↑i3;rw[u7] at ly;let eA:A0≠L:=λz=>by rw[z,Z,0] at ah
     rw[_,L,A0,us,ys,1,1,s3 _ _ Z,l3,nB ()]
     let t4:Tk H3 (upd H3 L (.lst (us++ys))):=Tk.updL (s3 _ _ Z);let em:(w'++xs.map λd0=>(d0,j+1)).map pr=w'.map pr++xs.map λd0=>-[d0,.int ((j+1:Nat):Int)]:=by
      rw[uj,uO];rfl
     let ef:(w'++xs.map λd0=>(d0,j+1)).map (·.1)=w'.map (·.1)++xs:=by
      rw[uj,uO]
      congr 1
      exact Hr xs
     refine ad (n+1) (w'++xs.map λd0=>(d0,j+1)) (us++ys) _ (λb o z=>by rw[qk (ql z ak)];exact s3 b o (U b o z)) qg (by rw[em];exact((af.mono s3.tk).mono t4).append (i3.mono t4)) (λh1 h2=>?_) (λh=>?_) ?_ ?_
     .rw[<-hG,AdG () h1]
     .rw[<-hG];rcases h with h|h
      .exact NG h
      .exact Acm h
     .rw[uw,u7];omega
     .rw[ef,hm,Zz];simp![nd];omega
   .let c':¬(↑vs:Int)<=40:=λq=>c (u8 q)
    rw[0,_,¬xs,1,(show Is _ (¬xs) (-a0) from(a0,vs,1,ac,ag)),0]
    refine iU ?_;refine no U hG (Ty ?_);simp![good];rw[ud ()]
    rfl
  |str z=>
   refine iU ?_;erw[hy,rfl,hz]
   rw[0,_,!z,1,[1:hz],0];cases ht:QH z with
   |false=>
    let e1:Mg (!z)=false:=ht;rw[e1];refine iU ?_;refine no U hG (Ty ?_);simp![good];exact ht
   |true=>
    let e1:Mg (!z)=true:=ht;rw[e1];refine iY ?_
    rw[0,0,_,↑z,1,[hz:1],_,0,1,_,0,1];let en:(n:Int)+(1+(↑z:Int))=((n+(1+↑z):Nat):Int):=by omega
    show BB [u_ v,u_ (V.int ((n:Int)+(1+(↑z:Int)))),u_ (V.ref L),u_ x,u_ (V.str z),u_ (V.int (j:Int))] _;rw[en];refine ad (n+(1+↑z)) w' us _ U Z af (λh1 h2=>?_) (λh=>?_) () (by rw[hm];simp![nd];omega)
    .rw[<-hG,AdH ht h1]
    .rw[<-hG];rcases h with h|h
     .exact NG h
     .refine Acn ?_;simp![sz];omega
  |_=>
   refine iU ?_
   exact(0,_,0,hy,0,iU (no U hG (Ty rfl)))
abbrev LET:Str:="abcdefghijklmnopqrstuvwxyz"
abbrev NSG:Str:="abcdefghijklmnopqrstuvwxyz0123456789./"
abbrev nm (z:Str):Bool:=decide (1<=(↑z:Int))&&decide ((↑z:Int)<=24)&&inS ⟨#[z.cps.getD 0 0]⟩ LET&&(z.cps.toList.map λc=>inS ⟨#[c]⟩ NSG).all id
abbrev mM:D->Bool
 | .str z=>nm z|_=>Vd
inductive Oj:Sp
 |mk (v:_)(d:_)(_:vs= [v])(_:Is H d v)(_:∀H',ic H H'->Q (.bl (mM d)) H')
def BU (h:1<=↑z):atI z.cps.toList 0=u_ (z.cps.getD 0 0):=by
 let h':0<z.cps.size:=h;let q:z.cps.toList[0]? =u_ (z.cps.getD 0 0):=by simp[Array.getD,h']
 exact qy q
def Ab5 (z:Str):(z.cps.toList.map λc=>V.bl (inS ⟨#[c]⟩ NSG))=(z.cps.toList.map λc=>inS ⟨#[c]⟩ NSG).map V.bl:=by
 rw[uO]
 rfl
def Bz (h:¬(1<=(↑z:Int)/\(↑z:Int)<=24)):nm z=false:=by
 unfold nm;by_cases h1:1<=(↑z:Int)
 .let h2:¬(↑z:Int)<=24:=λq=>h [h1:q];rw[ud h2];simp
 .rw[ud h1];simp
def BA (h:inS ⟨#[z.cps.getD 0 0]⟩ LET=Vd):nm z=false:=by
 unfold nm;rw[h];simp
def Ep (h1:1<=(↑z:Int))(h2:(↑z:Int)<=24)(h:inS ⟨#[z.cps.getD 0 0]⟩ LET=v_):nm z=(z.cps.toList.map λc=>inS ⟨#[c]⟩ NSG).all id:=by
 unfold nm;rw[h,u8 h1,u8 h2];simp
def xu:#[T,1,a.f_is_name,a.d_is_name,["value"],Oj]:=by
 rw[9,T.iF,Cp]
 erw[h,x,d,rfl,hv,k];rw[3,%[@qI _ _ _ _ _ _ _ _ #[jI,#[Qo,#[Qe,#[qz,#[qW,2,rfl],T.qS,uZ,#v[pv 0,#[yd,.ty "str",T.wB,V2]]]]],#[Yu,#[Qo,#[Bt,12,DU,DU,qh,#[qz,wk,T.QZ,uJ,#v[pv 0]],#[qaS,T.ZF],_]]]].pt %[|#[qo,Yx]] qp,#[qI,#[qm,8,oJ,#[qE,BM,pv 0,qh],#[Aba,4,_,T.m_LETTERS,_],#[w]],%[|#[qo,Yx]],qp]|#[qo,#[qz,#[zh,1,rfl],T.z_all,tE,#v[#[Xw,["sign"],[],Ni,#[MW,4,pv 0],(λ_ _ _ _ _ _=>#[qJ,(0),(show Vu (["sign"]:oj Str) by decide+kernel)]),(λ_ _ _ _ _ _=>#[Qb,8,DV,pv 0,#[Aba,4,_,T.m_NAME_SIGNS,_],#[w]])]]]]]]
 rw[0,x,"str",tyD d,isStr d,1,hv.ty,Jg d,0];cases hd:isStr d with
 |false=>
  refine iY (iY ?_);have:=k H (ic.refl H);let e:mM d=false:=by cases d<;>first|rfl|simp[isStr] at hd
  rwa[e] at this
 |true=>
  obtain⟨z,rfl⟩:∃z,d= !z:=by cases d<;>simp[isStr] at hd;exact⟨0⟩
  erw[hv,rfl,hz];let k:∀H',ic H H'->Q (.bl (nm z)) H':=k;refine iU ?_
  rw[0,z,1,hz,_,0,1,0];let stop:nm z=Vd->Q (.bl Vd) H:=λe=>by
   have:=k H (ic.refl H);rwa[e] at this
  refine ky (λZ=>?_) (λZ=>?_)
  .let aa:1<=(↑z:Int):=ui Z
   rw[_,_,0,1,0];by_cases U:(↑z:Int)<=24
   .rw[u8 U];refine iU ?_
    rw[0,_,_,0,1,hz,BU (),_,0,1,0]
    cases e:inS ⟨#[z.cps.getD 0 0]⟩ LET with
    |false=>
     let e':(!(Hf ("abcdefghijklmnopqrstuvwxyz":Str) ⟨#[z.cps.getD 0 0]⟩ 0 ("abcdefghijklmnopqrstuvwxyz":Str).length 1).isEmpty)=false:=e;rw[e'];refine iY ?_;exact stop (BA e)
    |true=>
     let e':(!(Hf ("abcdefghijklmnopqrstuvwxyz":Str) ⟨#[z.cps.getD 0 0]⟩ 0 ("abcdefghijklmnopqrstuvwxyz":Str).length 1).isEmpty)=true:=e;rw[e'];refine iU ?_
     rw[0,z,1,λD hD=>?_];refine AbA (λc=> .bl (inS ⟨#[c]⟩ NSG)) (hz) hD (λi c H' R hc sm r=>(0,_,0,1,r)) λH' sm hl=>?_
     rw[_,D,z.cps.toList.map λc=>inS ⟨#[c]⟩ NSG,1,SqL.of (by rw[hl,Ab5])]
     have:=k H' sm;rwa[Ep aa U e] at this
   .rw[ud U];refine iY ?_;exact stop (Bz λq=>U q.2)
  .rw[0];refine iY ?_;exact stop (Bz λq=>Z (u8 q.1))
end
abbrev Aah:om Pt->D
 |none=> .non|some p=>p.d
inductive Of:Sp
 |mk (n:Nat)(kd:Kd)(z:Str)(_:vs= [!kd.t,!z,.int (n:Int)])(_:n<=40)(_:↑z<=300)(_:∀(v:V)(H':Hp),ic H H'->Is H' (Aah (Yt n kd z)) v->Q v H')
inductive Dr (K:PySem.W.Frag):Sp
 |mk (z:Str)(ks:List Kd)(q:Addr)(_:vs= [!z,-q])(_:↑z<=300)(_:↑ks<=3)(_:SqT K H q (ks.map λk=>V.str k.t))(_:∀p,H p=U_->Q (-p) (upd H p (.lst ((pcs ks z).map V.str))))
def Qz {c:Bool}{A B:Prop}(h:c=Vd)(b:B):if c=v_ then A else B:=by rw[A4 (by rw[h];exact uc)];exact b
def QT {c:Bool}{A B:Prop}(h:c=v_)(a:A):if c=v_ then A else B:=by rw[A6 h];exact a
def Zf (ks:oj Kd):(ks.map λk=>V.str k.t)=(ks.map Kd.t).map V.str:=by rw[uO];rfl
def IN (ks:oj Kd):inV (-"words") (ks.map λk=>V.str k.t)=decide (Kd.words>ks):=by
 rw[Zf,Jw,vd,Af];constructor
 .rintro⟨k,U,e⟩;cases k with|words=>exact U|box=>exact A8 e ()|line=>exact A8 e ()
 .intro h;exact[_:h:1]
def BR:∀x>FRM,↑x.2<=3:=by decide+kernel
def qav (h:z∉BX):Yt n .box z=none:=by
 unfold Yt;exact A4 h
def zE (h:z>BX):Yt n .box z=u_ (.s z):=by
 unfold Yt;exact A6 h
def kl (h:z∉(Vq n).map λi:Nat=>(Vo (1+(i:Int)):Str)):Yt n .line z=none:=by
 unfold Yt;rw[Tj,Ut];intro i hi e;exact h (Af.mpr [i:hi:ui e])
def Xh (h:z>(Vq n).map λi:Nat=>(Vo (1+(i:Int)):Str)):∃j:Int,1<=j/\j<=n/\z=(Pt.n j).t/\Yt n .line z=u_ (.n j):=by
 erw[Af.mp h,i,hi,e];unfold Yt;cases e2:(Vq n).find? λi:Nat=>decide ((Vo (1+(i:Int)):Str)=z) with
 |none=>exact A8 (u8 e) (List.find?_eq_none.mp e2 i hi)|some j=>
  let h1:=V0 e2;let h2:=List.mem_range.mp (vX e2);exact(1+(j:Int),(),(),(ui h1).symm,by show rP _ _=_;rw[e2];rfl)
section
variable {P:o9}{w:og}{K:o0}{mg:Str->om o6}{base:o8}{a:Ad}{g:Ga}
def Ps:#[C,1,a.f_part_of,a.d_part_of,["kind","piece","count"],Of]:=by
 rw[9,T.nH,kX]
 erw[h,n,kd,z,rfl,hn,hz,k];rw[3,%[#[qI,#[qm,Qd,pv 0,qi],%[|#[qo,pv 1]],qp],#[qI,#[qm,Qd,pv 0,qi],%[|#[qo,#[ym,#[qm,8,QV,pv 1,#[pe_gR,C.m_BOXES],#[w]],pv 1,qR]]],qp],#[Bu,2,["number"],(1),[],(3),12,kX.nd,rfl,GZ rfl,Ni,rfl,#[DM,7,_,T.Jj,#v[qh,#[qV,Q1,pv 2,qh]],_,_],(λ_ _ _ _ _ _=>#[qJ,(0),(show Vu (["number"]:oj Str) by decide+kernel)]),(λ_ _ _ _ _ _=> @yB _),(λ_ _ _ _ _ _=>#[Qj,J9,T.wB,V2,#v[pv 0]]),_,_,_]|#[qo,#[ym,#[qm,8,QV,pv 1,pv 3,#[w]],#[Qj,IC,T.z_int,boot_int,#v[pv 1]],qR]]]]
 rw[0,1,0];cases kd with
 |words=>
  refine QT () [0:?_]
  exact k _ H (ic.refl _) [1:yL ()]
 |box=>
  refine Qz () (0,1,0,?_)
  refine QT () (0,g.boxes,0,.inr (C.boxes _),1,jK _,0,?_)
  rw[A4 uc,Jw];refine ky (λc=>?_) (λc=>?_)
  .let Z:z>BX:=ui c;rw[zE Z] at k;exact[0:k _ H (ic.refl _) [1:yL ()]]
  .let Z:z∉BX:=λq=>c (u8 q);rw[qav Z] at k;exact k _ H (ic.refl _) rfl
 |line=>
  refine Qz () (0,1,0,?_)
  refine Qz () ?_
  rw[0,_,0,1,(1),(n:Int)+1,1,((),(),(),()),λL hL=>?_]
  rw[show((n:Int)+1-1).toNat=n by omega]
  refine wK (lo:=1) (tl:= []) (λi ys H'=>ys=(Vq i).map (λi:Nat=>V.str (Vo (1+(i:Int))))/\ic H H') (nB ()) [1:qf hL _] ?_ ?_
  .rintro i ys H' hi ⟨rfl,sm⟩ U hy R hR
   rw[0,0,?_,hR _ _ U [?_:?_]]
   .let h1:(1+(i:Int)).natAbs<=41:=by omega
    let h2:=tP (1+(i:Int)).natAbs;omega
   .rw[rT,uj]
    rfl
   .intro b o e;rw[qk (ql e hL)];exact sm b o e
  .rintro ys H' ⟨rfl,sm⟩ U;let hy:(Vq n).map (λi:Nat=>V.str (Vo (1+(i:Int))))=((Vq n).map λi:Nat=>(Vo (1+(i:Int)):Str)).map V.str:=by rw[uO];rfl
   rw[5]
   refine(0,0,L,0,.inl (SqL.of U),1,by rw[hy];exact jK _,0,?_)
   rw[A4 uc,hy,Jw];refine ky (λc=>?_) (λc=>?_)
   .erw[Xh (ui c),j,j1,j2,rfl,ej];rw[ej] at k;let hj:=oO j1 ()
    exact(0,_,j,1,qay j1 (),uY hj.1 (),k _ _ sm rfl)
   .rw[kl λq=>c (u8 q)] at k;exact k _ _ sm rfl
def Eb:#[T,1,a.Wr,a.W7,["line","form"],(Dr K)]:=by
 rw[9,T.mV,nY]
 erw[h,z,ks,q,rfl,hz,hk,Z,k];rw[3,%[#[qI,#[qm,8,QV,qi,pv 1,#[w]],%[|#[qo,#[YS,vb,Uo,Up,Eu,pv 0,#v[qi,#[qz,qG,T.QZ,uJ,#v[pv 1]]]]]],qp]|#[qo,#[YS,vb,Uo,Up,BD,pv 0,#v[qi]]]]]
 rw[5]
 refine(0,q,0,.inr Z,1,by rw[Zf];exact jK _,0,?_)
 rw[A4 uc,IN];unfold pcs at k;refine ky (λc=>?_) (λc=>?_)
 .let U:Kd.words>ks:=ui c;rw[A6 U] at k;let h0:0<↑ks:=List.length_pos_iff.mpr λe=>by rw[e] at U;simp at U
  exact(0,1,0,q,0,.inr Z,_,↑ks,1,by rw[u7],(),h0,(),k)
 .let U:Kd.words∉ks:=λz=>c (u8 z);rw[A4 U] at k;exact(0,1,0,1,(),k)
abbrev AdW:om Rw->D
 |none=> .non|some r=>rowD r
abbrev Qw (n:Nat):D->om Rw
 | .str z=>w8 n z|_=>U_
inductive Dq:Sp
 |mk (v:V)(d:D)(n:Nat)(_:vs= [v,.int (n:Int)])(_:Is H d v)(_:n<=40)(_:∀(v':V)(H':Hp),ic H H'->Is H' (AdW (Qw n d)) v'->Q v' H')
def Cu:∀{d:D},Mg d=Vd->Qw n d=U_
 | .str z,h=>by
  show w8 n z=U_;unfold w8;exact A4 (by rw[show QH z=Vd from h];exact uc)
 | .non,_=>rfl| .int _,_=>rfl| .bl _,_=>rfl| .lst,_=>rfl| .dct,_=>rfl| .tup _,_=>rfl
def NO:∀{d:D},Mg d=v_->∃z,d= !z
 | .str z,_=>[z:1]
abbrev JL (n:Nat)(ks:oj Kd)(zs:oj Str):oj (om Pt):=List.zipWith (Yt n) ks zs
set_option tactic.hygienic true in
def kW {n:Nat}:∀{ks:oj Kd}{zs:oj Str},(JL n ks zs).any Hl=v_->YI n ks zs=U_
 | [],_,h=>by simp[JL] at h|_::_,[],h=>by simp[JL] at h|k::ks,z::zs,h=>by
  rw[JL,TW,UH,HR] at h;unfold YI;rcases h with h|h
  .rw[Option.isNone_iff_eq_none.mp h]
  .rw[kW h];split
   .rename_i h1 h2;rw[h2,0]
   .rfl
def Ka {n:Nat}:∀{ks:oj Kd}{zs:oj Str},↑zs=↑ks->(JL n ks zs).any Hl=Vd->∃ps,YI n ks zs=u_ ps/\JL n ks zs=ps.map u_
 | [],[],_,_=>[[]:1:1]| [],_::_,hl,_=>by simp at hl|_::_,[],hl,_=>by simp at hl|k::ks,z::zs,hl,h=>by
  rw[JL,TW,UH,Bool.or_eq_false_iff] at h;obtain⟨ps,U,e2⟩:=Ka (ks:=ks) (zs:=zs) (by simpa using hl) h.2
  cases e:Yt n k z with
  |none=>rw[e] at h;rw[h.1,0]|some p=>
   rw[_,p::ps,?_,?_]
   .unfold YI;rw[e,U]
   .rw[JL,TW,e,uA]
    congr 1
def MH {H:Hp}:∀{os:oj (om Pt)}{vs:oj V},L2.IsL H (os.map Aah) vs->vs.all ZE=v_/\inV .non vs=os.any Hl
 | [],_,h=>by rw[show _= [] from h,0];exact[1:1]|q::ps,_,h=>by
  erw[h,v,r,rfl,h1,h2];erw[MH h2,Z,i2];let U:ZE v=v_/\eqV v .non=q.isNone:=by
   cases q with
   |none=>rw[show v= .non from h1,0];exact[1:1]|some q=>
    cases q with
    |s z=>erw[h1,rfl,_,<-[1:1]]|n i=>rw[show v= .int i from h1,0];exact[1:1]
  rw[_,?_,?_]
  .rw[vN,U.1,Z];rfl
  .show(eqV v .non||inV .non r)=_
   rw[U.2,i2];rfl
def DI {α:Type}(l:oj α)(h:α->D)(f:Nat->D)(U:∀i q,l[i]? =u_ q->f i=h q):(Vq ↑l).map f=l.map h:=by
 apply List.ext_getElem
 .simp
 .intro i h1 h2;simp![u7,List.length_range] at h1;simp![List.getElem_map,List.getElem_range];exact U i l[i] (ub h1)
def D8:#[C,2,a.f_row_of,a.d_row_of,["line","count"],Dq]:=by
 let wW:=#[kC,T];let aa:=#[Ps,T,C];let U:=#[Eb,T];refine T.si.F.ok xH () (λ_ _ _ _ H vs Q E hr h=>?_)
 erw[h,v,d,n,rfl,hv,hn,k];rw[3,%[#[qI,#[Qo,#[Qe,#[qt,wW,T.mR,#v[pv 0]]]],%[|#[qo,qR]],qp],#[qF,(2),xH.nd,#[qE,qB,#[YS,vb,PySem.F.slot_str_partition,PySem.F.type_str_partition,Sg,pv 0,#v[qi]],qh]],#[qI,#[qm,8,O2,pv 2,#[pe_gR,C.m_FORMS],#[w]],%[|#[qo,qR]],qp],#[qF,(3),xH.nd,#[qE,AdZ,#[pe_gR,C.m_FORMS],pv 2]],#[qF,(4),xH.nd,#[qt,U,T.mV,#v[pv 0,pv 3]]],#[qI,#[qm,Ao,#[qz,qG,T.QZ,uJ,#v[pv 4]],#[qV,Q1,qh,#[qz,qG,T.QZ,uJ,#v[pv 3]]]],%[|#[qo,qR]],qp],#[qF,(5),xH.nd,#[Qj,Qk,T.QO,vx,#v[#[Xw,2,["kind","piece","count"],(2),[1],9,Md (qj wE) ["line","count","word","form","pieces","parts"],rfl,#[Aa6,9,_,T.z_zip,#v[pv 3,#[QK,qaK,pv 4,#[yf,qh],yi]],_,_],(λ_ _ _ _ _ _=>#[DN,1,K,3,(2),1,rfl,rfl,qT #[qJ,(0),(show Vu (["kind","piece","count"]:oj Str) by decide+kernel)] (qT #[qJ,(1),(show Vu (["kind","piece","count"]:oj Str) by decide+kernel)] yW),_,_]),(λ_ _ _ _ _ _=> @yB _),(λ_ _ _ _ _ _=>#[qt,aa,T.nH,#v[pv 0,pv 1,pv 2]]),_]]]]|#[qo,#[ym,#[qm,8,QV,qR,pv 5,#[w]],qR,#[qA,#v[pv 2,pv 5]]]]]]
 rw[0,v,d,1,hv,0];cases e0:Mg d with
 |false=>
  rw[Cu e0] at k;exact QT rfl (k _ H (ic.refl _) rfl)
 |true=>
 erw[NO e0,z,rfl];erw[hv,rfl,au];let ht:QH z=true:=e0;let hz:↑z<=300:=by
  let Z:=ht;unfold QH at Z;rw[uE,vm] at Z;exact Z.1
 let k:∀(v':V) (H':Hp),ic H H'->Is H' (AdW (w8 n z)) v'->Q v' H':=k;refine Qz rfl ?_
 rw[0,1,0,1,(),λt1 x1 x2 g1=>?_]
 rw[_,t1,_,(0),0,1,SqT.of qg,1];let s1:ic H (upd H t1 (-[.str (hd z),!x1,!x2])):=qf g1 _;generalize upd H t1 (-[.str (hd z),!x1,!x2])=H1 at s1⊢;unfold w8 at k;rw[A6 ht] at k;cases ef:Xn (hd z) with
 |none=>
  rw[ef] at k
  exact(0,hd z,g.forms,0,1,C.kd,C.none_ _ ef,0,QT rfl (k _ _ s1 rfl))
 |some ks=>
 let hk:=Zn ef;rw[ef] at k;simp only at k;erw[C.forms _ hk,q,ah,ac];let hf:↑ks<=3:=BR _ hk
 rw[0,hd z,g.forms,0,1,C.kd,ah,0];refine Qz rfl ?_
 rw[0,hd z,g.forms,_,-q,1,1,C.kd,ah,1]
 rw[0,0,z,ks,q,1,hz,hf,ac _,λp2 g2=>?_];let s2:ic H1 (upd H1 p2 (.lst ((pcs ks z).map V.str))):=qf g2 _;let e2:(upd H1 p2 (.lst ((pcs ks z).map V.str))) p2=u_ (.lst ((pcs ks z).map V.str)):=qg;generalize upd H1 p2 (.lst ((pcs ks z).map V.str))=H2 at s2 e2⊢
 rw[0,p2,0,.inl (SqL.of e2),0,q,0,.inr (ac _),_,0,1,1,0];by_cases hl:↑(pcs ks z)=1+↑ks
 case neg=>
  rw[A4 hl] at k;refine QT ?_ (k _ _ (s1.trans s2) rfl);rw[u7,u7];show(!(decide) (V.int _=V.int _))=v_;rw[ud]
  .rfl
  .intro q;have:(↑(pcs ks z):Int)=1+(↑ks:Int):=V.int.inj q;omega
 rw[A6 hl] at k;refine Qz ?_ ?_
 .rw[u7,u7,show(↑(pcs ks z):Int)=1+(↑ks:Int) by omega]
  simp
 let af:↑((pcs ks z).drop 1)=↑ks:=by rw[vh];omega
 let ak:∀p>(pcs ks z).drop 1,↑p<=300:=λp hp=>by
  let Z:=ht;unfold QH at Z;rw[uE,vm] at Z;exact(MM Z.1 Z.2 p (vF hp)).1
 rw[0,0,0,p2,0,SqL.of e2,λp3 g3=>?_];let al:nE ((pcs ks z).map V.str) (u_ 1) U_=((pcs ks z).drop 1).map V.str:=by
  rw[show(u_ (1:Int))=u_ (((1:Nat)):Int) from rfl,J6 (by rw[u7];omega),Fo]
 rw[al];generalize (pcs ks z).drop 1=zs at af ak k⊢;let s3:ic H2 (upd H2 p3 (.lst (zs.map V.str))):=qf g3 _;let e3:(upd H2 p3 (.lst (zs.map V.str))) p3=u_ (.lst (zs.map V.str)):=qg;generalize upd H2 p3 (.lst (zs.map V.str))=H3 at s3 e3⊢;let ao:↑(JL n ks zs)=↑ks:=by rw[JL,List.length_zipWith];omega
 rw[_,q,p3,_,0,ac _,SqL.of e3,λA1 gA=>?_];refine Abx (K:=K) (tl:= [u_ (.int (n:Int))]) (xs:=ks.map λk:Kd=>V.str k.t) (ys:=zs.map V.str) (λi=>Aah ((JL n ks zs).getD i U_)) (λH' _=>ac H') (λH' sm=>SqL.of (sm _ _ e3)) (by simp[af]) (by rw[u7];exact yL ()) gA ?_ ?_
 .intro i x y H4 R hx hy s4 hR;rw[uH] at hx hy;cases ag:ks[i]? with
  |none=>rw[ag,0] at hx|some kd=>
   rw[ag,0] at hx;cases ad:zs[i]? with
   |none=>rw[ad,0] at hy|some z1=>
    rw[ad,0] at hy
    rw[0,0,0,n,kd,z1,1,hn,ak _ (uW ad),λv H5 s5 hv=>hR v H5 s5 ?_];let e:(JL n ks zs).getD i U_=Yt n kd z1:=by simp[GP,JL,List.getElem?_zipWith,ag,ad]
    simp![e];exact hv
 intro H5 vs s5 e5 h5;let am:L2.IsL H5 ((JL n ks zs).map Aah) vs:=by
  rw[u7,<-ao] at h5;rw[DI (JL n ks zs) Aah _ (λi q1 hi=>by simp[GP,hi])] at h5
  exact h5
 rw[_,A1,vs,1,.inl [SqL.of e5:λt6 g6=>?_]];let s6:ic H5 (upd H5 t6 (¬vs)):=qf g6 _;let i6:Is (upd H5 t6 (¬vs)) (.tup ((JL n ks zs).map Aah)) (-t6):=Is.new am g6;let e6:(upd H5 t6 (¬vs)) t6=u_ (¬vs):=qg;generalize upd H5 t6 (¬vs)=H6 at s6 i6 e6⊢;erw[MH am,f1,f2];let ae:=s1.trans (s2.trans (s3.trans (s5.trans s6)))
 rw[0,t6,vs,1,.inr (SqT.of e6),1,f1,0];rw[A4 uc,f2];refine ky (λc=>?_) (λc=>?_)
 .rw[kW c] at k;exact k _ _ ae rfl
 .let c':(JL n ks zs).any Hl=false:=by
   cases h:(JL n ks zs).any Hl with
   |false=>rfl|true=>exact A8 h c
  erw[Ka af c',ps,q1,q2];rw[q1] at k;rw[q2,uO] at i6
  rw[0,0,(sml rfl),λt7 g7=>?_];let ap:↑(hd z)<=sizeLine:=by
   let aq:∀x>FRM,↑x.1<=100:=by decide+kernel
   have:=aq _ hk;exact yL (by simp only at this;omega)
  exact k _ _ (ae.trans (qf g7 _)) (Is.new (ds:= [.str (hd z),.tup (ps.map Pt.d)]) (_,0,[1:ap],_,0,i6,1) g7)
def DQ {M:Nat}(hn:n<=40){k:Kd}{p:Pt}(h:Aaf n M k p):Yt n k p.t=u_ p:=by
 cases k with
 |words=>
  cases p with
  |s z=>rfl|n i=>rw[h,0]
 |box=>
  cases p with
  |s z=>exact zE h|n i=>rw[h,0]
 |line=>
  cases p with
  |s z=>rw[h,0]|n i=>
   let h1:1<=i/\i<=n:=h;let hm:(Pt.n i).t>(Vq n).map λi:Nat=>(Vo (1+(i:Int)):Str):=Af.mpr ⟨(i-1).toNat,List.mem_range.mpr (),by show(Vo (1+(((i-1).toNat:Nat):Int)):Str)=Vo i;rw[show 1+(((i-1).toNat:Nat):Int)=i by omega]⟩
   erw[Xh hm,j,Z,j2,ej,e];rw[e];let b1:=qay (i:=i) h1.1 ()
   let b2:=qay (i:=j) Z ()
   let U:(Vo i:Str)=Vo j:=ej;rw[U,b2] at b1;rw[uL b1]
def Kz {n M:Nat}(hn:n<=40):∀{ks:oj Kd}{ps:oj Pt},jE n M ks ps->YI n ks (ps.map Pt.t)=u_ ps
 | [],[],_=>rfl|k::ks,p::ps,h=>by
  rw[uA];unfold YI;rw[DQ hn h.1,Kz hn h.2]
 | [],_::_,h=>h.elim|_::_,[],h=>h.elim
variable {ks:oj Kd}
def E9 {w:Str}(h:(w,ks)>FRM):Xn w=u_ ks:=by
 cases e:Xn w with
 |none=>exact A8 rfl (WY e _ h)|some U=>
  have:=E8 _ (Zn e) _ h rfl;rw[(Prod.mk.inj this).2]
variable {r:Rw}
def Ct {M:Nat}(hn:n<=40)(h:JN n M r)(ht:QH (Yz r)=v_):w8 n (Yz r)=u_ r:=by
 let hh:=Si h;erw[h,ks,Z,U];unfold w8;rw[A6 ht,hh,E9 Z];simp only;let hs:pcs ks (Yz r)=txs r:=Mb hn Z U;let hl:=ZY U;rw[hs,A6 (by unfold txs;rw[um,u7];omega)]
 show rP _ (YI n ks (r.2.map Pt.t))=_;rw[Kz hn U]
 rfl
abbrev jY (rs:oj Rw):D:= .tup (rs.map λr=> .str (Yz r))
structure QY (rs:oj Rw):Prop where
 n0:1<=↑rs
 n1:↑rs<=40
 ok:∀r>rs,JN ↑rs 300 r
 tree:isT (jY rs)=v_
def se:∀{ds:oj D}{d:D},goodL ds=v_->d>ds->good d=v_
 |x::xs,d,h,hm=>by
  simp![goodL,uE] at h;rcases Ab.mp hm with rfl|hm
  .exact h.1
  .exact se h.2 hm
variable {rs:oj Rw}
def QY.text (h:QY rs)(U:r>rs):QH (Yz r)=true:=by
 let h1:=h.tree;unfold isT at h1;rw[uE,uE] at h1;let h2:=h1.1.1;unfold jY at h2;simp![good,uE] at h2;have:=se h2.2 (Af.mpr [r:U:1])
 simpa only [good] using this
abbrev ye:D->om (oj Rw)
 | .tup ds=>if(decide (1<=↑ds)&&decide (↑ds<=40)&&ds.all (λd=>(Qw ↑ds d).isSome)&&isT (¬ds))=v_ then u_ (ds.filterMap (Qw ↑ds)) else U_|_=>U_
def zt (ds:oj D):ye (¬ds)=if(decide (1<=↑ds)&&decide (↑ds<=40)&&ds.all (λd=>(Qw ↑ds d).isSome)&&isT (¬ds))=v_ then u_ (ds.filterMap (Qw ↑ds)) else none:=rfl
def oz {n:Nat}:∀{rs:oj Rw},(∀r>rs,Qw n (.str (Yz r))=u_ r)->(rs.map λr=>D.str (Yz r)).filterMap (Qw n)=rs
 | [],_=>rfl|r::rs,h=>by
  rw[uA,Uh (h r ug),oz λx U=>h x (uf _ U)]
def QY.rowD (h:QY rs)(U:r>rs):Qw ↑rs (.str (Yz r))=u_ r:=Ct h.n1 (h.ok r U) (h.text U)
def QY.read (h:QY rs):ye (jY rs)=u_ rs:=by
 let hl:↑(rs.map λr=>D.str (Yz r))=↑rs:=u7 ..;let Z:=h.tree;unfold jY at Z⊢;rw[zt,hl,A6]
 .rw[oz λr U=>h.rowD U]
 .rw[u8 h.n0,u8 h.n1,Z,List.all_eq_true.mpr]
  .rfl
  .intro d hd;erw[Af.mp hd,r,U,rfl];rw[h.rowD U]
   rfl
abbrev Ad6 (d x y:D):Prop:=(∀rs,ye d=u_ rs->x= .tup (rs.map L2.rowD)/\y= .non)/\(ye d=U_->∃i:Int,y= .int i)
inductive Od:Sp
 |mk (v:V)(d:D)(_:vs= [v])(_:Is H d v)(_:∀(u:V)(H':Hp)(x y:D),ic H H'->Ad6 d x y->Is H' (-[x,y]) u->Q u H')
def DH {d x:D}{i:Int}(h:ye d=U_):Ad6 d x (.int i):=⟨λrs e=>(by rw[h,0] at e),λ_=>[i:1]⟩
def zD {α:Type}{o:om α}(h:o.isSome=v_):∃x,o=u_ x:=by cases o with|none=>rw[h,0]|some x=>exact[x:1]
variable {ds:oj D}
def DE {d:D}(h1:ds[i]? =u_ d)(h2:Qw n d=u_ r):(ds.take (i+1)).filterMap (Qw n)=(ds.take i).filterMap (Qw n)++ [r]:=by
 rw[uV,h1,List.filterMap_append];simp[h2]
def Bl {n:Nat}:∀{ds:oj D},(∀z>ds,(Qw n z).isSome=v_)->↑(ds.filterMap (Qw n))=↑ds
 | [],_=>rfl|z::ds,h=>by
  erw[zD (h z ug),r,e];rw[Uh e,um,um];exact Aa (·+1) (Bl λy U=>h y (uf _ U))
def D9:#[C,3,a.wf,a.ZO,["value"],Od]:=by
 let yM:=#[jM,T];let aa:=#[D8,T,C];refine T.md.F.ok YO () (λ_ _ _ _ H vs Q E hr h=>?_)
 erw[h,v,d,rfl,hv,k];rw[3,%[@qI _ _ _ _ _ _ _ _ #[jI,#[Qo,#[Qe,#[qz,#[qW,2,rfl],T.qS,uZ,#v[pv 0,#[yd,.ty "tuple",T.QO,vx]]]]],#[Yu,#[Qo,#[Bt,12,DU,DU,qh,#[qz,qG,T.QZ,uJ,#v[pv 0]],#[qaS,T.m_MOST_LINES],_]]]].pt %[|#[qo,#[qA,#v[#[qA,qd],qh]]]] qp,#[qF,(1),YO.nd,#[QE,qd]],#[y7,#[wq,pv 0],#[qJ,(2),YO.nd],%[#[qF,(3),YO.nd,#[qt,aa,T.si,#v[pv 2,#[qz,qG,T.QZ,uJ,#v[pv 0]]]]],#[qI,#[qm,yk,pv 3,qR],%[|#[qo,#[qA,#v[#[Qj,Qk,T.QO,vx,#v[pv 1]],#[qV,Q1,#[qz,qG,T.QZ,uJ,#v[pv 1]],qh]]]]],qp]|#[qY,#[YS,uM,vK,vL,Y7,pv 1,#v[pv 3]]]]]|#[qo,#[qA,#v[#[Qj,Qk,T.QO,vx,#v[pv 1]],#[ym,#[Qe,#[qt,yM,T.lr,#v[pv 0]]],qR,qh]]]]]]
 rw[0,v,"tuple",_,zp d,1,hv.ty,JW d,0];let Z:ye d=U_->∀(t:o3),H t=U_->∀t2,(upd H t (-[])) t2=U_->Q (-t2) (upd (upd H t (-[])) t2 (-[-t,.int 1])):=λhn t g t2 g2=>
  k _ _ (-[]) (.int 1) ((qf g _).trans (qf g2 _)) (DH hn) (Is.new (ds:= [-[],.int 1]) (_,0,Is.new (ds:= []) rfl g,_,0,1,1) g2)
 cases ht:zp d with
 |false=>
  let hn:ye d=none:=by
   cases d with
   |tup ds=>rw[ht,0]|_=>rfl
  exact iY (iY [(sml rfl):λt g1=>[(sml rfl):λt2 g2=>Z hn t g1 t2 g2]])
 |true=>
 obtain⟨ds,rfl⟩:∃ds,d=¬ds:=by
  cases d with
  |tup ds=>exact[ds:1]|_=>rw[ht,0]
 refine iU ?_;let ad:=hv;erw[ad,va,us,rfl,ha,hu];let ae:↑us=↑ds:=↑hu
 rw[0,va,us,1,.inr (SqT.of ha),_,0,1,0];let no:¬(1<=↑ds/\↑ds<=40/\(∀z>ds,(Qw ↑ds z).isSome=v_)/\isT (¬ds)=v_)->ye (¬ds)=none:=λhc=>by
  unfold ye;refine A4 λz=>hc ?_;simp![uE,vm,U4] at z;exact(z.1.1.1,z.1.1.2,z.1.2,z.2)
 by_cases c1:1<=↑ds
 case neg=>
  refine Qz (ud ()) [0:?_]
  exact iY [(sml rfl):λt g1=>[(sml rfl):λt2 g2=>Z (no λz=>c1 z.1) t g1 t2 g2]]
 refine QT (u8 ()) ?_
 rw[_,_,0,1,0];by_cases c2:↑ds<=40
 case neg=>
  refine QT (by rw[ud ()];rfl) ?_
  exact[(sml rfl):λt g1=>[(sml rfl):λt2 g2=>Z (no λz=>c2 z.2.1) t g1 t2 g2]]
 refine Qz (by rw[u8 ()];rfl) ?_
 rw[_,(sml rfl),λL1 g1=>?_]
 rw[0,va,1,[us:SqT.of (qf g1 _ _ _ ha)]]
 refine_lift let J1_:Nat->L2.St->Hp->Prop:=λi σ H'=>i<=↑ds/\(∀z>ds.take i,(Qw ↑ds z).isSome=v_)/\∃(ws:oj V) (x2 x3:om V),σ= [u_ (-va),u_ (-L1),x2,x3]/\H' L1=u_ (.lst ws)/\L2.IsL H' (((ds.take i).filterMap (Qw ↑ds)).map L2.rowD) ws/\ic H H';?_
 refine xB (K:=K) (a:=va) (xs:=us) J1_
  (uK _,(λz hz=>by simp at hz),[],U_,U_,1,qg,1,qf g1 _) (λi σ H' _ ⟨_,_,_,_,_,_,_,_,sm⟩=>SqT.of (sm _ _ ha)) ?_ ?_
 .rintro i x σ H' hx ⟨ak,U,ws,x2,x3,rfl,e1,hw,sm⟩;let ac:i<↑ds:=by
   erw[Ag.mp hx,h,_];omega
  erw[hu.get (i:=i) (d:=ds[i]) (ub ac),x',af,al];rw[hx,0] at af;let am:↑ws=i:=by
   rw[↑hw,u7,Bl U,uQ];omega
  rw[5]
  refine(0,0,va,us,1,.inr (SqT.of (sm _ _ ha)),x,ds[i],↑ds,by rw[ae];rfl,al.mono sm.tk,c2,λv H2 s2 hv=>?_)
  let e2:=s2 _ _ e1;cases er:Qw ↑ds ds[i] with
  |some r=>
   rw[er] at hv;let hv:Is H2 (L2.rowD r) v:=hv;let ad:=hv;erw[ad,ag,ao,rfl,_,_]
   rw[0,1,0];refine Qz (ud λz=>by rw[z,0]) ?_
   rw[0,.inl [1:_:SqL.of e2],0,L1,ws,0,1,e2,zf ()]
   let t3:Tk H2 (upd H2 L1 (.lst (ws++ [-ag]))):=Tk.updL e2
   rw[_,ac,λz hz=>?_,ws++ [-ag],_,0,qg,?_,λb o e=>?_]
   .rw[uV,ub ac] at hz;rcases Ae.mp hz with hz|hz
    .exact U z hz
    .have:z=ds[i]:=by simpa using hz
     rw[this,er]
     rfl
   .rw[DE (ub ac) er,uj];exact((hw.mono s2.tk).mono t3).append (IsL.one (hv.mono t3))
   .rw[qk (ql e g1)];exact s2 b o (sm b o e)
  |none=>
   rw[er] at hv;rw[show v= .non from hv,0]
   rw[0,1,0];refine QT rfl ?_
   rw[0,L1,ws,1,.inl [SqL.of e2:λt1 g2=>?_]];let s3:ic H2 (upd H2 t1 (¬ws)):=qf g2 _;let i3:Is (upd H2 t1 (¬ws)) (.tup (((ds.take i).filterMap (Qw ↑ds)).map L2.rowD)) (-t1):=Is.new (hw.mono s2.tk) g2
   rw[0,L1,ws,1,.inl (SqL.of (s3 _ _ e2)),_,0,1,(sml rfl),λt4 g4=>?_];exact k _ _ _ (.int _) (sm.trans (s2.trans (s3.trans (qf g4 _)))) (DH (no λz=>by have:=z.2.2.1 _ (uN ac);rw[er,0] at this)) (Is.new (ds:= [.tup (((ds.take i).filterMap (Qw ↑ds)).map L2.rowD),.int _]) (_,0,i3,_,0,1,1) g4)
 .rintro σ H' ⟨ak,U,ws,x2,x3,rfl,e1,hw,sm⟩;rw[ae,vT] at hw U
  rw[0,L1,ws,1,.inl [SqL.of e1:λt1 g2=>?_]];let s2:ic H' (upd H' t1 (¬ws)):=qf g2 _;let i2:Is (upd H' t1 (¬ws)) (.tup ((ds.filterMap (Qw ↑ds)).map L2.rowD)) (-t1):=Is.new hw g2;generalize upd H' t1 (¬ws)=H2 at s2 i2⊢
  rw[0,_,¬ds,1,hv.mono (sm.trans s2).tk,λH3 s3=>?_]
  rw[0];cases hT:isT (¬ds) with
  |true=>
   refine QT rfl [(sml rfl):λt4 g4=>?_];let ah:ye (¬ds)=u_ (ds.filterMap (Qw ↑ds)):=by
    rw[zt,A6];rw[u8 c1,u8 c2,hT,List.all_eq_true.mpr U]
    rfl
   exact k _ _ _ .non (sm.trans (s2.trans (s3.trans (qf g4 _)))) ⟨λrs e=>(by rw[ah,0] at e;exact[1:1]),λe=>(by rw[ah,0] at e)⟩ (Is.new (ds:= [.tup ((ds.filterMap (Qw ↑ds)).map L2.rowD),.non]) (_,0,i2.mono s3.tk,_,0,1,1) g4)
  |false=>
   refine Qz rfl [(sml rfl):λt4 g4=>?_];exact k _ _ _ (.int 1) (sm.trans (s2.trans (s3.trans (qf g4 _)))) (DH (no λz=>by have:=z.2.2.2;rw[hT,0] at this)) (Is.new (ds:= [.tup ((ds.filterMap (Qw ↑ds)).map L2.rowD),.int 1]) (_,0,i2.mono s3.tk,_,0,1,1) g4)
inductive Oa (br:Addr)(vs:List V)(H:Hp)(Q:VK)(E:XK):Prop
 |mk (v:V)(d:D)(_:vs= [v])(_:Is H d v)(_:(∀rs,ye d=u_ rs->∀(u:V)(H':Hp),ic H H'->Is H' (.tup (rs.map L2.rowD)) u->Q u H'))(_:(ye d=U_->∀(e:Addr)(H':Hp),ic H H'->E (-e) (u_ br) H'))
def Po (T:Tx K mg a)(C:Fx K w mg g a):FnOk P w K mg base (CX1 P w) 4 a.WS a.wR ["tree"] (Oa g.br):=by
 let xF:=#[D9,T,C];refine T.lK.F.okX ZT () (λ_ _ _ _ H _ Q E hr h=>?_)
 erw[h,v,d,rfl,hv,k,kB];rw[3,%[#[qF,(1),ZT.nd,#[qt,xF,T.md,#v[pv 0]]],#[qI,#[qm,Zq,#[qE,qB,pv 1,qh],qR],%[|#[qaB,22,C.x_BadRule,_,C.m_BadRule,qi,_,_]],qp]|#[qo,#[qE,qB,pv 1,qh]]]]
 rw[0,v,d,1,hv,λu H1 x y s1 hd Z=>?_]
 rw[0]
 try dsimp![tC]
 refine XH (i:=1) (d:=y) Z rfl λz hz=>?_;cases U:ye d with
 |none=>
  erw[hd.2 U,i,rfl];rw[show z= .int i from hz,0]
  rw[1,0];refine QT (by rw[ud (λz=>by rw[z,0])];rfl) ?_
  exact[1:λe=>kB U e H1 s1]
 |some rs=>
  erw[hd.1 rs U,rfl,rfl];rw[show z= .non from hz,0]
  rw[1,0];refine Qz rfl ?_
  rw[0]
  try dsimp![tC]
  refine XH (i:=0) (d:= .tup (rs.map L2.rowD)) Z rfl λq hq=>?_;exact k rs U q H1 s1 hq
end
abbrev kvB (f:Str->V):oj (Key×V):=BX.map λz=>(Vf z,f z)
def Aao {f:Str->V}:∀{zs:oj Str}{z:Str},z>zs->iP (zs.map λz=>((Vf z:Key),f z)) (Vf z)=u_ (f z)
 |y::ys,z,h=>by
  rw[uA];by_cases e:y=z
  .subst e;exact Q2 rfl
  .let h':z>ys:=by
    rcases Ab.mp h with rfl|h
    .exact A8 rfl e
    .exact h
   have:=Aao (f:=f) h';unfold iP at this⊢;rw[vi];let e2:decide ((Vf y:Key)=Vf z)=false:=ud λq=>e (Uu q);simp![e2];exact this
def AcZ {f:Str->V}{u:V}(h:z>BX):lV (kvB f) (Vf z) u=kvB λy=>if y=z then u else f y:=by
 unfold lV;rw[A6]
 .unfold kvB;rw[uO];refine UP λy _=>?_;by_cases e:y=z
  .simp[e]
  .simp[e]
 .rw[Rl];exact⟨(Vf z,f z),Af.mpr [z:h:1],by simp⟩
abbrev YM (H:Hp)(d:o3)(B:Str->D):Prop:=∃f:Str->V,H d=u_ (.dK (kvB f))/\∀z>BX,Is H (B z) (f z)
abbrev Bi (B:Str->D)(z:Str)(e:D):Str->D:=λy=>if y=z then e else B y
variable {H H':Hp}
def YM.same {d:o3}{B:Str->D}(h:YM H d B)(s:ic H H'):YM H' d B:=let⟨f,e,i⟩:=h;[f:s _ _ e:λz hz=>(i z hz).mono s.tk]
def YM.move {d:o3}{B:Str->D}(h:YM H d B)(t:Tk H H')(e:H' d=H d):YM H' d B:=let⟨f,e1,i⟩:=h;[f:e.trans e1:λz hz=>(i z hz).mono t]
def YM.get {d:o3}{B:Str->D}(h:YM H d B)(hz:z>BX):∃v,mT H d (!z) (u_ v)/\Is H (B z) v:=by
 erw[h,f,e,i];rw[_,f z,?_,i z hz];have:=mT.k (k:=(Vf z:Key)) e;rw[show iP (kvB f) (Vf z)=u_ (f z) from Aao hz] at this
 exact this
variable {e:D}
def YM.put {d:o3}{B:Str->D}{u:V}(h:YM H d B)(hz:z>BX)(U:Is H e u):∃kvs,C4 H d (!z) u (upd H d (.dK kvs))/\YM (upd H d (.dK kvs)) d (Bi B z e)/\Tk H (upd H d (.dK kvs)):=by
 erw[h,f,ed,i];refine(kvB λy=>if y=z then u else f y,.inl (_,Vf z,ed,1,by show ↑BX<Vg;rw[uB];decide,by rw[AcZ hz]),[_:qg:λy Z=>?_],Tk.updD ed)
 let t:Tk H (upd H d (.dK (kvB λy=>if y=z then u else f y))):=Tk.updD ed
 unfold Bi;by_cases c:y=z
 .rw[A6 c,A6 c];exact U.mono t
 .rw[A4 c,A4 c];exact(i y Z).mono t
abbrev Xe:oj D->Bool
 | []=>v_| .str _::r=>Xe r|_=>Vd
abbrev Xo:oj D->oj Str
 | .str z::r=>z::Xo r|_=> []
abbrev b0 (ps:oj Pt):Str:=(ps.getD 0 (.s "")).t
abbrev b1 (ps:oj Pt):Str:=(ps.getD 1 (.s "")).t
abbrev b2 (ps:oj Pt):Str:=(ps.getD 2 (.s "")).t
abbrev Ia:D->D
 | .str z=>if ↑z=0 then .non else .str ⟨#[z.cps.getD 0 0]⟩| .tup (x::_)=>x|_=> .non
abbrev OM:D->D
 | .str z=>if ↑z=0 then .non else .str (HJ z (u_ 1) U_)| .tup (_::r)=>¬r|_=> .non
abbrev Abw:D->Nat
 | .str z=>↑z| .tup xs=>↑xs|_=>0
abbrev AdV:D->D->D
 | .tup xs,e=> .tup (xs++ [e])|_,_=> .non
abbrev AbJ:D->D->D
 | .str x,.str y=> .str (x++y)|_,_=> .non
abbrev Ad3:D->D->D
 | .str z,.str y=>if ↑y=0 then .non else .tup ((spG z y).map .str)|_,_=> .non
abbrev AbL:D->D->D
 | .tup xs,.str y=>if Xe xs=v_ then .str (Vl y (Xo xs)) else .non|_,_=> .non
abbrev made (w:Str)(B:Str->D)(own:Str)(ps:oj Pt):D:=
 if w="text" then .str (b1 ps) else if w="self" then .str own else if w="copy" then B (b1 ps) else if w="row" then .tup [] else
 if w="put" then AdV (B (b0 ps)) (B (b1 ps)) else if w="join" then AbJ (B (b0 ps)) (B (b1 ps)) else if w="first" then Ia (B (b1 ps)) else if w="rest" then OM (B (b1 ps)) else
 if w="size" then .str (Vo ((Abw (B (b1 ps)):Nat):Int)) else if w="cut" then Ad3 (B (b1 ps)) (B (b2 ps)) else AbL (B (b1 ps)) (B (b2 ps))
variable {ks:oj Kd}
def ya {m:Nat}{w:Str}{ps:oj Pt}(h:JN n m (w,ps))(U:(w,ks)>FRM):jE n m ks ps:=by
 erw[h,Z,h1,h2];have:=E8 _ h1 _ U rfl;rw[this,0];exact h2
section
variable {n m:Nat}{ps:oj Pt}{p:Pt}{k:Kd}{ks:oj Kd}
def Ac1 (h:jE n m (k::ks) ps):∃p r,ps=p::r/\Aaf n m k p/\jE n m ks r:=by
 cases ps with
 |nil=>exact h.elim|cons p r=>exact(p,r,1,h.1,h.2)
def Aae (h:jE n m (.box::ks) ps):∃x r,ps= .s x::r/\x>BX/\jE n m ks r:=by
 erw[Ac1 h,p,r,rfl,h1,h2];cases p with
 |s x=>exact(x,r,1,h1,h2)|n _=>exact h1.elim
def Ac0 (h:jE n m [] ps):ps= []:=by
 cases ps with
 |nil=>rfl|cons _ _=>exact h.elim
def Acq (h:jE n m [.box] ps):∃x,ps= [.s x]/\x>BX:=by
 erw[Aae h,x,r,rfl,U,h];rw[Ac0 h];exact[x:1:U]
def wA (h:jE n m [.box,.box] ps):∃x y,ps= [.s x,.s y]/\x>BX/\y>BX:=by
 erw[Aae h,x,r,rfl,U,h];erw[Acq h,y,rfl,Z,<-(x,y,1,U,Z)]
def MQ (h:jE n m [.box,.box,.box] ps):∃x y z,ps= [.s x,.s y,.s z]/\x>BX/\y>BX/\z>BX:=by
 erw[Aae h,x,r,rfl,U,h];erw[wA h,y,z,rfl,Z,<-(x,y,z,1,U,Z)]
def AcR (h:jE n m [.box,.words] ps):∃x y,ps= [.s x,.s y]/\x>BX/\↑y<=m/\y.cps.toList.all QI=true:=by
 erw[Aae h,x,r,rfl,U,h];erw[Ac1 h,p,r,rfl,h1,h2];rw[Ac0 h2];cases p with
 |s y=>exact(x,y,1,U,h1)|n _=>exact h1.elim
def Aem (h:jE n m [.line] ps):∃i:Int,ps= [.n i]/\1<=i/\i<=n:=by
 erw[Ac1 h,p,r,rfl,h1,h2];rw[Ac0 h2];cases p with
 |n i=>exact[i:1:h1]|s _=>exact h1.elim
def OE (h:jE n m [.box,.line] ps):∃x,∃i:Int,ps= [.s x,.n i]/\x>BX/\1<=i/\i<=n:=by
 erw[Aae h,x,r,rfl,U,h];erw[Aem h,i,rfl,hi,<-(x,i,1,U,hi)]
def AaU (h:jE n m [.box,.box,.line] ps):∃x y,∃i:Int,ps= [.s x,.s y,.n i]/\x>BX/\y>BX/\1<=i/\i<=n:=by
 erw[Aae h,x,r,rfl,U,h];erw[OE h,y,i,rfl,Z,<-(x,y,i,1,U,Z)]
end
abbrev II (H:Hp)(t:o3)(ps:oj Pt):Prop:=Is H (.tup (ps.map Pt.d)) (-t)
abbrev Tr (B:Str->D):Prop:=∀z>BX,isT (B z)=v_
inductive zn (w:Str):Sp
 |mk (d t:Addr)(own:Str)(B:Str->D)(ps:List Pt)(n:Nat)(_:vs= [-d,!own,-t])(_:YM H d B)(_:Tr B)(_:↑own<=100)(_:JN n 300 (w,ps))(_:II H t ps)(_:∀(v:V)(H':Hp),ic H H'->Is H' (made w B own ps) v->Q v H')
variable {K:o0}{Q:VK}
def ID {t:o3}{ps:oj Pt}(h:II H t ps)(e:ps[i]? =u_ (.s z))(q:Q (!z) H):OQ K (-t) (.int (i:Int)) H Q:=
 XH (d:= !z) h (qy (by rw[uH,e];rfl)) λx U=>by erw[U,rfl,_,<-q]
def JE {d:D}(h:isT d=v_):dp d<=12:=by
 unfold isT at h;rw[uE] at h;exact ui h.2
def Nm {d:D}(h:isT d=v_):sz d<=600:=by
 unfold isT at h;rw[uE,uE] at h;exact ui h.1.2
def Y2 {d:D}(h:isT d=v_):Abw d<=600:=by
 let h1:=Nm h;cases d with
 |str z=>simp![sz] at h1;show ↑z<=600;omega|tup xs=>
  unfold isT at h;rw[uE,uE] at h;let h2:=h.1.1;simp![good,uE] at h2;have:=ui h2.1;show ↑xs<=600;omega
 |_=>exact uK _
def IG (z y:Str):↑(z++y:Str)=↑z+↑y:=by
 show(z.cps++y.cps).size=z.cps.size+y.cps.size;exact TL
def nN {t d:o3}{B:Str->D}{ps:oj Pt}(U:YM H d B)(h:II H t ps)(e:ps[i]? =u_ (.s z))(hz:z>BX)(q:∀v,Is H (B z) v->Q v H):OQ K (-t) (.int (i:Int)) H (λy H2=>NF Q (-d) y H2):=by
 erw[U.get hz,v,Z,iv,<-ID h e (d,v,1,Z,q v iv)]
section
variable {P:o9}{w:og}{K:o0}{mg:Str->om o6}{base:o8}{a:Ad}{g:Ga}
def O8:#[T,1,a.XY,a.WA,["boxes","own","parts"],(zn "text")]:=by
 rw[9,T.lH,nV]
 erw[h,d,t,own,B,ps,n,rfl,hB,hT,ho,U,Z,k];rw[3,%[|#[qo,#[qE,qB,pv 2,qh]]]]
 erw[AcR (ya U ()),x,y,rfl,hx,hy,hs]
 exact⟨0,ID (i:=1) Z rfl (k _ H (ic.refl _) ⟨1,yL (by show ↑y<=1000;omega)⟩)⟩
def Pn:#[T,1,a.XI,a.Wb,["boxes","own","parts"],(zn "self")]:=by
 rw[9,T.lJ,nX,Z]
 erw[h,d,t,own,B,ps,n,rfl,hB,hT,ho,U,hp,k];rw[3,%[|#[qo,pv 1]]]
 exact⟨0,k _ H (ic.refl _) ⟨1,yL (by show ↑own<=1000;omega)⟩⟩
def Abj:#[T,1,a.Zt,a.Kr,["boxes","own","parts"],(zn "row")]:=by
 rw[9,T.l8,sY]
 erw[h,d,t,own,B,ps,n,rfl,hB,hT,ho,Z,hp,k];rw[3,%[|#[qo,#[qA,qd]]]]
 exact[(sml rfl):λl U=>k _ _ (qf U _) (Is.new (ds:= []) rfl U)]
def PM:#[T,1,a.XM,a.Wf,["boxes","own","parts"],(zn "copy")]:=by
 rw[9,T.lS,oo,Z]
 erw[h,d,t,own,B,ps,n,rfl,hB,hT,ho,U,hp,k];rw[3,%[|#[qo,#[QN,6,QU Z,pv 0,#[qE,qB,pv 2,qh],(λ_ _=>rfl)]]]]
 erw[wA (ya U ()),x,y,rfl,hx,hy]
 rw[0,0];exact nN (i:=1) hB hp rfl hy λv iv=>k _ H (ic.refl _) iv
def Abk:#[T,1,a.Zi,a.kA,["boxes","own","parts"],(zn "put")]:=by
 rw[9,T.me,Wj]
 erw[h,d,t,own,B,ps,n,rfl,hB,hT,ho,aa,U,k];rw[3,%[#[qF,(3),Wj.nd,#[QN,pv 0,#[qE,qB,pv 2,qh]]],#[qI,#[Qo,#[Qe,#[qz,#[qW,2,rfl],T.qS,uZ,#v[pv 3,#[yd,.ty "tuple",T.QO,vx]]]]],%[|#[qo,qR]],qp]|#[qo,#[qV,YD,pv 3,#[qA,#v[#[QN,pv 0,#[qE,qB,pv 2,qh]]]]]]]]
 erw[wA (ya aa ()),x,y,rfl,hx,hy]
 rw[0,0];refine nN (i:=0) hB U rfl hx λv iv=>?_
 rw[0,v,"tuple",tyD (B x),zp (B x),1,iv.ty,JW _,0];let Z:=Y2 (hT x hx);let k':∀(v:V) (H':Hp),ic H H'->Is H' (AdV (B x) (B y)) v->Q v H':=k;generalize B x=dx at iv k' Z⊢;cases dx with
 |tup xs=>
  refine iU ?_;erw[iv,r,rs,rfl,er,ir]
  rw[0,0,0];refine nN (i:=1) hB U rfl hy λu iu=>?_
  rw[_,(sml rfl),λl hl=>(r,l,rs,[u],1,1,SqT.of (qf hl _ _ _ er),SqT.of qg,?_,λe=>?_,λ_ e=>(by rw[e,0]),λ_ _ p U=>?_)]
  .rw[↑ir];have:↑xs<=600:=Z;exact yL (by show ↑xs+1<=1000;omega)
  .subst e;let e2:xs= []:=vI ir.length.symm;subst e2;exact k' _ _ (qf hl _) (Is.new (ds:= [B y]) (IsL.one iu) hl)
  .let t1:Tk H (upd H l (-[u])):=(qf hl _).tk;exact k' _ _ ((qf hl _).trans (qf U _)) (Is.new (ds:=xs++ [B y]) ((ir.mono t1).append (IsL.one (iu.mono t1))) U)
 |_=>exact iY (k' _ H (ic.refl _) rfl)
def PD:#[T,1,a.Xt,a.WO,["boxes","own","parts"],(zn "join")]:=by
 rw[9,T.lO,xI]
 erw[h,d,t,own,B,ps,n,rfl,hB,hT,ho,aa,hp,k];rw[3,%[#[qF,(3),xI.nd,#[QN,pv 0,#[qE,qB,pv 2,qh]]],#[qF,(4),xI.nd,#[QN,pv 0,#[qE,qB,pv 2,qh]]],@qI _ _ _ _ _ _ _ _ #[jI,#[Qo,#[Qe,#[qz,#[qW,2,rfl],T.qS,uZ,#v[pv 3,#[yd,.ty "str",T.wB,V2]]]]],#[Yu,#[Qo,#[Qe,#[qz,#[qW,2,rfl],T.qS,uZ,#v[pv 4,#[yd,.ty "str",T.wB,V2]]]]]]].pt %[|#[qo,qR]] qp|#[qo,#[qV,QA,pv 3,pv 4]]]]
 erw[wA (ya aa ()),x,y,rfl,hx,hy]
 rw[0,0];refine nN (i:=0) hB hp rfl hx λv iv=>?_
 rw[0,0];refine nN (i:=1) hB hp rfl hy λu iu=>?_;let lx:=Y2 (hT x hx);let ly:=Y2 (hT y hy);let U:∀(v:V) (H':Hp),ic H H'->Is H' (AbJ (B x) (B y)) v->Q v H':=k;generalize B x=dx at iv U lx⊢;generalize B y=Z at iu U ly⊢
 rw[0,v,"str",tyD dx,isStr dx,1,iv.ty,Jg _,0];cases dx with
 |str z=>
  refine iU (0,u,"str",tyD Z,isStr Z,1,iu.ty,Jg _,0,?_);cases Z with
  |str z2=>
   refine iU ?_;erw[iv,rfl,_];erw[iu,rfl,_];let h1:↑z<=600:=lx;let h2:↑z2<=600:=ly;exact(0,0,_,0,1,nB (),U _ H (ic.refl _) ⟨1,by rw[show(z++z2).length=↑z+↑z2 from IG z z2];exact nB ()⟩)
  |_=>exact iY (U _ H (ic.refl _) rfl)
 |_=>exact iY (U _ H (ic.refl _) (by cases Z<;>rfl))
def LP:#[T,1,a.xf,a.ZP,["boxes","own","parts"],(zn "first")]:=by
 rw[9,T.lm,X3]
 erw[h,d,t,own,B,ps,n,rfl,hB,hT,ho,aa,hp,k];rw[3,%[#[qF,(3),X3.nd,#[QN,pv 0,#[qE,qB,pv 2,qh]]]|#[qo,#[ym,#[qm,Ap,#[qz,xh,T.QZ,uJ,#v[pv 3]],qh],#[qE,zB,pv 3,qh],qR]]]]
 erw[wA (ya aa ()),x,y,rfl,hx,hy]
 rw[0,0];refine nN (i:=1) hB hp rfl hy λv Z=>?_;let ly:=Y2 (hT y hy);let hg:=hT y hy;let U:∀(v:V) (H':Hp),ic H H'->Is H' (Ia (B y)) v->Q v H':=k;generalize B y=dy at Z U ly hg⊢;cases dy with
 |str z=>
  erw[Z,rfl,hz]
  rw[0,.inl (z,1,hz,_,0,1,0,?_)];refine ky (λc=>?_) (λc=>?_)
  .let h0:1<=↑z:=by have:=ui c;omega
   let k2:Is H (Ia (!z)) (.str ⟨#[z.cps.getD 0 0]⟩):=by
    show Is H (if ↑z=0 then D.non else _) _
    rw[A4 ()]
    exact⟨1,yL (by show 1<=1000;decide)⟩
   exact[0:.inr (.inr (z,(0),0,1,hz,BU h0,U _ H (ic.refl _) k2))]
  .let h0:↑z=0:=by
    rcases RQ ↑z with e|e
    .exact e
    .exact A8 (u8 ()) c
   exact U _ H (ic.refl _) (by show Is H (if ↑z=0 then D.non else _) _;rw[A6 h0];rfl)
 |tup xs=>
  let ac:=Z;erw[ac,r,rs,rfl,er,ir]
  rw[0,.inr (r,rs,1,.inr (SqT.of er),λ_=>(_,0,1,0,?_))];let hl:=↑ir;cases xs with
  |nil=>exact Qz (ud (by rw[hl];decide)) (U _ H (ic.refl _) rfl)|cons e es=>
   refine QT (u8 (by rw[hl,um];omega)) ?_
   exact[0:.inr (.inl (XH (i:=0) (d:=e) Z (qy (j:=0) rfl) λq hq=>U _ H (ic.refl _) hq))]
 |_=>simp[isT,good] at hg
def Kn:∀xs:oj D,Xe xs=xs.all isStr
 | []=>rfl| .str _::r=>by show Xe r=_;rw[Kn r];rfl| .non::_| .bl _::_| .int _::_| .lst::_| .dct::_| .tup _::_=>rfl
def Be:∀{xs:oj D},Xe xs=v_->xs=(Xo xs).map D.str
 | [],_=>rfl| .str z::r,h=>by
  show D.str z::r=D.str z::(Xo r).map D.str;rw[<-Be (show Xe r=v_ from h)]
def IsL.strs {H:Hp}:∀{l:oj Str}{vs:oj V},L2.IsL H (l.map D.str) vs->vs=l.map V.str
 | [],_,h=>h|_::_,_,h=>by
  erw[h,v,r,rfl,h1,h2];rw[IsL.strs h2,h1.1];rfl
def IsL.ofStrs {H:Hp}:∀{l:oj Str},(∀z>l,↑z<=Vg)->L2.IsL H (l.map D.str) (l.map V.str)
 | [],_=>rfl|z::l,h=>(_,0,[1:h z ug],IsL.ofStrs λy U=>h y (uf _ U))
def Bd:∀(l:oj Str),(l.map (·.length)).sum+↑l=szL (l.map D.str)
 | []=>rfl|z::l=>by
  have:=Bd l;simp![uA,UI,um,szL,sz];omega
def EI (sep:Str):∀(l:oj Str),↑(Vl sep l)<=(l.map (·.length)).sum+↑l*↑sep
 | []=>uK _| [x]=>by simp[Vl]|x::y::r=>by
  let U:=EI sep (y::r);let e:↑(Vl sep (x::y::r))=↑x+↑sep+↑(Vl sep (y::r)):=by
   show((x.cps++sep.cps)++(Vl sep (y::r)).cps).size=_;rw[TL,TL]
   rfl
  rw[e,uA,UI,um,Nat.succ_mul];omega
def Pr:#[T,1,a.XQ,a.WV,["boxes","own","parts"],(zn "rest")]:=by
 rw[9,T.lL,ZR]
 erw[h,d,t,own,B,ps,n,rfl,hB,hT,ho,aa,Z,k];rw[3,%[#[qF,(3),ZR.nd,#[QN,pv 0,#[qE,qB,pv 2,qh]]]|#[qo,#[ym,#[qm,Ap,#[qz,xh,T.QZ,uJ,#v[pv 3]],qh],#[QK,AaT,pv 3,#[yf,qh],yi],qR]]]]
 erw[wA (ya aa ()),x,y,rfl,hx,hy]
 rw[0,0];refine nN (i:=1) hB Z rfl hy λv iv=>?_;let ly:=Y2 (hT y hy);let hg:=hT y hy;let U:∀(v:V) (H':Hp),ic H H'->Is H' (OM (B y)) v->Q v H':=k;generalize B y=dy at iv U ly hg⊢;cases dy with
 |str z=>
  erw[iv,rfl,hz]
  rw[0,.inl (z,1,hz,_,0,1,0,?_)];refine ky (λc=>?_) (λc=>?_)
  .let h0:1<=↑z:=by have:=ui c;omega
   let k2:Is H (OM (!z)) (.str (HJ z (u_ 1) U_)):=by
    show Is H (if ↑z=0 then D.non else _) _
    rw[A4 ()]
    exact[1:uY (RT z _ _) hz]
   exact[0:0:.inl (z,1,hz,U _ H (ic.refl _) k2)]
  .let h0:↑z=0:=by
    rcases RQ ↑z with e|e
    .exact e
    .exact A8 (u8 ()) c
   exact U _ H (ic.refl _) (by show Is H (if ↑z=0 then D.non else _) _;rw[A6 h0];rfl)
 |tup xs=>
  let ac:=iv;erw[ac,r,rs,rfl,er,ir]
  rw[0,.inr (r,rs,1,.inr (SqT.of er),λ_=>(_,0,1,0,?_))];let hl:=↑ir;cases xs with
  |nil=>exact Qz (ud (by rw[hl];decide)) (U _ H (ic.refl _) rfl)|cons e es=>
   refine QT (u8 (by rw[hl,um];omega)) ?_
   erw[ir,v0,r0,rfl,i0,i1]
   rw[0,0,.inr (r,v0::r0,1,SqT.of er,λh=>?_,λ_ p Z=>?_)]
   .exfalso;have:=h.1;simp[HT.sIx] at this
   .let e1:nE (v0::r0) (u_ 1) U_=r0:=by
     rw[show(u_ (1:Int))=u_ (((1:Nat)):Int) from rfl,J6 (by simp)]
     rfl
    rw[e1];exact U _ _ (qf Z _) (Is.new i1 Z)
 |_=>simp[isT,good] at hg
def Pm:#[T,1,a.XA,a.Wp,["boxes","own","parts"],(zn "size")]:=by
 rw[9,T.lI,nW]
 erw[h,d,t,own,B,ps,n,rfl,hB,hT,ho,U,hp,k];rw[3,%[|#[qo,#[Qj,J9,T.wB,V2,#v[#[qz,xh,T.QZ,uJ,#v[#[QN,pv 0,#[qE,qB,pv 2,qh]]]]]]]]]
 erw[wA (ya U ()),x,y,rfl,hx,Z]
 rw[0,0];refine nN (i:=1) hB hp rfl Z λv iv=>?_;let ly:=Y2 (hT y Z);let hg:=hT y Z;let k':∀(v:V) (H':Hp),ic H H'->Is H' (.str (Vo ((Abw (B y):Nat):Int))) v->Q v H':=k;generalize B y=dy at iv k' ly hg⊢;let sm:∀n:Nat,n<=600->((n:Int)).natAbs.log2<1920/\↑((Vo (n:Int):Str))<=sizeLine:=by
  intro n hn;let h2:=tP ((n:Int)).natAbs;exact[():int_text_fits ()]
 cases dy with
 |str z=>
  erw[iv,rfl,hz];let h2:=sm ↑z ly;exact .inl (z,1,hz,0,h2.1,k' _ H (ic.refl _) [1:h2.2])
 |tup xs=>
  let aa:=iv;erw[aa,r,rs,rfl,er,ir];let h2:=sm ↑xs ly;refine .inr (r,rs,1,.inr (SqT.of er),λ_=>[0:?_:?_])
  .rw[↑ir];exact h2.1
  .rw[↑ir];exact k' _ H (ic.refl _) [1:h2.2]
 |_=>simp[isT,good] at hg
def Abo:#[T,1,a.Za,a.KF,["boxes","own","parts"],(zn "cut")]:=by
 rw[9,T.mf,Xx]
 erw[h,d,t,own,B,ps,n,rfl,hB,hT,ho,aa,hp,k];rw[3,%[#[qF,(3),Xx.nd,#[QN,pv 0,#[qE,qB,pv 2,qh]]],#[qF,(4),Xx.nd,#[QN,pv 0,#[qE,qB,pv 2,qh]]],@qI _ _ _ _ _ _ _ _ #[jI,#[Qo,#[Qe,#[qz,#[qW,2,rfl],T.qS,uZ,#v[pv 3,#[yd,.ty "str",T.wB,V2]]]]],#[jI,#[Qo,#[Qe,#[qz,#[qW,2,rfl],T.qS,uZ,#v[pv 4,#[yd,.ty "str",T.wB,V2]]]]],#[Yu,#[qm,Qd,pv 4,qi]]]].pt %[|#[qo,qR]] qp|#[qo,#[Qj,Qk,T.QO,vx,#v[#[YS,vb,Uo,Up,Ev,pv 3,#v[pv 4]]]]]]]
 erw[MQ (ya aa ()),x0,x,y,rfl,ac,hx,hy]
 rw[0,0];refine nN (i:=1) hB hp rfl hx λv iv=>?_
 rw[0,0];refine nN (i:=2) hB hp rfl hy λu iu=>?_;let lx:=Y2 (hT x hx);let ly:=Y2 (hT y hy);let Z:∀(v:V) (H':Hp),ic H H'->Is H' (Ad3 (B x) (B y)) v->Q v H':=k;generalize B x=dx at iv Z lx⊢;generalize B y=dy at iu Z ly⊢
 rw[0,v,"str",tyD dx,isStr dx,1,iv.ty,Jg _,0];cases dx with
 |str z=>
  refine iU (0,u,"str",tyD dy,isStr dy,1,iu.ty,Jg _,0,?_);cases dy with
  |str U=>
   refine iU ?_;erw[iv,rfl,_];erw[iu,rfl,_];let h1:↑z<=600:=lx;let h2:↑U<=600:=ly
   rw[0,1,0];refine ky (λc=>?_) (λc=>?_)
   .let e:U="":=by have:=ui c;injection this
    subst e;exact Z _ H (ic.refl _) rfl
   .let h3:↑U≠0:=λh=>c (u8 (by
     have:U="":=by
      have h4:U.cps= #[]:=Array.eq_empty_of_size_eq_zero h;rw[U,0];simp only at h4;subst h4
      decide+kernel
     rw[this]))
    rw[0,1,0,z,U,1,1,(),(),λp hp=>[p:0:.inl [SqL.of qg:λl hl=>?_]]]
    let s1:ic H (upd H p (.lst ((spG z U).map V.str))):=qf hp _;refine Z _ _ (s1.trans (qf hl _)) ?_;show Is _ (if ↑U=0 then D.non else .tup ((spG z U).map D.str)) _
    rw[A4 h3];exact Is.new (IsL.ofStrs λq hq=>yL (by have:=OB hq;omega)) hl
  |_=>exact iY (Z _ H (ic.refl _) rfl)
 |_=>exact iY (Z _ H (ic.refl _) (by cases dy<;>rfl))
def PJ:#[T,1,a.XG,a.Wg,["boxes","own","parts"],(zn "glue")]:=by
 rw[9,T.lR,xw]
 erw[h,d,t,own,B,ps,n,rfl,hB,hT,ho,ae,hp,k];rw[3,%[#[qF,(3),xw.nd,#[QN,pv 0,#[qE,qB,pv 2,qh]]],#[qF,(4),xw.nd,#[QN,pv 0,#[qE,qB,pv 2,qh]]],@qI _ _ _ _ _ _ _ _ #[jI,#[Qo,#[Qe,#[qz,#[qW,2,rfl],T.qS,uZ,#v[pv 3,#[yd,.ty "tuple",T.QO,vx]]]]],#[Yu,#[Qo,#[Qe,#[qz,#[qW,2,rfl],T.qS,uZ,#v[pv 4,#[yd,.ty "str",T.wB,V2]]]]]]].pt %[|#[qo,qR]] qp,#[qI,#[Qo,#[Qe,#[qz,#[zh,1,rfl],T.z_all,tE,#v[#[Xw,["part"],[],Ni,#[Zb,pv 3],(λ_ _ _ _ _ _=>#[qJ,(0),(show Vu (["part"]:oj Str) by decide+kernel)]),(λ_ _ _ _ _ _=>#[qz,#[qW,2,rfl],T.qS,uZ,#v[pv 0,#[yd,.ty "str",T.wB,V2]]])]]]]],%[|#[qo,qR]],qp]|#[qo,#[YS,vb,Uc,Ud,L7,pv 4,#v[pv 3]]]]]
 erw[MQ (ya ae ()),x0,x,y,rfl,ah,hx,hy]
 rw[0,0];refine nN (i:=1) hB hp rfl hx λv iv=>?_
 rw[0,0];refine nN (i:=2) hB hp rfl hy λu iu=>?_;let lx:=Y2 (hT x hx);let hg:=hT x hx;let ly:=Y2 (hT y hy);let Z:∀(v:V) (H':Hp),ic H H'->Is H' (AbL (B x) (B y)) v->Q v H':=k;generalize B x=dx at iv Z lx hg⊢;generalize B y=dy at iu Z ly⊢
 rw[0,v,"tuple",tyD dx,zp dx,1,iv.ty,JW _,0];cases dx with
 |tup xs=>
  refine iU (0,u,"str",tyD dy,isStr dy,1,iu.ty,Jg _,0,?_);cases dy with
  |str z2=>
   refine iU ?_;erw[iv,r,rs,rfl,er,ir];erw[iu,rfl,_];let h1:↑xs<=600:=lx;let h2:↑z2<=600:=ly
   rw[0,r,rs,1,SqT.of er,λak A0 af=>?_];refine Ax (tl:= []) (λd=> .bl (isStr d)) er ir (nB ()) af (λd0 x0 H3 R al s3 i3 q=>(0,x0,"str",tyD d0,isStr d0,1,i3.ty,Jg _,q _ H3 (ic.refl _) rfl)) λH1 ys s1 l1 i1=>?_
   let ey:ys=(xs.map isStr).map V.bl:=IsL.bls (by rwa[uO])
   subst ey
   rw[_,A0,xs.map isStr,1,SqL.of l1,0];let aa:(xs.map isStr).all id=Xe xs:=by rw[Kn,US];rfl
   rw[aa];cases U:Xe xs with
   |false=>exact iY (Z _ H1 s1 (by show Is H1 (if Xe xs=v_ then _ else D.non) _;rw[U];rfl))|true=>
    let ac:=Be U;let ag:rs=(Xo xs).map V.str:=IsL.strs (by rwa[<-ac])
    let hsz:=Nm hg;let ad:=Bd (Xo xs);rw[<-ac] at ad;simp![sz] at hsz;let am:↑(Xo xs)*↑z2<=600*600:=Nat.mul_le_mul () h2
    let hj:=EI z2 (Xo xs);refine iU (0,1,0,z2,r,Xo xs,1,1,SqT.of (by rw[s1 _ _ er,ag]),(),?_)
    refine Z _ H1 s1 ?_;show Is H1 (if Xe xs=v_ then .str (Vl z2 (Xo xs)) else D.non) _
    rw[U];exact[1:nB ()]
  |_=>exact iY (Z _ H (ic.refl _) rfl)
 |_=>exact iY (Z _ H (ic.refl _) (by cases dy<;>rfl))
abbrev Nj (w:Str)(B:Str->D)(ps:oj Pt):Bool:=if w="like" then eqD (B (b0 ps)) (B (b1 ps)) else if w="rowed" then zp (B (b0 ps)) else if w="none" then decide (Abw (B (b0 ps))=0) else v_
abbrev JMP:oj Str:= ["go","like","rowed","none"]
abbrev ASK:oj Str:= ["ask","has","names"]
abbrev flt (w:Str):D:=-[-"fault",!w]
abbrev sQ (w:Str)(held:D):D:=if w="names" then(if isStr held=v_ then .tup [-"asks",-[-"names",held]] else flt "kind") else if mM held=v_ then .tup [-"asks",-[.str (if w="ask" then "thing" else "has"),held]] else flt "name"
inductive Op:Sp
 |mk (d t:Addr)(w:Str)(B:Str->D)(ps:List Pt)(n:Nat)(_:vs= [-d,!w,-t])(_:YM H d B)(_:Tr B)(_:w>JMP)(_:JN n 300 (w,ps))(_:II H t ps)(_:Q (.bl (Nj w B ps)) H)
inductive Lm:Sp
 |mk (w:Str)(v:V)(d:D)(_:vs= [!w,v])(_:w>ASK)(_:Is H d v)(_:∀(u:V)(H':Hp),ic H H'->Is H' (sQ w d) u->Q u H')
mutual
theorem EX:∀{d:D},good d=v_->puD d=v_
 | .str _,_=>rfl| .tup xs,h=>by
  simp![good,uE] at h;show puL xs=v_;exact goodL_pu h.2
 | .non,h| .bl _,h| .int _,h| .lst,h| .dct,h=>by simp[good] at h
theorem goodL_pu:∀{xs:oj D},goodL xs=v_->puL xs=v_
 | [],_=>rfl|x::r,h=>by
  simp![goodL,uE] at h;simp![puL,EX h.1,goodL_pu h.2,Tq]
end
def Sz {d:D}(h:good d=v_):trD d=true:=by
 cases d with
 |str z=>rfl|tup xs=>exact EX (d:=¬xs) h|_=>simp[good] at h
def yg {d:D}(h:isT d=v_):good d=true:=by
 unfold isT at h;rw[uE,uE] at h;exact h.1.1
def Nl {d:D}(h:isT d=v_):trD d=true:=Sz (yg h)
def Pz:#[T,1,a.xk,a.xG,["boxes","word","parts"],Op]:=by
 rw[9,T.mj,wx]
 erw[h,d,t,w,B,ps,n,rfl,hB,hT,hw,Z,hp,k];rw[3,%[#[qI,#[qm,Qd,pv 1,qi],%[|#[qo,#[Qb,#[DY,1,hr.units],#[QN,pv 0,#[qE,qB,pv 2,qh]],#[QN,pv 0,#[qE,qB,pv 2,qh]]]]],qp],#[qI,#[qm,Qd,pv 1,qi],%[|#[qo,#[qz,#[qW,2,rfl],T.qS,uZ,#v[#[QN,pv 0,#[qE,qB,pv 2,qh]],#[yd,.ty "tuple",T.QO,vx]]]]],qp],#[qI,#[qm,Qd,pv 1,qi],%[|#[qo,#[Qb,Qd,#[qz,xh,T.QZ,uJ,#v[#[QN,pv 0,#[qE,qB,pv 2,qh]]]],qh]]],qp]|#[qo,Yx]]]
 rw[0,1,0];simp![JMP,uF,uI,uR] at hw;rcases hw with rfl|rfl|rfl|rfl
 .refine Qz () ?_
  rw[0,1,0,Qz () ?_]
  rw[0,1,0,Qz () ?_]
  exact k
 .refine QT () ?_
  erw[AaU (ya Z ()),x,y,i,rfl,U,hy,_]
  rw[0,0]
  try dsimp![tC]
  refine nN (i:=0) hB hp rfl U λv iv=>?_
  rw[0,0]
  try dsimp![tC]
  refine nN (i:=1) hB hp rfl hy λu iu=>?_
  rw[_,B x,B y,iv,iu,Nl (hT x U),Nl (hT y hy),?_,k]
  .have:=JE (hT x U);omega
 .refine Qz () ?_
  rw[0,1,0,QT () ?_]
  erw[OE (ya Z ()),x,i,rfl,U,_]
  rw[0,0];refine nN (i:=0) hB hp rfl U λv iv=>?_;exact(v,"tuple",tyD (B x),zp (B x),1,iv.ty,JW _,k)
 .refine Qz () ?_
  rw[0,1,0,Qz () ?_]
  rw[0,1,0,QT () ?_]
  erw[OE (ya Z ()),x,i,rfl,U,_]
  rw[0,0];refine nN (i:=0) hB hp rfl U λv iv=>?_;let k':Q (.bl (decide (Abw (B x)=0))) H:=k;let hg:=hT x U;generalize B x=dx at iv k' hg⊢;let hn:∀n:Nat,decide (V.int (n:Int)=V.int 0)=decide (n=0):=λn=>by
   rw[vd];constructor
   .intro h;injection h with h;omega
   .rintro rfl;rfl
  cases dx with
  |str z=>
   erw[iv,rfl,hz];refine .inl (z,1,hz,1,?_);rw[hn];exact k'
  |tup xs=>
   erw[iv,r,rs,rfl,er,ir];refine .inr (r,rs,1,.inr (SqT.of er),λ_=>[1:?_]);rw[hn,↑ir];exact k'
  |_=>simp[isT,good] at hg
def LV:#[T,2,a.JH,a.JC,["word","held"],Lm]:=by
 let QD:=#[xu,T];rw[9,T.lZ,Zm]
 erw[h,w,v,d,rfl,hw,iv,k];rw[3,%[#[qI,#[qm,Qd,pv 0,qi],%[|#[qo,#[ym,#[Qe,#[qz,#[qW,2,rfl],T.qS,uZ,#v[pv 1,#[yd,.ty "str",T.wB,V2]]]],#[qA,#v[qi,#[qA,#v[qi,pv 1]]]],#[qA,#v[qi,qi]]]]],qp],#[qI,#[Qo,#[Qe,#[qt,QD,T.iF,#v[pv 1]]]],%[|#[qo,#[qA,#v[qi,qi]]]],qp]|#[qo,#[qA,#v[qi,#[qA,#v[#[ym,#[qm,Qd,pv 0,qi],qi,qi],pv 1]]]]]]]
 let two:(2:Nat)<=sizeLine:=by decide
 let st:∀{H:Hp} (z:Str),↑z<=100->Is H (!z) (!z):=λz hz=>[1:yL ()]
 let fl:∀(z:Str) (H:Hp) (l:o3),↑z<=100->H l=U_->Is (upd H l (-[-"fault",!z])) (flt z) (-l):=λz H l hz Z=>Is.new (ds:= [-"fault",!z]) (_,0,st _ (),_,0,st _ hz,1) Z
 rw[0,1,0];by_cases c:w="names"
 .subst c;refine QT () ?_
  let ea:sQ "names" d=if isStr d=v_ then .tup [-"asks",-[-"names",d]] else flt "kind":=by unfold sQ;rw[A6 rfl]
  rw[ea] at k
  rw[0,v,"str",tyD d,isStr d,1,iv.ty,Jg _,0];cases hs:isStr d with
  |true=>
   rw[hs] at k;refine iY [0:two:λl Z=>[two:λl2 U=>?_]];let t1:ic H (upd H l (-[-"names",v])):=qf Z _;refine k _ _ (t1.trans (qf U _)) ?_;exact Is.new (ds:= [-"asks",-[-"names",d]]) (_,0,st _ (),_,0,Is.new (ds:= [-"names",d]) (_,0,st _ (),_,0,iv,1) Z,1) U
  |false=>
   rw[hs] at k;exact iU [two:λl Z=>k _ _ (qf Z _) (fl "kind" H l () Z)]
 .refine Qz (ud λh=>c (by injection h)) ?_
  let ea:sQ w d=if mM d=v_ then .tup [-"asks",-[.str (if w="ask" then "thing" else "has"),d]] else flt "name":=by unfold sQ;rw[A4 c]
  rw[ea] at k
  rw[0,v,d,1,iv,λH1 s1=>[0:?_]];cases hs:mM d with
  |false=>
   rw[hs] at k;exact iY [two:λl Z=>k _ _ (s1.trans (qf Z _)) (fl "name" H1 l () Z)]
  |true=>
   rw[hs] at k;refine iU (0,1,0,?_);let aa:∀z:Str,↑z<=100->z=(if w="ask" then("thing":Str) else "has")->∀l,H1 l=U_->∀l2,(upd H1 l (-[!z,v])) l2=U_->Q (-l2) (upd (upd H1 l (-[!z,v])) l2 (-[-"asks",-l])):=by
    intro z hz ez l Z l2 U;let t1:ic H1 (upd H1 l (-[!z,v])):=qf Z _;refine k _ _ (s1.trans (t1.trans (qf U _))) ?_;rw[<-ez];exact Is.new (ds:= [-"asks",-[!z,d]]) (_,0,st _ (),_,0,Is.new (ds:= [!z,d]) (_,0,st _ hz,_,0,iv.mono s1.tk,1) Z,1) U
   refine ky (λc2=>?_) (λc2=>?_)
   .let e:w="ask":=by have:=ui c2;injection this
    exact⟨0,two,λl Z=>⟨two,λl2 U=>aa "thing" () (by rw[A6 e]) l Z l2 U⟩⟩
   .let e:w≠"ask":=λe=>c2 (u8 (by rw[e]))
    exact⟨0,two,λl Z=>⟨two,λl2 U=>aa "has" () (by rw[A4 e]) l Z l2 U⟩⟩
end
structure Mc where
 (x db dg:o3)
 rs:oj Rw
 own:Str
structure Rn where
 B:Str->D
 p:Int
 n:Nat
 gs:oj D
 th:D
abbrev MTH:oj Str:= ["now","answer","asked","lines","copy","go_on","is_waiting","do_row","hold"]
structure Fl (fs:oj (Str×V))(rv ru:V)(own:Str)(db dg:o3)(place:Int)(done:Nat)(tv:V):Prop where
 rows:fs.lookup ("rows":Str)=u_ rv
 rule:fs.lookup ("rule":Str)=u_ ru
 own:fs.lookup ("own":Str)=u_ (!own)
 boxes:fs.lookup ("boxes":Str)=u_ (-db)
 place:fs.lookup ("place":Str)=u_ (.int place)
 done:fs.lookup ("done":Str)=u_ (.int (done:Int))
 given:fs.lookup ("given":Str)=u_ (-dg)
 there:fs.lookup ("there":Str)=u_ tv
 meth:∀m>MTH,fs.lookup m=U_
 len:↑fs<=20
def jj {f:Str}{v:V}:∀{fs:oj (Str×V)}{u:V},fs.lookup f=u_ u->↑(iN f v fs)=↑fs
 |(g,x)::r,u,h=>by
  unfold iN;by_cases c:g=f
  .rw[A6 c];rfl
  .rw[A4 c,um,um];let e:(f==g)=false:=by simp;exact λz=>c z.symm
   rw[vt,e] at h;rw[jj (u:=u) h]
 | [],u,h=>by simp at h
section
variable {fs:oj (Str×V)}{rv ru:V}{own:Str}{db dg:o3}{place:Int}{done:Nat}{tv:V}
def Fl.set_there {u:V}(h:Fl fs rv ru own db dg place done tv):Fl (iN "there" (u) fs) rv ru own db dg place done u:=by
 refine(?_,?_,?_,?_,?_,?_,?_,?_,λm hm=>?_,by rw[jj h.there];exact h.len)
 all_goals rw[qN]
 all_goals first|rw[A6 rfl]|(rw[A4 ()];first|exact h.rows|exact h.rule|exact h.own|exact h.boxes|exact h.place|exact h.done|exact h.given|exact h.there)|(rw[A4 (λe=>by subst e;revert hm;decide+kernel)];exact h.meth m hm)
def Fl.set_place {q:Int}(h:Fl fs rv ru own db dg place done tv):Fl (iN "place" (.int q) fs) rv ru own db dg q done tv:=by
 refine(?_,?_,?_,?_,?_,?_,?_,?_,λm hm=>?_,by rw[jj h.place];exact h.len)
 all_goals rw[qN]
 all_goals first|rw[A6 rfl]|(rw[A4 ()];first|exact h.rows|exact h.rule|exact h.own|exact h.boxes|exact h.place|exact h.done|exact h.given|exact h.there)|(rw[A4 (λe=>by subst e;revert hm;decide+kernel)];exact h.meth m hm)
def Fl.set_done {k:Nat}(h:Fl fs rv ru own db dg place done tv):Fl (iN "done" (.int ((k:Nat):Int)) fs) rv ru own db dg place k tv:=by
 refine(?_,?_,?_,?_,?_,?_,?_,?_,λm hm=>?_,by rw[jj h.done];exact h.len)
 all_goals rw[qN]
 all_goals first|rw[A6 rfl]|(rw[A4 ()];first|exact h.rows|exact h.rule|exact h.own|exact h.boxes|exact h.place|exact h.done|exact h.given|exact h.there)|(rw[A4 (λe=>by subst e;revert hm;decide+kernel)];exact h.meth m hm)
end
abbrev yx (C:o3)(H:Hp)(m:Mc)(r:Rn):Prop:=
 ∃(dx:o3) (fs:oj (Str×V)) (rv ru tv:V) (gv:oj V),H m.x=u_ (.ins C dx fs)/\Fl fs rv ru m.own m.db m.dg r.p r.n tv/\Is H (.tup (m.rs.map rowD)) rv/\Is H (jY m.rs) ru/\YM H m.db r.B/\H m.dg=u_ (.lst gv)/\L2.IsL H r.gs gv/\Is H r.th tv
structure Mv (m:Mc)(H H':Hp):Prop where
 kept:∀b o,H b=u_ o->b≠m.x->b≠m.db->b≠m.dg->H' b=u_ o
 tk:Tk H H'
def Mv.refl (m:Mc)(H:Hp):Mv m H H:=[λ_ _ e _ _ _=>e:Tk.refl H]
variable {H1 H2:Hp}
def Mv.trans {m:Mc}(h:Mv m H H1)(h2:Mv m H1 H2):Mv m H H2:=[λb o e n1 U Z=>h2.kept b o (h.kept b o e n1 U Z) n1 U Z:h.tk.trans h2.tk]
def Mv.of {m:Mc}(s:ic H H'):Mv m H H':=[λb o e _ _ _=>s b o e:s.tk]
variable {C:o3}
def yx.same {m:Mc}{r:Rn}(h:yx C H m r)(s:ic H H'):yx C H' m r:=by
 erw[h,dx,fs,rv,ru,tv,U,e,f,i,j,b,g,Z,t,<-(dx,fs,rv,ru,tv,U,s _ _ e,f,i.mono s.tk,j.mono s.tk,b.same s,s _ _ g,Z.mono s.tk,t.mono s.tk)]
variable {dx:o3}
def YM.ne {x db:o3}{fs:oj (Str×V)}{B:Str->D}(e:H x=u_ (.ins C dx fs))(h:YM H db B):db≠x:=λz=>by
 erw[h,f,e2,_];rw[z,e,0] at e2
variable {fs':oj (Str×V)}{rv:V}
def yy {m:Mc}{r:Rn}{fs:oj (Str×V)}{ru tv:V}{U:oj V}(e:H m.x=u_ (.ins C dx fs))(f:Fl fs' rv ru m.own m.db m.dg r.p r.n tv)(i:Is H (.tup (m.rs.map rowD)) rv)(j:Is H (jY m.rs) ru)(b:YM H m.db r.B)(Z:H m.dg=u_ (.lst U))(gl:L2.IsL H r.gs U)(t:Is H r.th tv):
  yx C (upd H m.x (.ins C dx fs')) m r/\Mv m H (upd H m.x (.ins C dx fs')):=by
 let tk:Tk H (upd H m.x (.ins C dx fs')):=Tk.updI e;let n1:m.db≠m.x:=YM.ne e b;let n2:m.dg≠m.x:=λz=>by rw[z,e,0] at Z
 exact⟨(dx,fs',rv,ru,tv,U,qg,f,i.mono tk,j.mono tk,b.move tk (qk n1),by rwa[qk n2],gl.mono tk,t.mono tk),⟨λc o h a1 _ _=>by rwa[qk a1],tk⟩⟩
abbrev QQ:D->Bool
 | .tup (.str w::_)=>decide (w="asks")|_=>Vd
abbrev Th (d:D):Prop:=d= .non\/∃w e,d=-[!w,e]
inductive Out where
 |go (B:Str->D)(p:Int)|stop (e:D)
abbrev Out.B (B:Str->D):Out->Str->D
 | .go B' _=>B'| .stop _=>B
abbrev Out.P (p:Int):Out->Int
 | .go _ p'=>p'| .stop _=>p
abbrev Out.T:Out->D
 | .go _ _=> .non| .stop e=>e
abbrev AG (B:Str->D)(z:Str)(e:D)(p:Int):Out:=match e with
 | .non=> .stop (flt "kind")|e=>if isT e=v_ then .go (Bi B z e) (p+1) else .stop (flt "big")
inductive AaN (C:Addr):Sp
 |mk (m:Mc)(r:Rn)(_:vs= [-m.x])(_:yx C H m r)(_:∀v,Is H r.th v->Q v H)
inductive OA (C:Addr):Sp
 |mk (m:Mc)(r:Rn)(_:vs= [-m.x])(_:yx C H m r)(_:∀v H',ic H H'->Is H' (¬r.gs) v->Q v H')
inductive NV (C:Addr):Sp
 |mk (m:Mc)(r:Rn)(_:vs= [-m.x])(_:yx C H m r)(_:Th r.th)(_:Q (.bl (QQ r.th)) H)
inductive Os (C:Addr):Sp
 |mk (m:Mc)(r:Rn)(z:Str)(v:V)(e:D)(_:vs= [-m.x,!z,v])(_:yx C H m r)(_:r.th= .non)(_:z>BX)(_:Is H e v)(_:∀H',Mv m H H'->yx C H' m ((AG r.B z e r.p).B r.B,(AG r.B z e r.p).P r.p,r.n,r.gs,(AG r.B z e r.p).T)->Q .non H')
section
variable {P:o9}{w:og}{K:o0}{mg:Str->om o6}{base:o8}{a:Ad}{g:Ga}
def KG:#[T,1,a.zu,a.zi,["self"],(AaN a.qq)]:=by
 rw[9,T.ik,kh,U]
 erw[h,m,r,rfl,[dx,fs,rv,ru,tv,Z,e,f,ir,iu,ib,hg,gl,it],k];rw[3,%[|#[qo,#[qQ,5,pv 0,rfl]]]]
 exact(0,m.x,_,dx,fs,tv,1,e,T.qu,T.qP,f.there,k _ it)
def PQ:#[T,1,a.J1,a.xr,["self"],(OA a.qq)]:=by
 rw[9,T.ml,ww]
 erw[h,m,r,rfl,[dx,fs,rv,ru,tv,Z,e,f,ir,iu,ib,hg,gl,it],k];rw[3,%[|#[qo,#[Qj,Qk,T.QO,vx,#v[#[qQ,5,pv 0,rfl]]]]]]
 exact(0,m.x,_,dx,fs,0,e,T.qu,T.YU,f.given,m.dg,Z,1,.inl [SqL.of hg:λl U=>k _ _ (qf U _) (Is.new gl U)])
def qaO:#[T,1,a.YK,a.YL,["self"],(NV a.qq)]:=by
 rw[9,T.im,xo]
 erw[h,m,[B,p,n,gs,th],rfl,[dx,fs,rv,ru,tv,gv,e,f,ir,iu,ib,hg,gl,it],U,k];simp only at f ib gl it U k;rw[3,%[|#[qo,#[JB,#[Qb,Zq,#[qQ,5,pv 0,rfl],qR],#[jN,#[Qb,Qd,#[qE,zB,#[qQ,5,pv 0,rfl],qh],qi]]]]]]
 rw[0,m.x,_,dx,fs,tv,1,e,T.qu,T.qP,f.there,1];rcases U with rfl|⟨w1,e1,rfl⟩
 .rw[show tv= .non from it,0]
  exact[0:Qz () k]
 .let Z:=it;erw[Z,t0,us,rfl,et,iu]
  rw[0,QT (by simp) (0,m.x,_,dx,fs,0,e,T.qu,T.qP,f.there,?_)]
  refine .inr (.inl (XH (i:=0) (d:= !w1) it (qy (j:=0) rfl) λq hq=>?_));erw[hq,rfl,_]
  rw[1];let ew:decide (V.str w1=V.str ("asks":Str))=decide (w1="asks"):=by
   rw[vd];exact⟨λh=>by injection h,λh=>by rw[h]⟩
  rw[ew];exact k
def PH:#[T,3,a.Xd,a.Xk,["self","box","tree"],(Os a.qq)]:=by
 let yM:=#[jM,T];rw[9,T.mr,W3]
 erw[h,m,[B,p,n,gs,th],z,v,d,rfl,[dx,fs,rv,ru,tv,gv,e,f,ir,iu,ib,hg,gl,it],ac,hz,U,k];simp only at f ib gl it ac k;subst ac;rw[3,%[|#[qI,#[qm,yk,pv 2,qR],%[|#[Qn,#[qA,#v[qi,qi]]]],%[|#[qI,#[Qo,#[Qe,#[qt,yM,T.lr,#v[pv 2]]]],%[|#[Qn,#[qA,#v[qi,qi]]]],%[#[Jm,#[qQ,5,pv 0,rfl],pv 1,pv 2]|#[JX,10,pv 0,qh,oX]]]]]]]
 let two:(2:Nat)<=sizeLine:=by decide
 let st:∀{H:Hp} (z:Str),↑z<=100->Is H (!z) (!z):=λz hz=>[1:yL ()]
 let fl:∀(z:Str) (H:Hp) (l:o3),↑z<=100->H l=U_->Is (upd H l (-[-"fault",!z])) (flt z) (-l):=λz H l hz Z=>Is.new (ds:= [-"fault",!z]) (_,0,st _ (),_,0,st _ hz,1) Z
 rw[0,1,0];let aa:↑fs<1000:=by have:=f.len;omega
 by_cases c:d= .non
 .subst c;rw[show v= .non from U,0]
  refine QT () [two:λl Z=>?_]
  let s1:ic H (upd H l (-[-"fault",-"kind"])):=qf Z _
  rw[0,m.x,_,dx,fs,1,s1 _ _ e,T.qu,T.qP,aa];erw[yy (r:=(B,p,n,gs,flt "kind")) (s1 _ _ e) (f.set_there (u:=-l)) (ir.mono s1.tk) (iu.mono s1.tk) (ib.same s1) (s1 _ _ hg) (gl.mono s1.tk) (fl "kind" H l () Z),m1,m2]
  exact k _ ((Mv.of s1).trans m2) m1
 .let hv:v≠ .non:=by
   rintro rfl;cases d with
   |non=>exact c rfl|bl b=>rw[show V.non= .bl b from U,0]|int i=>rw[show V.non= .int i from U,0]|str z=>erw[U,h,_];rw[h,0]|lst=>erw[U,_,_,h,_];rw[h,0]|dct=>erw[U,_,_,h,_];rw[h,0]|tup xs=>erw[U,_,_,h,_];rw[h,0]
  let eo:AG B z d p=if isT d=v_ then .go (Bi B z d) (p+1) else .stop (flt "big"):=by
   cases d with
   |non=>exact A8 rfl c|_=>rfl
  rw[eo] at k;refine Qz (ud hv) ?_
  rw[0,v,d,1,U,λH1 s1=>[0:?_]];cases ht:isT d with
  |false=>
   rw[ht] at k;refine iY [two:λl Z=>?_];let s2:ic H (upd H1 l (-[-"fault",-"big"])):=s1.trans (qf Z _)
   rw[0,m.x,_,dx,fs,1,s2 _ _ e,T.qu,T.qP,aa];erw[yy (r:=(B,p,n,gs,flt "big")) (s2 _ _ e) (f.set_there (u:=-l)) (ir.mono s2.tk) (iu.mono s2.tk) (ib.same s2) (s2 _ _ hg) (gl.mono s2.tk) (fl "big" H1 l () Z),m1,m2]
   exact k _ ((Mv.of s2).trans m2) m1
  |true=>
   rw[ht] at k;refine iU ?_;let ae:=U.mono s1.tk;erw[(ib.same s1).put hz ae,kvs,ad,af,t2];let n1:m.db≠m.x:=YM.ne e ib;let n3:m.dg≠m.db:=λz=>by
    erw[ib,ff,e2,_];rw[z,e2,0] at hg
   let e1:=s1 _ _ e;let e3:(upd H1 m.db (.dK kvs)) m.x=u_ (.ins a.qq dx fs):=by rwa[qk n1.symm]
   rw[0,0,m.x,_,dx,fs,0,e1,T.qu,T.QC,f.boxes,0,m.db,0,ad]
   rw[0,m.x,_,dx,fs,0,e3,T.qu,T.Qu,f.place,p,(1),1,1,dx,fs,e3,aa];obtain⟨m1,m2⟩:=yy (r:=(Bi B z d,p+1,n,gs,.non)) e3 (f.set_place (q:=p+1)) ((ir.mono s1.tk).mono t2) ((iu.mono s1.tk).mono t2) af (by rw[qk n3];exact s1 _ _ hg) ((gl.mono s1.tk).mono t2) it
   exact k _ ((Mv.of s1).trans (Mv.trans ⟨λb o h _ a2 _=>by rwa[qk a2],t2⟩ m2)) m1
abbrev MKR:oj Str:= ["text","self","copy","row","put","join","first","rest","size","cut","glue"]
abbrev oR (ps:oj Pt):Int:=match ps.getLast? with
 |some (.n i)=>i|_=>0
abbrev mL (own:Str)(r:Rw)(B:Str->D)(p:Int):Out:=
 if r.1>MKR then AG B (b0 r.2) (made r.1 B own r.2) p else if r.1>ASK then .stop (sQ r.1 (B (b1 r.2))) else if r.1="say" then .stop (-[-"said",B (b0 r.2)]) else
 if r.1="fault" then .stop (flt "told") else if Nj r.1 B r.2=v_ then .go B (oR r.2) else .go B (p+1)
def AbO:∀x>FRM,x.1>MKR->x.2.head? =u_ .box:=by decide+kernel
def Wn:∀x>FRM,x.1>ASK->x.1∉MKR/\x.1>Acb/\x.2= [.box,.box]:=by decide+kernel
def AI:∀x>FRM,x.1="say"->x.2= [.box]:=by decide+kernel
def E7:∀x>FRM,x.1>MKR\/(x.1∉MKR/\x.1>Acb/\(x.1>ASK\/x.1∉ASK/\(x.1="say"\/x.1="fault"\/x.1≠"say"/\x.1≠"fault"/\x.1>JMP))):=by decide+kernel
def SG:∀x>FRM,x.1>JMP->x.2.getLast? =u_ .line:=by decide+kernel
variable {r:Rw}
def Adb {m:Nat}(h:JN n m r)(Z:r.1>MKR):∃z ps,r.2= .s z::ps/\z>BX:=by
 erw[h,ks,hk,U];have:=AbO _ hk Z
 match ks,U,this with
 | .box::ks,U,_=>
  match h2:r.2,U with
  | .s z::ps,U=>exact(z,ps,1,U.1)| .n _::_,U=>exact U.1.elim
def kT {n m:Nat}:∀{ks:oj Kd}{ps:oj Pt},jE n m ks ps->ks.getLast? =u_ .line->∃qs i,ps=qs++ [.n i]/\1<=i/\i<=(n:Int)
 | [k],[p],h,e=>by
  rw[e,0];cases p with
  |n i=>exact([],i,1,h.1)|s z=>exact h.1.elim
 |k::k2::ks,p::p2::ps,h,e=>by
  rw[V3] at e;erw[kT (ks:=k2::ks) (ps:=p2::ps) h.2 e,qs,i,e2,hi,<-(p::qs,i,by rw[e2];rfl,hi)]
 | [k],p::_::_,h,_=>h.2.elim|k::_::_,[p],h,_=>h.2.elim| [],[],_,e=>by rw[e,0]| [],_::_,h,_=>h.elim|_::_,[],h,_=>h.elim
def BL {m:Nat}(h:JN n m r)(U:r.1>JMP):∃qs i,r.2=qs++ [.n i]/\1<=i/\i<=(n:Int)/\oR r.2=i:=by
 erw[h,ks,Z,hp];erw[kT hp (SG _ Z U),qs,i,e,h1,h2];rw[_,qs,i,e,h1,h2];unfold oR;rw[e,List.getLast?_concat]
inductive Lk (C:Addr):Sp
 |mk (m:Mc)(r:Rn)(rw:Rw)(v:V)(k:Nat)(_:vs= [-m.x,v])(_:yx C H m r)(_:r.th= .non)(_:Tr r.B)(_:↑m.own<=100)(_:JN k 300 rw)(_:Is H (rowD rw) v)(_:∀H',Mv m H H'->yx C H' m ((mL m.own rw r.B r.p).B r.B,(mL m.own rw r.B r.p).P r.p,r.n,r.gs,(mL m.own rw r.B r.p).T)->Q .non H')
variable {x:Str}
def Ada (T:Tx K mg a)(C:Fx K w mg g a)(h:x>MKR):∃f fd,PySem.W.nsIn K g.makers x=u_ (u_ (-f))/\FnOk P w K mg base CX0 1 f fd ["boxes","own","parts"] (zn x)/\XJ K fd ["boxes","own","parts"] []/\PySem.W.keepIn K (-f)=true:=by
 simp![MKR,uF,uI,uR] at h;rcases h with rfl|rfl|rfl|rfl|rfl|rfl|rfl|rfl|rfl|rfl|rfl
 .exact(_,_,C.k_text,O8 T,T.lH.b,T.lH.F.kp)
 .exact(_,_,C.k_self,Pn T,T.lJ.b,T.lJ.F.kp)
 .exact(_,_,C.k_copy,PM T,T.lS.b,T.lS.F.kp)
 .exact(_,_,C.k_row,Abj T,T.l8.b,T.l8.F.kp)
 .exact(_,_,C.k_put,Abk T,T.me.b,T.me.F.kp)
 .exact(_,_,C.k_join,PD T,T.lO.b,T.lO.F.kp)
 .exact(_,_,C.k_first,LP T,T.lm.b,T.lm.F.kp)
 .exact(_,_,C.k_rest,Pr T,T.lL.b,T.lL.F.kp)
 .exact(_,_,C.k_size,Pm T,T.lI.b,T.lI.F.kp)
 .exact(_,_,C.k_cut,Abo T,T.mf.b,T.mf.F.kp)
 .exact(_,_,C.k_glue,PJ T,T.lR.b,T.lR.F.kp)
def LU:#[C,4,a.JG,a.Jz,["self","row"],(Lk a.qq)]:=by
 let Wh:=#[Pz,T];let wy:=#[LV,T];let kf:=#[PH,T];rw[9,T.l7,Ye]
 erw[h,m,[B,p,n,gs,th],r,v,nn,rfl,M,ag,hT,ho,ae,iv,k];simp only at ag hT k;subst ag;rw[3,%[#[qF,(2),Ye.nd,#[qE,qB,pv 1,qh]],#[qF,(3),Ye.nd,#[qE,qB,pv 1,qh]]|#[qI,#[qm,8,Abf,pv 2,#[pe_gR,C.m_MAKERS],#[w]],%[|#[qY,#[Qh,pv 0,T.qu,T.mr,kf,#v[#[qE,qB,pv 3,qh],#[Ly,9,(1),5,(1,1,1,1,1),#[qE,AdZ,#[pe_gR,C.m_MAKERS],pv 2],hr.mono (),#v[#[qQ,5,pv 0,rfl],#[qQ,5,pv 0,rfl],pv 3],_,_]]]]],%[|#[qI,#[qm,8,QV,pv 2,#[pe_gR,C.m_ASKING],#[w]],%[|#[Qn,#[qt,wy,T.lZ,#v[pv 2,#[QN,#[qQ,5,pv 0,rfl],#[qE,qB,pv 3,qh]]]]]],%[|#[qI,#[qm,Qd,pv 2,qi],%[|#[Qn,#[qA,#v[qi,#[QN,#[qQ,5,pv 0,rfl],#[qE,qB,pv 3,qh]]]]]],%[|#[qI,#[qm,Qd,pv 2,qi],%[|#[Qn,#[qA,#v[qi,qi]]]],%[|#[qI,#[Qe,#[qt,Wh,T.mj,#v[#[qQ,5,pv 0,rfl],pv 2,pv 3]]],%[|#[Qn,#[qE,qB,pv 3,#[Aa8,6,MI,qh]]]],%[|#[JX,10,pv 0,qh,oX]]]]]]]]]]]]]
 let two:(2:Nat)<=sizeLine:=by decide
 erw[r,Z,ps];erw[iv,t0,us,rfl,et,iu];erw[iu,v1,u1,rfl,[rfl,au],v2,u2,rfl,i2,e2];rw[show u2= [] from e2,0]
 rw[0,t0,_,(0),0,1,SqT.of et,1]
 rw[0,t0,_,(1),0,1,SqT.of et,1];erw[id i2,t1,aw,rfl,ax,ay];let ad:II H t1 ps:=i2;let am:=ae;erw[am,ks,hk,hp];let hM:=M;erw[hM,dx,fs,rv,ru,tv,gv,e,f,ir,ij,ib,hg,gl,it];simp only at f ib gl it;let af:↑fs<1000:=by have:=f.len;omega
 rcases E7 _ hk with aa|⟨aa,ao,ac⟩
 .erw[Ada (P:=P) (base:=base) T C aa,fa,fd,hn,hF,hb,ap];erw[Adb ae aa,z,qs,rfl,aq];let eo:mL m.own (Z,.s z::qs) B p=AG B z (made Z B m.own (.s z::qs)) p:=by unfold mL;rw[A6 aa];rfl
  rw[eo] at k
  rw[0,Z,g.makers,0,1,C.km,hn,0];refine iY ?_
  rw[0,m.x,dx,fs,1,e,f.meth _ (),0]
  try dsimp![tC]
  refine ID (i:=0) ad rfl ?_
  rw[0,Z,g.makers,_,-fa,1,1,C.km,hn,1,fa,fd,_,zn Z,1,hF,hb,ap]
  rw[0,m.x,_,dx,fs,0,e,T.qu,T.QC,f.boxes,0,m.x,_,dx,fs,0,e,T.qu,T.zJ,f.own,0]
  rw[_,m.db,t1,m.own,B,.s z::qs,nn,1,ib,hT,ho,ae,ad,λv H1 s1 hv=>?_];exact(m,(B,p,n,gs,.non),z,v,0,M.same s1,1,aq,hv,λH2 m2 M2=>k H2 ((Mv.of s1).trans m2) M2)
 .rw[0,Z,g.makers,0,1,C.km,C.k_no _ ao,0];refine iU ?_
  rw[0,g.asking,0,.inr (C.asking _),1,1,0];let ei:inV (!Z) [-"ask",-"has",-"names"]=decide (Z>ASK):=Jw (z:=Z) (l:=ASK);rw[A4 uc,ei];rcases ac with U|⟨U,ac⟩
  .refine QT (u8 U) ?_;erw[Wn _ hk U,_,_,ek];simp only at ek;subst ek;erw[wA hp,z0,z1,rfl,h0,h1];let eo:mL m.own (Z,[.s z0,.s z1]) B p= .stop (sQ Z (B z1)):=by unfold mL;rw[A4 aa,A6 U];rfl
   rw[eo] at k
   rw[0,0,m.x,_,dx,fs,0,e,T.qu,T.QC,f.boxes,0]
   try dsimp![tC]
   refine nN (i:=1) ib ad rfl h1 λv hv=>?_
   rw[_,Z,v,B z1,1,U,hv,λu H1 s1 hu=>?_]
   rw[0,m.x,_,dx,fs,1,s1 _ _ e,T.qu,T.qP,af];erw[yy (r:=(B,p,n,gs,sQ Z (B z1))) (s1 _ _ e) (f.set_there (u:=u)) (ir.mono s1.tk) (ij.mono s1.tk) (ib.same s1) (s1 _ _ hg) (gl.mono s1.tk) hu,m1,m2,<-k _ ((Mv.of s1).trans m2) m1]
  .refine Qz (ud U) ?_
   rw[0,1,0];let es:∀y:Str,decide (V.str Z=V.str y)=decide (Z=y):=λy=>by
    rw[vd];exact⟨λh=>by injection h,λh=>by rw[h]⟩
   rcases ac with rfl|rfl|⟨hs,hf,hj⟩
   .refine QT (u8 rfl) ?_;let ek:=AI _ hk rfl;simp only at ek;subst ek;erw[Acq hp,z0,rfl,h0];let eo:mL m.own ("say",[.s z0]) B p= .stop (-[-"said",B z0]):=by unfold mL;rw[A4 aa,A4 U,A6 rfl];rfl
    rw[eo] at k
    rw[0,m.x,_,dx,fs,0,e,T.qu,T.QC,f.boxes,0]
    try dsimp![tC]
    refine nN (i:=0) ib ad rfl h0 λv hv=>?_
    rw[_,two,λl hl=>?_];let s1:ic H (upd H l (-[-"said",v])):=qf hl _
    rw[0,m.x,_,dx,fs,1,s1 _ _ e,T.qu,T.qP,af];erw[yy (r:=(B,p,n,gs,-[-"said",B z0])) (s1 _ _ e) (f.set_there (u:=-l)) (ir.mono s1.tk) (ij.mono s1.tk) (ib.same s1) (s1 _ _ hg) (gl.mono s1.tk) (Is.new (ds:= [-"said",B z0]) (_,0,[1:yL ()],_,0,hv,1) hl),m1,m2]
    exact k _ ((Mv.of s1).trans m2) m1
   .let ah:¬(("fault":Str)="say"):=by decide+kernel
    refine Qz (ud λh=>ah (by injection h)) ?_
    rw[0,1,0,QT (u8 rfl) ?_];let eo:mL m.own ("fault",ps) B p= .stop (flt "told"):=by unfold mL;rw[A4 aa,A4 U,A4 ah,A6 rfl]
    rw[eo] at k
    rw[_,two,λl hl=>?_];let s1:ic H (upd H l (-[-"fault",-"told"])):=qf hl _
    rw[0,m.x,_,dx,fs,1,s1 _ _ e,T.qu,T.qP,af];erw[yy (r:=(B,p,n,gs,flt "told")) (s1 _ _ e) (f.set_there (u:=-l)) (ir.mono s1.tk) (ij.mono s1.tk) (ib.same s1) (s1 _ _ hg) (gl.mono s1.tk) (Is.new (ds:= [-"fault",-"told"]) (_,0,[1:yL ()],_,0,[1:yL ()],1) hl),m1,m2]
    exact k _ ((Mv.of s1).trans m2) m1
   .refine Qz (by rw[es];exact ud hs) ?_
    rw[0,1,0,Qz (by rw[es];exact ud hf) ?_]
    let eo:mL m.own (Z,ps) B p=if Nj Z B ps=v_ then .go B (oR ps) else .go B (p+1):=by unfold mL;rw[A4 aa,A4 U,A4 hs,A4 hf]
    rw[eo] at k;erw[BL ae hj,qs,i,ak,h1,h2,hl];simp only at ak hl
    rw[0,m.x,_,dx,fs,0,e,T.qu,T.QC,f.boxes,0,0,m.db,t1,Z,B,ps,nn,1,ib,hT,hj,ae,ad,0];cases al:Nj Z B ps with
    |true=>
     rw[al] at k;refine iY (0,(1),1,?_);refine XH (i:= -1) (d:= .int i) ad (by rw[ak,uj];exact qal _ _) λq hq=>?_
     rw[show q= .int i from hq,0]
     rw[0,m.x,_,dx,fs,1,e,T.qu,T.Qu,af];erw[yy (r:=(B,i,n,gs,.non)) e (f.set_place (q:=i)) ir ij ib hg gl it,m1,m2];refine k _ m2 ?_;show yx _ _ _ (B,oR ps,n,gs,.non);rwa[hl]
    |false=>
     rw[al] at k;refine iU (0,m.x,_,dx,fs,0,e,T.qu,T.Qu,f.place,p,(1),1,1,dx,fs,e,af,?_);erw[yy (r:=(B,p+1,n,gs,.non)) e (f.set_place (q:=p+1)) ir ij ib hg gl it,m1,m2,<-k _ m2 m1]
abbrev JM (rs:oj Rw)(p:Int):Rw:=rs.getD (p.toNat-1) ("fault",[])
abbrev mU (rs:oj Rw)(own:Str)(gs:oj D):Nat->(Str->D)->Int->Nat->Rn
 |0,B,p,n=>(B,p,n,gs,if GT.gt p (↑rs) then flt "silent" else flt "long")|f+1,B,p,n=>if GT.gt p (↑rs) then(B,p,n,gs,flt "silent") else match mL own (JM rs p) B p with
  | .go B' p'=>mU rs own gs f B' p' (n+1)| .stop e=>(B,p,if QQ e=v_ then n else n+1,gs,e)
variable {rs:oj Rw}
def DG {p:Int}(h1:1<=p)(h2:p<=↑rs):rs[p.toNat-1]? =u_ (JM rs p):=by
 unfold JM;let h:p.toNat-1<↑rs:=by omega
 simp[GP,h]
def qaG {p:Int}(h1:1<=p)(h2:p<=↑rs):JM rs p>rs:=uW (DG h1 h2)
def qap {B:Str->D}(h:Tr B)(U:isT e=v_):Tr (Bi B z e):=λy Z=>by
 unfold Bi;by_cases c:y=z
 .rwa[A6 c]
 .rw[A4 c];exact h y Z
abbrev S4 (n:Int):Out->Prop
 | .go B p=>Tr B/\1<=p/\p<=n+1| .stop e=>∃w d,e=-[!w,d]
def Mj {B:Str->D}{p n:Int}(h:Tr B)(h1:1<=p)(h2:p<=n):S4 n (AG B z e p):=by
 let U:S4 n (if isT e=v_ then .go (Bi B z e) (p+1) else .stop (flt "big")):=by
  by_cases c:isT e=v_
  .rw[A6 c];exact[qap h c:():()]
  .rw[A4 c];exact[_:0]
 cases e with
 |non=>exact[_:0]|_=>exact U
def SU (w:Str)(d:D):∃u e,sQ w d=-[!u,e]:=by
 unfold sQ;split
 .split
  .exact[_:0]
  .exact[_:0]
 .split
  .exact[_:0]
  .exact[_:0]
variable {own:Str}
def Ak {B:Str->D}{p:Int}(hr:JN n 300 r)(h:Tr B)(h1:1<=p)(h2:p<=n):S4 n (mL own r B p):=by
 unfold mL;by_cases U:r.1>MKR
 .rw[A6 U];exact Mj h h1 h2
 rw[A4 U];by_cases Z:r.1>ASK
 .rw[A6 Z];exact SU _ _
 rw[A4 Z];by_cases c3:r.1="say"
 .rw[A6 c3];exact[_:0]
 rw[A4 c3];by_cases c4:r.1="fault"
 .rw[A6 c4];exact[_:0]
 rw[A4 c4];by_cases c5:Nj r.1 B r.2=v_
 .rw[A6 c5];erw[id hr,ks,hk,hp];let hj:r.1>JMP:=by
   rcases E7 _ hk with q|⟨_,_,q|⟨_,q|q|q⟩⟩
   .exact A8 q U
   .exact A8 q Z
   .exact A8 q c3
   .exact A8 q c4
   .exact q.2.2
  erw[BL hr hj,qs,i,_,a1,a2,a3,<-⟨h,by rwa[a3],by rw[a3];omega⟩]
 .rw[A4 c5];exact[h:():()]
inductive Ot (C:Addr):Sp
 |mk (m:Mc)(r:Rn)(_:vs= [-m.x])(_:yx C H m r)(_:r.th= .non)(_:Tr r.B)(_:↑m.own<=100)(_:QY m.rs)(_:1<=r.p)(_:r.p<=↑m.rs+1)(_:r.n<=300)(_:∀(H':Hp),Mv m H H'->yx C H' m (mU m.rs m.own r.gs (300-r.n) r.B r.p r.n)->Q .non H')
def Eg:#[C,5,a.xv,a.JQ,["self"],(Ot a.qq)]:=by
 let wt:=#[LU,T,C];let Qc:=#[qaO,T];rw[9,T.lf,wC]
 erw[h,[x,db,dg,rs,own],[B0,p0,n0,gs,th],rfl,M0,aw,ax,ho,hR,aE,ay,aF,k];simp only at aw ax ho hR aE ay aF k;subst aw;rw[3,%[|#[wG,6,uP,#[qm,yk,#[qQ,5,pv 0,rfl],qR],%[|#[qI,#[qm,Ap,#[qQ,5,pv 0,rfl],#[qz,qG,T.QZ,uJ,#v[#[qQ,5,pv 0,rfl]]]],%[|#[Qn,#[qA,#v[qi,qi]]]],%[|#[qI,#[qm,Qd,#[qQ,5,pv 0,rfl],#[qaS,T.m_MOST_DONE]],%[|#[Qn,#[qA,#v[qi,qi]]]],%[#[qY,#[Qh,pv 0,T.qu,T.l7,wt,#v[#[qE,qB,#[qQ,5,pv 0,rfl],#[qV,MZ,#[qQ,5,pv 0,rfl],qh]]]]]|#[qI,#[Qo,#[Qe,#[Qx,pv 0,T.qu,T.im,Qc]]],%[|#[JX,10,pv 0,qh,oX]],qp]]]]]]]]]
 let two:(2:Nat)<=sizeLine:=by decide
 let n1:=hR.n1;generalize aA:mU rs own gs (300-n0) B0 p0 n0=res at k
 refine_lift let J1_:Nat->L2.St->Hp->Prop:=λm σ H'=>∃(B:Str->D) (p:Int) (n:Nat) (th:D),σ= [u_ (-x)]/\yx a.qq H' (x,db,dg,rs,own) (B,p,n,gs,th)/\Mv (x,db,dg,rs,own) H H'/\Tr B/\1<=p/\p<=↑rs+1/\n<=300/\((th= .non/\mU rs own gs (300-n) B p n=res/\m=301-n)\/((∃u e,th=-[!u,e])/\(B,p,n,gs,th)=res/\m=0));?_
 rw[_,J1_,(_,B0,p0,n0,.non,1,M0,Mv.refl _ _,ax,(),(),(),.inl [1:aA:1])]
 rintro m σ H' ⟨B,p,n,th,rfl,M,mv,hT,ad,al,hn,hc⟩;let hM:=M;erw[hM,dx,fs,rv,ru,tv,gv,e,f,ir,ij,ib,hg,gl,it];simp only at e f ir ij ib hg gl it;let aB:↑fs<1000:=by have:=f.len;omega
 rw[0,x,_,dx,fs,tv,1,e,T.qu,T.qP,f.there,1,0];rcases hc with⟨rfl,Z,rfl⟩|⟨⟨u,d,rfl⟩,Z,rfl⟩
 .rw[show tv= .non from it,0]
  let ag:∀{H:Hp},Is H .non .non:=rfl;refine QT () ?_
  rw[_,λσ' H2=>∃(B:Str->D) (p:Int) (n2:Nat) (th:D),σ'= [u_ (-x)]/\yx a.qq H2 (x,db,dg,rs,own) (B,p,n2,gs,th)/\Mv (x,db,dg,rs,own) H H2/\Tr B/\1<=p/\p<=↑rs+1/\n2<=300/\((th= .non/\mU rs own gs (300-n2) B p n2=res/\n<n2)\/((∃u e,th=-[!u,e])/\(B,p,n2,gs,th)=res)),?_,?_]
  .rintro σ' H2 ⟨B2,p2,n2,aM,rfl,M2,ae,aC,a1,a2,a3,aG⟩;rcases aG with⟨rfl,q1,q2⟩|⟨q0,q1⟩
   .exact(301-n2,(),B2,p2,n2,0,M2,ae,aC,a1,a2,a3,.inl [1:q1:1])
   .exact((0),(),B2,p2,n2,0,M2,ae,aC,a1,a2,a3,.inr [q0:q1:1])
  .let aH:=ir;erw[aH,ta,us,rfl,aI,iu];let aN:↑us=↑rs:=by rw[↑iu,u7]
   let fl:∀(z:Str) (H:Hp) (l:o3),↑z<=100->H l=U_->Is (upd H l (-[-"fault",!z])) (flt z) (-l):=λz H l hz hl=>Is.new (ds:= [-"fault",!z]) (_,0,[1:yL ()],_,0,[1:yL ()],1) hl
   let aa:∀(z:Str),↑z<=100->(B,p,n,gs,flt z)=res->∀l,H' l=U_->(λH2=>∃(B:Str->D) (p:Int) (n2:Nat) (th:D),[u_ (V.ref x)]= [u_ (V.ref x)]/\yx a.qq H2 (x,db,dg,rs,own) (B,p,n2,gs,th)/\Mv (x,db,dg,rs,own) H H2/\Tr B/\1<=p/\p<=↑rs+1/\n2<=300/\((th= .non/\mU rs own gs (300-n2) B p n2=res/\n<n2)\/((∃u e,th=-[!u,e])/\(B,p,n2,gs,th)=res))) (upd (upd H' l (-[-"fault",!z])) x (.ins a.qq dx (iN "there" (-l) fs))):=by
    intro z hz aJ l hl;let s1:ic H' (upd H' l (-[-"fault",!z])):=qf hl _;erw[yy (m:=(x,db,dg,rs,own)) (r:=(B,p,n,gs,flt z)) (s1 _ _ e) (f.set_there (u:=-l)) (ir.mono s1.tk) (ij.mono s1.tk) (ib.same s1) (s1 _ _ hg) (gl.mono s1.tk) (fl z H' l hz hl),m1,m2,<-(B,p,n,flt z,1,m1,mv.trans ((Mv.of s1).trans m2),hT,ad,al,hn,.inr [[_:0]:aJ])]
   rw[0,x,_,dx,fs,0,e,T.qu,T.Qu,f.place,0,x,_,dx,fs,0,e,T.qu,T.Yr,f.rows,ta,us,1,.inr (SqT.of aI),_,0,1,0];refine ky (λc=>?_) (λc=>?_)
   .let c':GT.gt p (↑rs):=by have:=ui c;omega
    let er:(B,p,n,gs,flt "silent")=res:=by
     rw[<-Z];cases h3:300-n with
     |zero=>unfold mU;rw[A6 c']|succ q=>unfold mU;rw[A6 c']
    rw[_,two,λl hl=>?_];let s1:ic H' (upd H' l (-[-"fault",-"silent"])):=qf hl _;exact(0,x,_,dx,fs,1,s1 _ _ e,T.qu,T.qP,aB,aa "silent" () er l hl)
   .let c':¬GT.gt p (↑rs):=λh=>c (u8 ())
    rw[0,x,_,dx,fs,0,e,T.qu,T.yq,f.done,1,0];refine ky (λc2=>?_) (λc2=>?_)
    .let e3:n=300:=by have:=ui c2;injection this with h;omega
     let er:(B,p,n,gs,flt "long")=res:=by
      rw[<-Z,e3];show _=mU rs own gs 0 B p 300;unfold mU;rw[A4 c']
     rw[_,two,λl hl=>?_];let s1:ic H' (upd H' l (-[-"fault",-"long"])):=qf hl _;exact(0,x,_,dx,fs,1,s1 _ _ e,T.qu,T.qP,aB,aa "long" () er l hl)
    .let e3:n<300:=by
      rcases Hb n 300 with h|h
      .exact h
      .exact A8 (u8 (by rw[show n=300 by omega];rfl)) c2
     let am:p<=↑rs:=by omega
     let aD:=hR.ok _ (qaG ad am);let hok:=Ak (own:=own) aD hT ad am;let U:res=match mL own (JM rs p) B p with
       | .go B' p'=>mU rs own gs (300-(n+1)) B' p' (n+1)| .stop e=>(B,p,if QQ e=v_ then n else n+1,gs,e):=by
      rw[<-Z,show 300-n=(300-(n+1))+1 by omega,mU,A4 c']
     rw[0,x,dx,fs,1,e,f.meth _ ()]
     rw[0,x,_,dx,fs,0,e,T.qu,T.Yr,f.rows,0,x,_,dx,fs,0,e,T.qu,T.Qu,f.place,_,0,1];let aK:atI (rs.map rowD) (p-1)=u_ (rowD (JM rs p)):=by
      rw[show p-1=((p.toNat-1:Nat):Int) by omega]
      exact qy (by rw[uH,DG ad am];rfl)
     refine XH (d:=rowD (JM rs p)) ir aK λq hq=>?_
     rw[_,(x,db,dg,rs,own),(B,p,n,gs,.non),JM rs p,q,↑rs,1,M,1,hT,ho,aD,hq,λH2 m2 M2=>?_];let aL:=M2;erw[aL,af,ac,aO,aP,aQ,aR,e2,f2,ao,ap,ah,aq,au,ag];simp only at e2 f2 ao ap ah aq au ag;let ak:↑ac<1000:=by have:=f2.len;omega
     let ae:=mv.trans m2;generalize hO:mL own (JM rs p) B p=O at hok U M2 ag ah f2;cases O with
     |go B' p'=>
      erw[hok,q1,q2,q3]
      rw[0,x,af,ac,1,e2,f2.meth _ (),_,0,M2,.inl rfl,0]
      refine QT rfl ?_
      rw[0,x,_,af,ac,0,e2,T.qu,T.yq,f2.done,(n:Int),(1),1,1,af,ac,e2,ak];erw[yy (m:=(x,db,dg,rs,own)) (r:=(B',p',n+1,gs,.non)) e2 (f2.set_done (k:=n+1)) ao ap ah aq au ag,m3,m4,<-(B',p',n+1,.non,1,m3,ae.trans m4,q1,q2,q3,(),.inl [1:U.symm:()])]
     |stop d=>
      erw[hok,u,d2,rfl]
      rw[0,x,af,ac,1,e2,f2.meth _ (),_,0,M2,.inr [_:0],0]
      cases hw:QQ (-[!u,d2]) with
      |true=>
       simp![hw] at U;refine Qz (by show(!(QQ) (-[!u,d2]))=Vd;rw[hw];rfl) ?_
       exact(B,p,n,0,M2,ae,hT,ad,al,hn,.inr [[_:0]:U.symm])
      |false=>
       simp![hw] at U;refine QT (by show(!(QQ) (-[!u,d2]))=v_;rw[hw];rfl) ?_
       rw[0,x,_,af,ac,0,e2,T.qu,T.yq,f2.done,(n:Int),(1),1,1,af,ac,e2,ak];erw[yy (m:=(x,db,dg,rs,own)) (r:=(B,p,n+1,gs,-[!u,d2])) e2 (f2.set_done (k:=n+1)) ao ap ah aq au ag,m3,m4,<-(B,p,n+1,0,m3,ae.trans m4,hT,ad,al,(),.inr [[_:0]:U.symm])]
 .have:tv≠ .non:=by erw[it,_,_,h,_];rw[h];exact λz=>by rw[z,0]
  refine Qz (ud this) ?_;refine k H' mv ?_;rw[<-Z];exact M
abbrev emp (z:Str):D:=-[!z,-""]
def MV {H:Hp}:∀{zs:oj Str}{ys:oj V},L2.IsL H (zs.map emp) ys->∃ts:oj o3,ys=ts.map V.ref/\↑ts=↑zs/\∀(i:Nat) (t:o3) (z:Str),ts[i]? =u_ t->zs[i]? =u_ z->H t=u_ (-[!z,-""])
 | [],_,h=>by
  rw[show _= [] from h,0]
  exact([],1,1,λi t z h=>by simp at h)
 |y::zs,_,h=>by
  erw[h,v,r,rfl,[t,us,rfl,U,v1,u1,rfl,[rfl,_],v2,Z,rfl,[rfl,_],e2],h2];rw[show Z= [] from e2,0]
  erw[MV h2,ts,rfl,hl,hi];refine(t::ts,1,by rw[um,hl];rfl,λi q z h1 h3=>?_)
  cases i with
  |zero=>
   rw[h1,0];rw[h3,0];exact U
  |succ j=>exact hi j q z (by simpa using h1) (by simpa using h3)
variable {ys:oj V}
def OY {A:o3}(e:H A=u_ (.lst ys))(h:L2.IsL H (BX.map emp) ys):Ch H A (BX.map λz=>(z,V.str "")):=by
 erw[MV h,ts,rfl,U,hi];rw[_,ts,e,by rw[U,u7],λi t p h1 h2=>?_]
 rw[uH] at h2;cases hz:BX[i]? with
 |none=>rw[hz,0] at h2|some z=>
  rw[hz,0] at h2;exact hi i t z h1 hz
abbrev B0:Str->D:=λ_=>-""
variable {q:o3}
def SS (U:H q=U_):YM (upd H q (.dK (iM (BX.map λz=>(z,V.str ""))))) q B0:=by
 rw[_,λ_=>-"",?_,λz _=>[1:yL ()]]
 rw[qg];unfold iM kvB;rw[uO]
 rfl
def Aac:Tr B0:=λ_ _=>(by decide+kernel:isT (-"")=v_)
def Mz:((BX.map λz=>(z,V.str "")).map (·.1)).Nodup:=by
 rw[uO];show(BX.map id).Nodup;rw[Hr]
 decide+kernel
def DJ (f:Str)(v:V):∀fs:oj (Str×V),↑(iN f v fs)<=↑fs+1
 | []=>uh _|(g,x)::r=>by
  unfold iN;by_cases c:g=f
  .rw[A6 c];simp
  .rw[A4 c];have:=DJ f v r;simp![um];omega
abbrev FLD:oj Str:= ["rows","rule","own","boxes","place","done","given","there"]
def Sf:∀m>MTH,m∉FLD:=by decide+kernel
variable {v:V}
def Nx {db dg:o3}(U:(iN "there" .non (iN "given" (-dg) (iN "done" (.int 0) (iN "place" (.int 1) (iN "boxes" (-db) (iN "own" (!own) (iN "rule" v (iN "rows" rv [])))))))).length<=20):
  Fl (iN "there" .non (iN "given" (-dg) (iN "done" (.int 0) (iN "place" (.int 1) (iN "boxes" (-db) (iN "own" (!own) (iN "rule" v (iN "rows" rv [])))))))) rv v own db dg 1 0 .non:=by
 rw[_,?_,?_,?_,?_,?_,?_,?_,?_,λm hm=>?_,U]
 .iterate 7 rw[qN,A4 ()]
  rw[qN,A6 rfl]
 .iterate 6 rw[qN,A4 ()]
  rw[qN,A6 rfl]
 .iterate 5 rw[qN,A4 ()]
  rw[qN,A6 rfl]
 .iterate 4 rw[qN,A4 ()]
  rw[qN,A6 rfl]
 .iterate 3 rw[qN,A4 ()]
  rw[qN,A6 rfl]
 .iterate 2 rw[qN,A4 ()]
  rw[qN,A6 rfl]
  rfl
 .rw[qN,A4 (),qN,A6 rfl]
 .rw[qN,A6 rfl]
 .let h:=Sf m hm
  iterate 8 rw[qN,A4 (λe=>h (by rw[e];decide+kernel))]
  rfl
structure Ini (n:Nat)(H:Hp)(C x dx:o3)(fs:oj (Str×V))(H':Hp):Prop where
 len:↑fs<=n
 at':H' x=u_ (.ins C dx fs)
 kept:∀b o,H b=u_ o->b≠x->H' b=u_ o
def Ini.put {x:o3}{fs:oj (Str×V)}(I:Ini n H C x dx fs H')(f:Str)(v:V):Ini (n+1) H C x dx (iN f v fs) (upd H' x (.ins C dx (iN f v fs)))/\Tk H' (upd H' x (.ins C dx (iN f v fs))):=
 ⟨⟨uY (DJ f v fs) (Va I.len),qg,λb o h n=>by rw[qk n];exact I.kept b o h n⟩,Tk.updI I.at'⟩
def Ini.same {x:o3}{fs:oj (Str×V)}(I:Ini n H C x dx fs H')(s:ic H' H2):Ini n H C x dx fs H2:=[I.len:s _ _ I.at':λb o h n=>s _ _ (I.kept b o h n)]
def AbC {K:o0}{b A:o3}{H1:Hp}{te:TE}{tl:L2.St}{Q:VK}(U:∀H,SqT K H b (BX.map V.str))(hA:H1 A=U_)
  (Z:∀(z:Str) H (R:VK),↑z<=Vg->ic H1 H->(∀y H',ic H H'->Is H' (emp z) y->R y H')->te (u_ (!z)::tl) H R)
  (hQ:∀H' ys,ic H1 H'->H' A=u_ (.lst ys)->L2.IsL H' (BX.map emp) ys->Q (-A) H'):Az A (Itt K b) (YG 0) nK te (U_::tl) H1 Q:=by
 let hl:∀H,L2.IsL H (BX.map D.str) (BX.map V.str):=λH=>IsL.ofStrs λz hz=>yL (by rw[(NB hz).1];decide)
 refine Ay (ds:=BX.map D.str) (λd=>match d with| .str z=>emp z|d=>d) (yL ()) hA (λi H sm hi=>(BX.map V.str,(BX.map V.str)[i]'(by simpa using hi),U H,ub _)) (λi H x H' d sm hd y=>?_) (λH sm=>⟨BX.map V.str,U H,by simp⟩) (λd x H R hd sm hx r=>?_) (λH' ys sm e h=>hQ H' ys sm e ?_)
 .erw[y,rfl,y];erw[(hl H').get hd,v,e1,e2];have:=y _ (U H');rw[e1,0] at this;exact[1:e2]
 .erw[Af.mp hd,z,_,rfl];erw[hx,rfl,hz,<-Z z H R hz sm r]
 .rwa[uO] at h
def Mi:∀{d:D},mM d=v_->∃own,d= .str own/\nm own=v_/\↑own<=100
 | .str z,h=>(z,1,h,by
  rcases Hb 24 ↑z with h1|h1
  .rw[show mM (!z)=nm z from rfl,Bz (λq=>by omega)] at h
   rw[h,0]
  .omega)
def sP {n:Nat}:∀{ds:oj D},ds.all (λd=>(Qw n d).isSome)=v_->((ds.filterMap (Qw n)).map λr=>D.str (Yz r))=ds/\↑(ds.filterMap (Qw n))=↑ds/\∀r>ds.filterMap (Qw n),JN n 300 r
 | [],_=>⟨1,1,λr h=>by simp at h⟩|d::ds,h=>by
  rw[vN,uE] at h;erw[zD h.1,r,U];erw[sP h.2,i1,i2,i3];cases d with
  |str z=>
   obtain⟨h1,h2⟩:=Bm (show w8 n z=u_ r from U)
   rw[Uh U];rw[_,by rw[uA,h2,i1],by rw[um,um,i2],λx Z=>?_]
   rcases Ab.mp Z with rfl|Z
   .exact h1
   .exact i3 x Z
  |_=>rw[U,0]
set_option tactic.hygienic true in
def qac:∀{d:D}{rs:oj Rw},ye d=u_ rs->QY rs/\d=jY rs
 | .tup ds,rs,h=>by
  rw[zt] at h;split at h
  .rename_i U
   rw[h,0];simp![uE,vm] at U;erw[U,[[h1,h2],h3],h4];erw[sP h3,Z,i2,i3];let e:jY (ds.filterMap (Qw ↑ds))=¬ds:=Aa D.tup Z;exact⟨((),(),λr hr=>by rw[i2];exact i3 r hr,by rwa[e]),e.symm⟩
  .rw[h,0]
inductive qaq (C br bn:Addr)(vs:List V)(H:Hp)(Q:VK)(E:XK):Prop
 |mk (x dx:Addr)(v ov:V)(d od:D)(_:vs= [-x,v,ov])(_:H x=u_ (.ins C dx []))(_:Is H d v)(_:Is H od ov)(_:(ye d=U_->∀(e:Addr)(H':Hp),(∀b o,H b=u_ o->b≠x->H' b=u_ o)->E (-e) (u_ br) H'))(_:(ye d≠U_->mM od=Vd->∀(e:Addr)(H':Hp),(∀b o,H b=u_ o->b≠x->H' b=u_ o)->E (-e) (u_ bn) H'))(_:(∀(rs:List Rw)(own:Str),d=jY rs->QY rs->od= .str own->nm own=v_->↑own<=100->∀(H':Hp)(db dg:Addr),(∀b o,H b=u_ o->b≠x->H' b=u_ o)->H db=U_->H dg=U_->yx C H' (x,db,dg,rs,own) (mU rs own [] 300 B0 1 0)->Q .non H'))
def wF (T:Tx K mg a)(C:Fx K w mg g a):FnOk P w K mg base (CX1 P w) 6 a.jA a.Xr ["self","rule","own"] (qaq a.qq g.br g.bn):=by
 let QD:=#[xu,T];let U:=#[Po,T,C];let YZ:=#[Eg,T,C];refine T.iL.F.okX W9 () (λ_ _ _ _ H _ Q E hr h=>?_)
 erw[h,x,dx,v,ov,d,od,rfl,hx,hv,ho,kR,kN,k];rw[3,%[#[Qn,#[qt,16,U,hr.mono (),_,T.lK.m,T.lK.F.kp,T.lK.b,.nil,Ac3,#v[pv 1],_,_,_]],#[qI,#[Qo,#[Qe,#[qt,QD,T.iF,#v[pv 2]]]],%[|#[qaB,22,C.x_BadName,_,C.m_BadName,qi,_,_]],qp],#[Qn,pv 1],#[Qn,pv 2],#[Qn,#[Qj,#[CU,1,rfl],T.z_dict,boot_dict,#v[#[Xw,["box"],[],Ni,#[Zb,#[pe_gR,C.m_BOXES]],(λ_ _ _ _ _ _=>#[qJ,(0),(show Vu (["box"]:oj Str) by decide+kernel)]),(λ_ _ _ _ _ _=>#[qA,#v[pv 0,qi]])]]]],#[Qn,qh],#[Qn,qh],#[Qn,#[QE,qd]],#[Qn,qR]|#[qY,#[Qx,pv 0,T.qu,T.lf,YZ]]]]
 rw[0,v,d,1,hv,λrs am rv H1 s1 ir=>?_,λhn e H1 s1=>kR hn e H1 λb o h _=>s1 b o h]
 rw[0,x,_,dx,[],1,s1 _ _ hx,T.qu,T.Yr,()]
 let I0:Ini 0 H a.qq x dx [] H1:=[uh _:s1 _ _ hx:λb o h _=>s1 _ _ h];erw[I0.put "rows" rv,I1,t1];let aB:=ir.mono t1;let htk:∀{n:Nat}{fs:oj (Str×V)}{H':Hp},Ini n H a.qq x dx fs H'->Tk H H':=λ{n fs H'} I=>⟨λb xs e=>I.kept b _ e (λz=>by rw[z,hx,0] at e),λb xs e=>⟨_,I.kept b _ e (λz=>by rw[z,hx,0] at e)⟩,λb xs e=>⟨_,I.kept b _ e (λz=>by rw[z,hx,0] at e)⟩⟩
 rw[0,ov,od,1,ho.mono (htk I1),λH3 s3=>[0:?_]];let I3:=I1.same s3;cases ad:mM od with
 |false=>exact iY ⟨1,λe=>kN (by rw[am];simp) ad e H3 I3.kept⟩|true=>
 refine iU ?_;erw[qac am,hR,rfl];erw[Mi ad,own,rfl,ad,ao];rw[show ov= .str own from ho.1,0]
 let n1:=hR.n1;let k:=k rs own rfl hR rfl ad ao;let aC:=aB.mono s3.tk
 rw[5]
 refine(0,0,x,_,dx,0,I3.at',T.qu,T.kt,by have:=I3.len;omega,?_)
 erw[I3.put "rule" v,I4,t4];let aD:=aC.mono t4
 rw[5]
 refine(0,0,x,_,dx,0,I4.at',T.qu,T.zJ,by have:=I4.len;omega,?_)
 erw[I4.put "own" (!own),I5,t5];let aE:=aD.mono t5
 rw[_,g.boxes,0,C.boxes _,λaP A0 aF=>?_];refine AbC (tl:= []) C.boxes aF (λz H6 R hz s6 r=>[0:(sml rfl):λl hl=>r _ _ (qf hl _) (Is.new (ds:= [!z,-""]) (_,0,[1:hz],_,0,[1:yL ()],1) hl)]) λH6 ys s6 e6 i6=>?_
 rw[_,A0,0,OY e6 i6,Mz,(),λdb aa=>?_]
 let I6:=I5.same s6;let s7:ic H6 (upd H6 db (.dK (iM (BX.map λz=>(z,V.str ""))))):=qf aa _;let I7:=I6.same s7;let b7:=SS aa;let aG:=(aE.mono s6.tk).mono s7.tk;let nx:∀b o,H b=u_ o->b≠x->b≠db:=λb o h n=>ql (I6.kept b o h n) aa;let Z:x≠db:=ql I6.at' aa
 rw[5]
 refine(0,x,_,dx,0,I7.at',T.qu,T.QC,by have:=I7.len;omega,?_)
 erw[I7.put "boxes" (-db),I8,t8];let b8:=b7.move t8 (qk Z.symm);let aH:=aG.mono t8
 rw[5]
 refine(0,x,_,dx,0,I8.at',T.qu,T.Qu,by have:=I8.len;omega,?_)
 erw[I8.put "place" (.int 1),I9,t9];let b9:=b8.move t9 (qk Z.symm);let aI:=aH.mono t9
 rw[5]
 refine(0,x,_,dx,0,I9.at',T.qu,T.yq,by have:=I9.len;omega,?_)
 erw[I9.put "done" (.int 0),ae,ap];let aJ:=b9.move ap (qk Z.symm);let aq:=aI.mono ap
 rw[_,(sml rfl),λdg af=>?_];let ag:=qf af (.lst []);let ah:=ae.same ag;let aK:=aJ.same ag;let au:=aq.mono ag.tk;let ak:dg≠x:=(ql ae.at' af).symm
 rw[5]
 refine(0,x,_,dx,0,ah.at',T.qu,T.YU,by have:=ah.len;omega,?_)
 erw[ah.put "given" (-dg),al,aw];let aL:=aK.move aw (qk Z.symm);let ax:=au.mono aw
 rw[5]
 refine(0,x,_,dx,0,al.at',T.qu,T.qP,by have:=al.len;omega,?_)
 erw[al.put "there" .non,ac,ay];let aM:=aL.move ay (qk Z.symm);let aA:=ax.mono ay;let hl:=ac.len
 rw[0,x,dx,0,ac.at',(Nx ()).meth _ ()]
 let aN:Is _ (jY rs) v:=hv.mono (htk ac);let frs:∀{b:o3}{H2:Hp},(∀c o,H c=u_ o->c≠x->H2 c=u_ o)->H2 b=U_->b≠x->H b=none:=λ{b H2} k1 h1 n1=>by
  cases hc:H b with
  |none=>rfl|some o=>rw[k1 b o hc n1,0] at h1
 let aO:∀b o,H b=u_ o->b≠x->b≠dg:=λb o h n=>ql (ae.kept b o h n) af
 rw[5]
 refine((x,db,dg,rs,own),(B0,(1),(0),[],.non),1,(dx,_,rv,v,.non,[],ac.at',Nx (),aA,aN,aM,?_,1,1),1,Aac,ao,hR,Int.le_refl 1,by show(1:Int)<=(↑rs:Int)+1;omega,uK _,λH' m M=>k H' db dg (λb o h n=>m.kept b o (ac.kept b o h n) n (nx b o h n) (aO b o h n)) (frs I6.kept aa Z.symm) (frs ae.kept af ak) M)
 rw[qk ak,qk ak,qg]
abbrev JK (z:Str):Bool:=z.cps.toList.all QI
def Em {y:Str}(h:JK z=v_)(k:JK y=v_):JK (z++y)=true:=by
 unfold JK at*;show(z.cps++y.cps).toList.all QI=v_;rw[tG,UX,h,k];rfl
mutual
noncomputable def lw:D->Bool
 | .str z=>JK z| .tup xs=>lwL xs|_=>Vd
noncomputable def lwL:oj D->Bool
 | []=>v_|x::r=>lw x&&lwL r
end
def Aw (z:Str):↑z=↑z.cps.toList:=by show z.cps.size=_;simp
def EQ (h:JK z=v_)(U:↑z<=300):isT (!z)=true:=by
 let Z:QH z=true:=by
  unfold QH;rwa[u8 U,Vc]
 let e1:sz (!z)<=600:=by simp![sz];omega
 let e2:dp (!z)<=12:=by simp![dp];omega
 let e3:good (!z)=true:=by simp![good];exact Z
 unfold isT;rw[e3,u8 e1,u8 e2]
 rfl
abbrev isP:D->Bool
 | .tup xs=>decide (↑xs=2)|_=>Vd
abbrev oW:D->Bool
 | .tup [k,d]=>if eqD k (-"made")=v_ then mM d else(eqD k (-"leaf")||eqD k (-"rule"))&&isT d|_=>Vd
abbrev okS:D->Bool
 | .tup [k,_]=>Na k&&decide (dp k<=60)|_=>v_
inductive Og:Sp
 |mk (v:_)(d:_)(_:vs= [v])(_:Is H d v)(_:Q (.bl (isP d)) H)
inductive Dm:Sp
 |mk (v:_)(d:_)(_:vs= [v])(_:Is H d v)(_:okS d=v_)(_:∀H',ic H H'->Q (.bl (oW d)) H')
inductive Oy (K:PySem.W.Frag):Sp
 |mk (q:Addr)(ns:List Int)(k:Int)(_:vs= [-q,.int k])(_:0<=k)(_:SqL K H q (ns.map V.int))(_:∀i:Int,Q (.int i) H)
def iO {b:Bool}{A B:Prop}(U:b=v_)(h:A):if b=v_ then A else B:=by rw[A6 U];exact h
def iI {b:Bool}{A B:Prop}(U:b=Vd)(h:B):if b=v_ then A else B:=by rw[A4 (by rw[U];exact uc)];exact h
def Pu:#[T,1,a.f_is_pair,a.d_is_pair,["value"],Og]:=by
 rw[9,T.nI,Co]
 erw[h,v,d,rfl,Z,k];rw[3,%[|#[qo,#[JB,#[qz,#[qW,2,rfl],T.qS,uZ,#v[pv 0,#[yd,.ty "tuple",T.QO,vx]]],#[jN,#[Qb,Qd,#[qz,xh,T.QZ,uJ,#v[pv 0]],qh]]]]]]
 rw[0,v,"tuple",tyD d,zp d,1,Z.ty,JW d,0];cases ht:zp d with
 |false=>
  refine iU ?_;let e:isP d=false:=by cases d<;>first|rfl|simp[zp] at ht
  rwa[e] at k
 |true=>
  obtain⟨xs,rfl⟩:∃xs,d=¬xs:=by cases d<;>simp[zp] at ht;exact⟨0⟩
  erw[Z,p,us,rfl,hp,U];let lu:=↑U;refine iY [0:.inr (p,us,1,.inr (SqT.of hp),λ_=>[1:?_])];let e:decide (V.int (↑us:Int)=V.int 2)=isP (¬xs):=by
   simp![isP,vd];constructor
   .intro h;have:=V.int.inj h;omega
   .intro h;rw[lu,h]
    rfl
  rwa[<-e] at k
def D4:#[T,3,a.W0,a.WD,["value"],Dm]:=by
 let U:=#[Pu,T];let QD:=#[xu,T];let yM:=#[jM,T];rw[9,T.mY,nZ]
 erw[h,v,d,rfl,hv,hok,k];rw[3,%[#[qI,#[Qo,#[Qe,#[qt,U,T.nI,#v[pv 0]]]],%[|#[qo,Yx]],qp],#[qI,#[qm,#[Abg,1,hr.units],#[qE,qB,pv 0,qh],qi],%[|#[qo,#[qt,QD,T.iF,#v[#[qE,qB,pv 0,qh]]]]],qp]|#[qo,#[JB,#[Qb,8,#[M5,1,hr.units],#[qE,qB,pv 0,qh],#[qA,#v[qi,qi]],#[w]],#[jN,#[qt,yM,T.lr,#v[#[qE,qB,pv 0,qh]]]]]]]]
 rw[0,v,0,hv,0];cases hP:isP d with
 |false=>
  refine iY ?_;let e:oW d=false:=by
   cases d with
   |tup xs=>
    match xs,hP with
    | [],_=>rfl| [_],_=>rfl| [_,_],h=>simp[isP] at h|_::_::_::_,_=>rfl
   |_=>rfl
  have:=k H (ic.refl _);rwa[e] at this
 |true=>
  refine iU ?_;obtain⟨z,e,rfl⟩:∃z e,d=-[z,e]:=by
   cases d with
   |tup xs=>
    match xs,hP with
    | [],h=>simp[isP] at h| [_],h=>simp[isP] at h| [x,y],_=>exact[x:y:1]|_::_::_::_,h=>simp[isP] at h
   |_=>simp[isP] at hP
  erw[id hv,p,us,rfl,hp,x1,r1,rfl,h1,x2,r2,rfl,h2,h3];rw[show r2= [] from h3,0]
  let Z:Na z=v_/\dp z<=60:=by simpa [okS] using hok
  rw[0,p,_,_,0,1,SqT.of hp,1,z,"made",h1,1,(),Z.1,Z.2,0]
  cases c:eqD z (-"made") with
  |true=>
   refine iY (0,p,_,_,0,1,SqT.of hp,1,x2,e,1,h2,λH' s'=>?_);have:=k H' s';simp![oW,c,if_true] at this;exact this
  |false=>
   refine iU (0,p,_,_,0,1,SqT.of hp,1,(sml rfl),λq hq=>?_);let s1:ic H (upd H q (-[-"leaf",-"rule"])):=qf hq _
   rw[_,z,q,["leaf","rule"],h1.mono s1.tk,1,.inr (SqT.of qg),(),Z.1,Z.2,0]
   let e2:(["leaf","rule"]:oj Str).any (λy=>eqD z (!y))=(eqD z (-"leaf")||eqD z (-"rule")):=by simp
   rw[e2];cases c2:(eqD z (-"leaf")||eqD z (-"rule")) with
   |true=>
    refine iY (0,p,_,_,0,1,SqT.of (s1 _ _ hp),1,x2,e,1,h2.mono s1.tk,λH' s'=>?_);have:=k H' (s1.trans s');simp![oW,c,c2,Vc,UV,if_false] at this;exact this
   |false=>
    refine iU ?_;have:=k _ s1;simp![oW,c,c2,TR,UV,if_false] at this;exact this
def Ej:#[T,1,a.zd,a.zL,["script","k"],(Oy K)]:=by
 rw[9,T.lX,kr]
 erw[h,q,ns,j,rfl,h0,U,k];rw[3,%[#[qI,#[qm,qaJ,pv 1,#[qz,qG,T.QZ,uJ,#v[pv 0]]],%[|#[qo,#[qE,QP,pv 0,pv 1]]],qp]|#[qo,qh]]]
 rw[0,0,q,0,.inl U,_,0,1,0];refine ky (λc=>?_) (λc=>?_)
 .let c':j<(↑(ns.map V.int):Int):=ui c;erw[Yn h0 c',v,Z];erw[Af.mp (jG Z),i,_,rfl,<-(0,0,q,_,_,0,1,U,Z,k _)]
 .exact k 0
abbrev okN (z:Str):Bool:=(z.cps.toList.map λc=>inS ⟨#[c]⟩ NSG).all id
def zG (h:nm z=v_):1<=↑z/\↑z<=24:=by
 by_cases c:1<=(↑z:Int)/\(↑z:Int)<=24
 .omega
 .rw[Bz c,0] at h
abbrev Nms (zs:oj Str):Prop:=(∀z>zs,nm z=v_)/\zs.Nodup
abbrev sS (d:D):Prop:=(∃k e,d=-[!k,e])/\oW d=v_/\lw d=v_/\sz d<=306
abbrev prD (p:Str×D):D:=-[.str p.1,p.2]
abbrev Adx (ps:oj (Str×D)):Prop:=Nms (ps.map (·.1))/\∀p>ps,sS p.2
def El (h:okN z=v_):JK z=true:=by
 unfold JK;rw[U4];intro c Z;have:=List.all_eq_true.mp h _ (Af.mpr [c:Z:1]);rw[id,Sv] at this;let U:∀c>NSG.cps.toList,QI c=true:=by decide+kernel
 exact U c (ui this)
def Nd (h:nm z=v_):okN z=true:=by
 let U:=zG h;cases h3:inS ⟨#[z.cps.getD 0 0]⟩ LET with
 |false=>rw[BA h3,0] at h|true=>
  rw[Ep () () h3] at h
  exact h
def IW (h:nm z=v_):sS (-[-"made",!z]):=by
 let U:=zG h;refine([_:0],?_,?_,by simp![sz,szL];show 1+(("made":Str).length+1+(↑z+1+0))<=306;have:("made":Str).length=4:=rfl;omega)
 .show(if eqD (-"made") (-"made")=v_ then nm z else(eqD (-"made") (-"leaf")||eqD (-"made") (-"rule"))&&isT (!z))=v_
  rw[A6 ()]
  exact h
 .have:JK "made"=true:=by decide+kernel
  simp![lw,lwL,this,El (Nd h)]
  rfl
def IX {k:Str}{d:D}(U:k="leaf"\/k="rule")(h:isT d=v_)(Z:lw d=v_)(hz:sz d<=300):sS (-[!k,d]):=by
 let aa:↑k=4:=by rcases U with rfl|rfl<;>rfl
 refine([_:0],?_,?_,by simp![sz,szL];omega)
 .show(if eqD (!k) (-"made")=v_ then mM d else(eqD (!k) (-"leaf")||eqD (!k) (-"rule"))&&isT d)=v_
  let e1:eqD (!k) (-"made")=false:=by rcases U with rfl|rfl<;>decide+kernel
  let e2:(eqD (!k) (-"leaf")||eqD (!k) (-"rule"))=true:=by rcases U with rfl|rfl<;>decide+kernel
  rw[e1,e2,h]
  rfl
 .have:JK k=true:=by
   rcases U with rfl|rfl<;>decide+kernel
  simp![lw,lwL,this,Z]
  rfl
def NT {d:D}(h:sS d):okS d=true:=by
 erw[h,[k,e,rfl],_];simp[okS,Na,trD,dp]
def Qi (h:↑z<=16000000):Is H (!z) (!z):=[1:nB h]
abbrev qH (ps:oj (Str×D))(z:Str):D:=((ps.find? λp=>decide (p.1=z)).map (·.2)).getD .non
abbrev Zk (vs:oj (Str×V))(z:Str):V:=(iP (iM vs) (Vf z)).getD .non
def zT (p:Str×V)(r:oj (Str×V)):iM (p::r)=(Vf p.1,p.2)::iM r:=rfl
def CJ {H:Hp}{z:Str}:∀{ps:oj (Str×D)}{vs:oj (Str×V)},vs.map (·.1)=ps.map (·.1)->IsL H (ps.map (·.2)) (vs.map (·.2))->z>ps.map (·.1)->iP (iM vs) (Vf z)=u_ (Zk vs z)/\Is H (qH ps z) (Zk vs z)
 | [],_,_,_,h=>nomatch h|p::ps,[],e,_,_=>by simp at e|p::ps,v::vs,e,hi,hz=>by
  simp![uA,UB] at e;erw[hi,u,r,e2,h1,h2];simp![uA,UB] at e2;erw[e2,rfl,rfl];by_cases c:p.1=z
  .let U:v.1=z:=e.1.trans c;let e3:iP (iM (v::vs)) (Vf z)=u_ v.2:=by
    rw[zT];exact Q2 (by rw[U])
   let Z:qH (p::ps) z=p.2:=by simp[qH,vi,c]
   unfold Zk;rw[e3,Z];exact[1:h1]
  .let U:¬v.1=z:=λq=>c (e.1.symm.trans q);let e3:iP (iM (v::vs)) (Vf z)=iP (iM vs) (Vf z):=by
    rw[zT];exact QR (λq=>U (Uu q))
   let Z:qH (p::ps) z=qH ps z:=by simp[qH,vi,c]
   let aa:z>ps.map (·.1):=by
    rcases Ab.mp hz with h|h
    .exact A8 h.symm c
    .exact h
   let ih:=CJ e.2 h2 aa;unfold Zk at*;rw[e3,Z];exact ih
def Zy {z:Str}:∀{vs:oj (Str×V)},z∉vs.map (·.1)->iP (iM vs) (Vf z)=U_
 | [],_=>rfl|v::vs,h=>by
  rw[zT,QR (λq=>h (by rw[<-Uu q];exact ug ..))]
  exact Zy λm=>h (uf _ m)
def MT:∀{ps:oj (Str×D)},(ps.map (·.1)).Nodup->(ps.map (·.1)).map (λz=>(z,qH ps z))=ps
 | [],_=>rfl|p::ps,h=>by
  let h':=List.nodup_cons.mp h;let U:qH (p::ps) p.1=p.2:=by simp[qH,vi]
  rw[uA,uA,U]
  congr 1
  refine Eq.trans (UP λz hz=>?_) (MT h'.2);have:¬p.1=z:=λq=>h'.1 (by show p.1>_;rwa[q])
  simp[qH,vi,this]
abbrev Ck (ps:oj (Str×D))(ms:oj Str):oj (Str×D):=ms.map λz=>(z,qH ps z)
def qaA (ps:oj (Str×D))(U:oj Str):(Ck ps U).map (·.1)=U:=by
 unfold Ck;rw[uO];exact(UP λ_ _=>rfl).trans (Hr U)
variable {ps:oj (Str×D)}
def Bb {U:oj Str}(hn:(ps.map (·.1)).Nodup)(h:U.Perm (ps.map (·.1))):(Ck ps U).Perm ps:=by
 have:=h.map λz=>(z,qH ps z);rwa[MT hn] at this
abbrev yn (C:o3)(H:Hp)(x:o3)(qs:oj (Str×D)):Prop:=∃(dx d:o3) (o:Obj) (vs:oj (Str×V)),H x=u_ (.ins C dx [("by_name",-d)])/\H d=u_ (.frz o (.dK (iM vs)))/\vs.map (·.1)=qs.map (·.1)/\L2.IsL H (qs.map (·.2)) (vs.map (·.2))
variable {qs:oj (Str×D)}
def yn.same {x:o3}(h:yn C H x qs)(s:ic H H'):yn C H' x qs:=by
 erw[h,dx,d,o,vs,h1,h2,h3,h4,<-(dx,d,o,vs,s _ _ h1,s _ _ h2,h3,h4.mono s.tk)]
abbrev Q0 (qs:oj (Str×D)):Prop:=Adx qs/\Ta (qs.map (·.1))=v_/\↑qs<=60
inductive Oq (C:Addr):Sp
 |mk (x dx t:Addr)(ps:List (Str×D))(us:List V)(_:vs= [-x,-t])(_:H x=u_ (.ins C dx []))(_:H t=u_ (¬us))(_:L2.IsL H (ps.map prD) us)(_:Adx ps)(_:↑ps<=60)(_:∀(qs:List (Str×D))(H':Hp),(∀b o,H b=u_ o->b≠x->H' b=u_ o)->yn C H' x qs->Q0 qs->qs.Perm ps->Q .non H')
variable {l:oj Str}
def Nms.perm {m:oj Str}(h:Nms m)(p:l.Perm m):Nms l:=[λz hz=>h.1 z (p.mem_iff.mp hz):(p.nodup_iff).mpr h.2]
def NA {d:D}(hn:(ps.map (·.1)).Nodup)(h:(z,d)>ps):qH ps z=d:=by
 induction ps with
 |nil=>rw[h,0]|cons p r ih=>
  let U:=List.nodup_cons.mp hn;rcases Ab.mp h with h|h
  .subst h;simp[qH,vi]
  .have:¬p.1=z:=λq=>U.1 (by show p.1>_;rw[q];exact Af.mpr [_:h:1])
   let Z:=ih U.2 h
   simpa [qH,vi,this] using Z
def SO (hn:(ps.map (·.1)).Nodup)(h:z>ps.map (·.1)):(z,qH ps z)>ps:=by
 erw[Af.mp h,p,U,rfl];rw[NA hn (show(p.1,p.2)>ps from U)]
 exact U
def EU (vs:oj (Str×V))(z:Str)(v:V):iM (vs++ [(z,v)])=iM vs++ [(Vf z,v)]:=by
 unfold iM;rw[uj]
 rfl
def AeA {α β:Type}(f:α->β){l:oj α}(h:i<↑l):(l.map f)[i]? =u_ (f l[i]):=by
 rw[uH,ub h]
 rfl
def IT {α:Type}{l:oj α}(h:i<↑l):l.take (i+1)=l.take i++ [l[i]]:=by
 rw[uV,ub h]
 rfl
def PF:#[T,4,a.jF,a.Xj,["self","sources"],(Oq a.qK)]:=by
 let QD:=#[xu,T];let Z:=#[D4,T];refine T.lC.F.ok yP () (λ_ _ _ _ H vs Q E hr h=>?_)
 erw[h,x,dx,t,ps,us,rfl,hx,ht,aq,hok,aM,k];let hs:=uB;rw[3,%[#[qF,2,(2),4,yP.nd,rfl,GN rfl,Jd,_,_],#[y7,#[wq,pv 1],#[JA,qT #[qJ,(3),yP.nd] (qT #[qJ,(4),yP.nd] yW)],%[#[qI,#[Qo,#[Qe,#[qt,QD,T.iF,#v[pv 3]]]],%[|Jq],qp],#[qI,#[Qo,#[Qe,#[qt,Z,T.mY,#v[pv 4]]]],%[|Jq],qp],#[qI,#[kK,#[pc_din,pv 3,pv 2]],%[|Jq],qp],#[qI,#[qm,Qd,#[qz,Iz,T.QZ,uJ,#v[pv 2]],#[qaS,T.m_MOST_NAMES]],%[|Jq],qp]|#[Jm,pv 2,pv 3,pv 4]]]|#[Qn,#[Qj,#[CV,1,rfl],T.z_dict,boot_dict,#v[#[Xw,["name","by_name"],[2],Md (qj Yq) ["self","sources","by_name","name","source"],#[ZD,#[qz,#[sI,1,rfl],T.z_sorted,boot_sorted,#v[pv 2]]],(λ_ _ _ _ _ _=>#[qJ,(0),(show Vu (["name","by_name"]:oj Str) by decide+kernel)]),(λ_ _ _ _ _ _=>#[qA,#v[pv 0,#[QN,pv 1,pv 0]]])]]]]]]
 intro d hd;let s1:ic H (upd H d (.dK [])):=qf hd _;let aN:d≠x:=λe=>by rw[e,hx,0] at hd
 let au:=↑aq;rw[u7] at au
 rw[5]
 refine⟨0,t,1,[_:SqT.of (s1 _ _ ht)],xB (K:=K) (a:=t) (xs:=us) (λi σ H'=>∃(vs:oj (Str×V)) (nv sv:om V),σ= [u_ (-x),u_ (-t),u_ (-d),nv,sv]/\ic H H'/\H' d=u_ (.dK (iM vs))/\vs.map (·.1)=(ps.take i).map (·.1)/\L2.IsL H' ((ps.take i).map (·.2)) (vs.map (·.2)))
  ([],U_,U_,1,s1,qg,1,1) (λi σ H' _ ⟨_,_,_,_,sm,_⟩=>SqT.of (sm _ _ ht)) ?_ ?_⟩
 .rintro i y σ H' hi ⟨vs,nv,sv,rfl,sm,ad,hk,hv⟩;let aO:i<↑us:=(Ag.mp hi).1;let aa:i<↑ps:=by omega
  erw[aq.get (AeA prD aa),v,e1,e2];rw[hi,0] at e1;let aw:=hok.2 _ (uN aa);let aC:nm ps[i].1=true:=hok.1.1 _ (Af.mpr [_:uN aa:1]);erw[aw,[sk,sd,aP],aD,aQ];erw[e2,p,ws,rfl,hp,w1,r1,rfl,[rfl,hz],w2,r2,rfl,h2,h3];rw[show r2= [] from h3,0]
  let aE:=sm _ _ hp
  rw[_,p,0,SqT.of aE,1,_,0,_,0,1]
  rw[0,_,.str ps[i].1,1,[1:hz],λH3 s3=>⟨0,iI (by simp[mM,aC]) ?_⟩]
  let ax:Is H3 ps[i].2 w2:=h2.mono (sm.trans s3).tk
  rw[0,w2,ps[i].2,1,ax,NT (hok.2 _ (uN aa)),λH4 s4=>⟨0,iI (by rw[aD];rfl) ?_⟩]
  let ag:=s3.trans s4;let ae:=ag _ _ ad;let nk:ps[i].1∉vs.map (·.1):=by
   rw[hk];let ac:=hok.1.2;let e:ps.map (·.1)=(ps.take i).map (·.1)++ps[i].1::(ps.drop (i+1)).map (·.1):=by
    rw[<-uA (f:=λx:Str×D=>x.1),<-vc aa,<-uj,p6]
   rw[e,Fm] at ac;exact λm=>ac.2.2 _ m _ (ug ..) rfl
  let ev:=Zy nk;let aF:↑vs=i:=by
   have:=Aa Gm hk;rw[u7,u7,uQ] at this;omega
  rw[0,0,d,0,mT.k (k:=Vf ps[i].1) ae,0,iI (by rw[ev];rfl) ?_]
  rw[0,d,0,ae,1,0,iI (ud λq=>?_) ?_]
  .have:=V.int.inj q;unfold iM at this;rw[u7] at this;omega
  .let aG:↑(iM vs)<sizeLine:=by
    unfold iM;rw[u7];omega
   rw[0,0,0,d,0,C4.k (k:=Vf ps[i].1) ae aG];let tk:Tk H4 (upd H4 d (.dK (lV (iM vs) (Vf ps[i].1) w2))):=Tk.updD ae
   rw[_,vs++ [(ps[i].1,w2)],_,0,?_,?_,?_,?_]
   .intro b o e;rw[qk (ql e hd)];exact(sm.trans ag) _ _ e
   .rw[qg,wH _ ev,EU]
   .rw[IT aa,uj,uj,hk]
    rfl
   .rw[IT aa,uj,uj];exact(((hv.mono ag.tk).mono tk)).append (L2.IsL.one ((ax.mono s4.tk).mono tk))
 .rintro σ H1 ⟨vs,nv,sv,rfl,sm,ad,hk,hv⟩;rw[au,vT] at hk hv;let aF:↑vs=↑ps:=by
   have:=Aa Gm hk
   rwa[u7,u7] at this
  let ah:(iM vs).map (·.1)=(ps.map (·.1)).map Sum.inr:=by rw[Wk,hk]
  rw[5]
  refine⟨0,d,iM vs,ps.map (·.1),1,ad,ah,by rw[u7];omega,λms q U ak hq=>(q,1,[_:SqL.of qg],λA0 al=>?_)⟩
  let s2:ic H1 (upd H1 q (.lst (ms.map V.str))):=qf hq _;let aR:↑ms=↑ps:=by
   have:=U.length_eq
   rwa[u7] at this
  refine Sj (K:=K) (tl:= [u_ (-d)]) (λi ys H'=>∃ts:oj o3,ys=ts.map V.ref/\↑ts=i/\ic H1 H'/\H' A0=u_ (.lst ys)/\∀(j:Nat) (t:o3) (z:Str),ts[j]? =u_ t->ms[j]? =u_ z->H' t=u_ (-[!z,Zk vs z])) qg () al
   ([],1,1,s2.trans (qf al _),qg,λj t z h=>by simp at h) ?_ ?_
  .rintro i z ys H' hz ⟨ts,rfl,af,s3,hA,am⟩ _ _ _ R r;let aH:z>ps.map (·.1):=U.mem_iff.mp (uW hz);let lk:=CJ hk hv aH
   rw[0,0,0,d,Zk vs z,1,?_,(sml rfl),λt2 ao=>?_]
   .have:=mT.k (k:=Vf z) (s3 _ _ ad);rwa[lk.1] at this
   .let s4:=qf ao (-[V.str z,Zk vs z]);let aI:t2≠A0:=λe=>by rw[e,hA,0] at ao
    refine r _ _ (s4 _ _ hA) (s4 _ _ (by assumption)) (ts++ [t2],by rw[uj];rfl,by rw[uw,af];rfl,?_,qg,?_)
    .intro b o e;let nb:b≠A0:=ql (s2 _ _ e) al;rw[qk nb];exact s4 _ _ (s3 _ _ e)
    .intro j t z' h1 h2;rcases Hb j i with hj|hj
     .rw[UM ()] at h1
      have:=am j t z' h1 h2;let nb:t≠A0:=λe=>by rw[e,hA,0] at this
      rw[qk nb];exact s4 _ _ this
     .have aJ:j=i:=by
       have:=(Ag.mp h1).1;rw[uw] at this;have:j<↑ts+1:=this;omega
      subst aJ;rw[hz,0] at h2;rw[UK (),af,Nat.sub_self] at h1
      rw[h1,0];rw[qk aI];exact qg
  .rintro ys H2 ⟨ts,rfl,af,s3,hA,am⟩ _;let ac:=hok.1.2;let aK:ms.Nodup:=U.nodup_iff.mpr ac;let ay:(ms.map λz=>(z,Zk vs z)).map (·.1)=ms:=by
    rw[uO];exact(UP λ_ _=>rfl).trans (Hr ms)
   rw[5]
   refine(A0,ms.map λz=>(z,Zk vs z),1,(ts,hA,by rwa[u7],λj t p h1 h2=>?_),by rwa[ay],by rw[u7];omega,λq2 o ap=>?_)
   .rw[uH] at h2;cases h3:ms[j]? with
    |none=>rw[h3,0] at h2|some z=>
     rw[h3,0] at h2;exact am j t z h1 h3
   .let s4:=qf ap (.frz o (.dK (iM (ms.map λz=>(z,Zk vs z)))));let aA:H1 x=u_ (.ins a.qK dx []):=sm _ _ hx;let aB:=s4 _ _ (s3 _ _ aA);let nq:q2≠x:=λe=>by rw[e,s3 _ _ aA,0] at ap
    rw[0,x,a.qK,dx,[],1,aB,T.Qt,T.QW,(by show 0<1000;decide)]
    refine k (Ck ps ms) _ ?_ (dx,q2,o,ms.map λz=>(z,Zk vs z),qg,by rw[qk nq];exact qg,by rw[ay,qaA],?_) ⟨[?_:?_],by rwa[qaA],by unfold Ck;rw[u7];omega⟩ (Bb ac U)
    .intro b ob e nb;rw[qk nb];exact s4 _ _ (s3 _ _ (sm _ _ e))
    .let tk:Tk H1 (upd (upd H2 q2 (.frz o (.dK (iM (ms.map λz=>(z,Zk vs z)))))) x (.ins a.qK dx (iN "by_name" (-q2) []))):=(s3.trans s4).tk.trans (Tk.updI aB);let aL:∀l:oj Str,(∀z>l,z>ps.map (·.1))->L2.IsL H1 ((Ck ps l).map (·.2)) ((l.map λz=>(z,Zk vs z)).map (·.2)):=by
      intro l
      induction l with
      |nil=>exact λ_=>rfl|cons z r ih=>exact λh=>(_,0,(CJ hk hv (h z (ug ..))).2,ih λy hy=>h y (uf _ hy))
     exact(aL ms λz hz=>U.mem_iff.mp hz).mono tk
    .rw[qaA];exact hok.1.perm U
    .intro p hp;exact hok.2 p ((Bb ac U).mem_iff.mp hp)
def BT:Vz ("by_name":Str) [(("by_name":Str),v)]=u_ v:=by simp[Vz]
def CD:Vz ("sources":Str) [(("by_name":Str),v)]=none:=by
 have:(("sources":Str)=="by_name")=false:=by decide+kernel
 simp[Vz,this]
inductive Ki (C:Addr):Sp
 |mk (x:Addr)(qs:List (Str×D))(_:vs= [-x])(_:yn C H x qs)(_:Q0 qs)(_:∀(v:V)(H':Hp),ic H H'->Is H' (.tup (qs.map prD)) v->Q v H')
def Aa5 {H:Hp}{qs:oj (Str×D)}{vs:oj (Str×V)}{ts:oj o3}(U:vs.map (·.1)=qs.map (·.1))(hi:L2.IsL H (qs.map (·.2)) (vs.map (·.2)))(Z:↑ts=↑vs)(hz:∀p>qs,↑p.1<=100)
  (ht:∀(j:Nat) (t:o3) (p:Str×V),ts[j]? =u_ t->vs[j]? =u_ p->H t=u_ (-[.str p.1,p.2])):L2.IsL H (qs.map prD) (ts.map V.ref):=by
 induction qs generalizing vs ts with
 |nil=>
  have:vs= []:=by simpa using U
  subst this;have:ts= []:=by simpa using Z
  subst this
  rfl
 |cons q qs ih=>
  cases vs with
  |nil=>simp at U|cons v vs=>
   cases ts with
   |nil=>simp at Z|cons t ts=>
    simp![uA,UB] at U;erw[hi,u,r,e2,h1,h2];simp![uA,UB] at e2;erw[e2,rfl,rfl];let e0:=ht 0 t v rfl rfl;let hq:=hz q (ug ..);refine(_,0,(t,0,e0,(_,0,⟨by rw[U.1],nB ()⟩,_,0,h1,1)),ih U.2 h2 (by simpa using Z) (λp hp=>hz p (uf _ hp)) λj t' p h3 h4=>ht (j+1) t' p (by simpa using h3) (by simpa using h4))
def yj:Vz ("source_of":Str) [(("by_name":Str),v)]=none:=by
 have:(("source_of":Str)=="by_name")=false:=by decide+kernel
 simp[Vz,this]
inductive wV (C:Addr):Sp
 |mk (x:Addr)(z:Str)(qs:List (Str×D))(_:vs= [-x,!z])(_:yn C H x qs)(_:∀v:V,(z>qs.map (·.1)->Is H (qH qs z) v)->(z∉qs.map (·.1)->v= .non)->Q v H)
def Cz:#[T,1,a.jS,a.jO,["self"],(Ki a.qK)]:=by
 refine T.lT.F.ok zA () (λ_ _ _ _ H vs Q E hr h=>?_)
 erw[h,x,qs,rfl,[dx,d,o,vs,Z,hd,hk,hv],hT,k];rw[3,%[|#[qo,#[Am,8,rfl,_,T.QO,vx,#[qQ,5,pv 0,rfl],_,_,_,_,_,_]]]]
 rw[0,x,a.qK,dx,_,0,Z,T.Qt,T.QW,BT,d,iM vs,1,.inr [o:hd],λt ts H2 s2 _ ht U=>?_];refine k _ H2 s2 (t,0,ht,Aa5 hk (hv.mono s2.tk) ?_ (λp hp=>?_) λj t' p h1 h2=>?_)
 .have:=U.1;unfold iM at this
  rwa[u7] at this
 .have:=zG (hT.1.1.1 p.1 (Af.mpr [p:hp:1]));omega
 .have:=U.2 j t' (Vf p.1,p.2) h1 (by unfold iM;rw[uH,h2];rfl)
  exact this
def yD:#[T,1,a.YW,a.Y6,["self","name"],(wV a.qK)]:=by
 refine T.ii.F.ok xU () (λ_ _ _ _ H vs Q E Z h=>?_)
 erw[h,x,z,qs,rfl,[dx,d,o,vs,hx,hd,U,hv],k];rw[3,%[|#[qo,#[wD,7,QU Z,#[qQ,5,pv 0,rfl],pv 1,(1,1,1,1)]]]]
 rw[0,x,a.qK,dx,_,0,hx,T.Qt,T.QW,BT,d,1,.inl [_:.inr [o:hd]],0,_,.inl (_,Vf z,.inr [o:hd],1,1)];refine k _ (λc=>?_) λc=>?_
 .exact(CJ U hv c).2
 .rw[Zy (by rwa[U])]
  rfl
abbrev Cs (zs:oj Str):D:= .tup (zs.map D.str)
abbrev Bp (acc:oj Str):oj Str->oj Str
 | []=>acc|z::r=>if isT (Cs (acc++ [z]))=v_ then Bp (acc++ [z]) r else acc
inductive k8 (K:PySem.W.Frag):Sp
 |mk (L:Addr)(zs:List Str)(_:vs= [-L])(_:H L=u_ (.lst (zs.map V.str)))(_:(∀z>zs,↑z<=100))(_:↑zs<=100)(_:∀(v:V)(H':Hp),ic H H'->Is H' (Cs (Bp [] zs)) v->Q v H')
variable {xs:oj V}
def Ad4 {K:o0}{a:o3}{x:V}(ha:H a=u_ (¬xs))(U:↑xs+1<=Vg)(k:∀p H',ic H H'->H' p=u_ (.tup (xs++ [x]))->Q (-p) H'):
  [x].length<=Vg/\∀q,H q=U_->Lr K (-a) (-q) (upd H q (-[x])) Q:=by
 rw[_,sml rfl,λq Z=>?_];let s1:ic H (upd H q (-[x])):=qf Z _;rw[_,a,q,xs,[x],1,1,SqT.of (s1 _ _ ha),SqT.of qg,U,λe=>?_,(λ_ e=>by rw[e,0]),λ_ _ p hp=>?_]
 .refine k q _ s1 ?_;rw[e];exact qg
 .exact k p _ (s1.trans (qf hp _)) qg
variable {zs:oj Str}{p:o3}
def EO (h:H p=u_ (.tup (zs.map V.str)))(hz:∀z>zs,↑z<=100):Is H (Cs zs) (-p):=by
 let U:∀(zs:oj Str),(∀z>zs,↑z<=100)->IsL H (zs.map D.str) (zs.map V.str):=by
  intro zs
  induction zs with
  |nil=>exact λ_=>rfl|cons z r Z=>
   intro h;exact(_,0,⟨1,nB (by have:=h z (ug ..);omega)⟩,Z λy hy=>h y (uf _ hy))
 exact(p,0,h,U zs hz)
def Bo:∀(zs U:oj Str) (z:Str),z>Bp U zs->z>U\/z>zs
 | [],U,z,h=> .inl h|y::r,U,z,h=>by
  unfold Bp at h;split at h
  .rcases Bo r _ z h with h|h
   .rcases Ae.mp h with h|h
    .exact .inl h
    .exact .inr (by rw[Ac.mp h];exact ug ..)
   .exact .inr (uf _ h)
  .exact .inl h
inductive Dt (C:Addr):Sp
 |mk (x t:Addr)(kind text:Str)(qs:List (Str×D))(_:vs= [-x,-t])(_:yn C H x qs)(_:Q0 qs)(_:H t=u_ (-[!kind,!text]))(_:↑text<=1000)(_:((kind="has"/\Q (.str (if text>qs.map (·.1) then "yes" else "no")) H)\/(kind="names"/\∀(v:V)(H':Hp),ic H H'->Is H' (Cs (Bp [] ((qs.map (·.1)).filter λz=>Gq z text))) v->Q v H')))
def Sx {vs:oj (Str×V)}(U:vs.map (·.1)=qs.map (·.1))(hi:L2.IsL H (qs.map (·.2)) (vs.map (·.2)))(z:Str):(iP (iM vs) (Vf z)).isSome=decide (z>qs.map (·.1)):=by
 by_cases c:z>qs.map (·.1)
 .rw[(CJ U hi c).1,u8 c]
  rfl
 .rw[Zy (by rw[U];exact c),ud c]
  rfl
def CA:#[T,3,a.zP,a.zW,["names"],(k8 K)]:=by
 let yM:=#[jM,T];rw[9,T.mx,Ys]
 erw[h,L,zs,rfl,hL,hz,hn,k];let hs:=uB;rw[3,%[#[qF,(1),Ys.nd,#[qA,qd]],#[y7,#[ZD,pv 0],#[qJ,(2),Ys.nd],%[#[qI,#[Qo,#[Qe,#[qt,yM,T.lr,#v[#[qV,YD,pv 1,#[qA,#v[pv 2]]]]]]],%[|Ls],qp]|#[qF,(1),Ys.nd,#[qV,YD,pv 1,#[qA,#v[pv 2]]]]]]|#[qo,pv 1]]]
 rw[_,(sml rfl),λq hq=>?_];let s1:ic H (upd H q (-[])):=qf hq _
 rw[5]
 refine(0,L,1,[_:SqL.of (s1 _ _ hL)],BS (K:=K) (a:=L) (xs:=zs.map V.str) (λi σ H'=>∃(row:oj Str) (p:o3) (kv:om V),σ= [u_ (-L),u_ (-p),kv]/\H' p=u_ (.tup (row.map V.str))/\ic H H'/\Bp row (zs.drop i)=Bp [] zs/\↑row<=i/\∀z>row,z>zs)
  ([],q,U_,1,qg,s1,1,uh _,λz h=>nomatch h) (λi σ H' _ ⟨_,_,_,_,_,s2,_⟩=>SqL.of (s2 _ _ hL)) ?_ ?_)
 .rintro i x σ H' hi ⟨row,p,kv,rfl,hp,s2,U,hl,hm⟩;let Z:i<↑zs:=by
   have:=(Ag.mp hi).1
   simpa using this
  obtain rfl:x=V.str zs[i]:=by
   rw[uH,ub Z] at hi;exact(uL hi).symm
  let ed:zs.drop i=zs[i]::zs.drop (i+1):=vc Z;rw[ed] at U;rw[show Bp row (zs[i]::zs.drop (i+1))=if isT (Cs (row++ [zs[i]]))=v_ then Bp (row++ [zs[i]]) (zs.drop (i+1)) else row from rfl] at U
  let aa:∀z>row++ [zs[i]],z>zs:=λz h=>by
   rcases Ae.mp h with h|h
   .exact hm z h
   .rw[Ac.mp h];exact uN Z
  let hsz:↑(row.map V.str)+1<=sizeLine:=by rw[u7];omega
  let em:row.map V.str++ [V.str zs[i]]=(row++ [zs[i]]).map V.str:=by simp
  rw[0,0,Ad4 hp hsz λp2 H3 s3 h3=>(_,Cs (row++ [zs[i]]),1,EO (by rw[h3,em]) λz h=>hz z (aa z h),λH4 s4=>[0:?_])]
  cases hT:isT (Cs (row++ [zs[i]])) with
  |false=>
   rw[A4 (by rw[hT];exact uc)] at U
   refine iY [0:k _ H4 ((s2.trans s3).trans s4) ?_];rw[<-U];exact EO (s4 _ _ (s3 _ _ hp)) λz h=>hz z (hm z h)
  |true=>
   rw[A6 hT] at U;refine iU [0:0:Ad4 (s4 _ _ (s3 _ _ hp)) hsz λp5 H5 s5 h5=>?_];exact(row++ [zs[i]],p5,0,by rw[h5,em],((s2.trans s3).trans s4).trans s5,U,by rw[uw];show ↑row+1<=i+1;omega,aa)
 .rintro σ H' ⟨row,p,kv,rfl,hp,s2,U,hl,hm⟩
  rw[0,k _ H' s2 ?_];rw[u7,Tz] at U;rw[<-U];exact EO hp λz h=>hz z (hm z h)
def W2:#[T,4,a.Y1,a.jc,["self","ask"],(Dt a.qK)]:=by
 let Z:=#[CA,T];refine T.io.F.ok xZ () (λ_ _ _ _ H vs Q E hr h=>?_)
 erw[h,x,t,kind,text,qs,rfl,[dx,d,o,vs,hx,hd,hk,hv],hT,ht,ad,h];let hs:=uB;rw[3,%[#[qI,#[qm,Qd,#[qE,qB,pv 1,qh],qi],%[|#[qo,#[ym,#[kK,#[pc_din,#[qE,qB,pv 1,qh],#[qQ,5,pv 0,rfl]]],qi,qi]]],qp]|#[qo,#[qt,Z,T.mx,#v[#[Xw,2,["name","ask"],(1),[1],9,Md (qj Q5) ["self","ask"],rfl,#[O0,4,#[qQ,5,pv 0,rfl]],(λ_ _ _ _ _ _=>#[qJ,(0),(show Vu (["name","ask"]:oj Str) by decide+kernel)]),(λ_ _ _ _ _ _=>#[DL,3,#[Qe,#[Abc,1,K,11,rfl,vb,PySem.F.slot_str_startswith,PySem.F.type_str_startswith,Et,pv 0,#v[#[qE,#[Jn,1,K,rfl],pv 1,qh]],_,_,_,_,_]]]),(λ_ _ _ _ _ _=>(pv 0)),_]]]]]]
 rw[0,t,_,_,0,1,SqT.of ht,1,1,0];rcases h with⟨rfl,k⟩|⟨rfl,k⟩
 .refine iO (u8 rfl) ?_
  rw[0,t,_,_,0,1,SqT.of ht,1,0,x,a.qK,dx,_,0,hx,T.Qt,T.QW,BT,d,0,.inl (_,Vf text,.inr [o:hd],1,1),0];rw[Sx hk hv];by_cases c:text>qs.map (·.1)
  .rw[A6 c] at k;exact iO (u8 c) k
  .rw[A4 c] at k;exact iI (ud c) k
 .refine iI () ?_
  let U:(iM vs).map (·.1)=(qs.map (·.1)).map Sum.inr:=by rw[Wk,hk]
  rw[0,x,a.qK,dx,_,0,hx,T.Qt,T.QW,BT,d,o,0,hd,λA0 aa=>?_];refine Sm (tl:= [u_ (-t)]) (λz=>Gq z text) V.str hd U (by rw[u7];have:=hT.2.2;omega) aa (λz H1 R hz s1 r=>?_) (λz H1 R hz s1 r=>[0:r]) λH1 s1 h1=>?_
  .exact(0,1,0,t,_,_,0,1,SqT.of (s1 _ _ ht),1,z,text,1,1,0,r)
  .rw[_,A0,0,h1,λz hz=>?_,?_,λv H2 s2 ac=>k v H2 (s1.trans s2) ac]
   .have:=zG (hT.1.1.1 z (List.mem_filter.mp hz).1);omega
   .have:=TB (λz=>Gq z text) (qs.map (·.1));rw[u7] at this;have:=hT.2.2;omega
abbrev jh:D->Bool
 | .non=>v_|_=>Vd
abbrev wu:D->D
 | .tup [_,d]=>d|d=>d
abbrev Zu (d:D):Prop:=d= .non\/isT d=v_
abbrev Gd (d:D):Prop:=good d=v_/\dp d<=20
def AbN:∀z>(["kind","big","told","silent","long","name"]:oj Str),good (flt z)=true:=by decide+kernel
def Nt (h:z>(["kind","big","told","silent","long","name"]:oj Str)):Gd (flt z):=⟨AbN z h,by show dp (-[-"fault",!z])<=20;simp[dp,dpL]⟩
def AbM {u:Str}{d:D}(U:QH u=v_)(h:isT d=v_):Gd (-[!u,d]):=by
 let Z:=yg h;let hd:=JE h;rw[_,?_,?_]
 .simp![good,goodL,U,Z,U9]
  rfl
 .simp![dp,dpL];omega
def BO {u w:Str}{d:D}(U:QH u=v_)(Z:QH w=v_)(h:isT d=v_):Gd (-[!u,-[!w,d]]):=by
 let hg:=yg h;let hd:=JE h;rw[_,?_,?_]
 .simp![good,goodL,U,Z,hg,U9]
  rfl
 .simp![dp,dpL];omega
def OL {B:Str->D}{p:Int}(hr:JN n 300 r)(h:Tr B)(U:mL own r B p= .stop e):Gd e:=by
 unfold mL at U;erw[id hr,ks,hk,hp];erw[r,Z,ps];by_cases c1:Z>MKR
 .rw[A6 c1] at U;simp only at U;generalize made Z B own ps=dm at U;let aa:(if isT dm=v_ then Out.go (Bi B (b0 ps) dm) (p+1) else .stop (flt "big"))= .stop e->Gd e:=by
   intro hq;by_cases c:isT dm=v_
   .rw[A6 c,0] at hq
   .rw[A4 c,0] at hq;exact Nt ()
  cases dm with
  |non=>rw[U,0];exact Nt ()|_=>exact aa U
 rw[A4 c1] at U;by_cases c2:Z>ASK
 .rw[A6 c2,0] at U;erw[Wn _ hk c2,_,_,ek];simp only at ek;subst ek;erw[wA hp,z0,z1,rfl,h0,h1];let hT:=h z1 h1;show Gd (sQ Z (B z1));unfold sQ;by_cases d1:Z="names"
  .rw[A6 d1];by_cases d2:isStr (B z1)=v_
   .rw[A6 d2];exact BO () () hT
   .rw[A4 d2];exact Nt ()
  .rw[A4 d1];by_cases d2:mM (B z1)=v_
   .rw[A6 d2];refine BO () ?_ hT
    split<;>decide+kernel
   .rw[A4 d2];exact Nt ()
 rw[A4 c2] at U;by_cases c3:Z="say"
 .rw[A6 c3,0] at U;subst c3;let ek:=AI _ hk rfl;simp only at ek;subst ek;erw[Acq hp,z0,rfl,h0,<-AbM () (h z0 h0)]
 rw[A4 c3] at U;by_cases c4:Z="fault"
 .rw[A6 c4,0] at U;exact Nt ()
 rw[A4 c4] at U;by_cases c5:Nj Z B ps=v_
 .rw[A6 c5,0] at U
 .rw[A4 c5,0] at U
abbrev mO (rs:oj Rw)(own:Str)(r:Rn)(a:D):Rn:=if jh a=v_ then(r.B,r.p,r.n+1,r.gs++ [-[wu r.th,a]],flt "lack") else mU rs own (r.gs++ [-[wu r.th,a]]) (300-(r.n+1)) (Bi r.B (b0 (JM rs r.p).2) a) (r.p+1) (r.n+1)
structure AV (rs:oj Rw)(r:Rn):Prop where
 tr:Tr r.B
 p1:1<=r.p
 p2:r.p<=↑rs+1
 n:r.n<=300
 gd:Gd r.th
 two:∃w e,r.th=-[!w,e]
 gs:nL r.gs=v_/\dpL r.gs<=30/\↑r.gs<=r.n
 ask:QQ r.th=v_->r.p<=↑rs/\(JM rs r.p).1>ASK/\r.n<300/\∃(u:Str) (d:D),r.th= .tup [-"asks",-[!u,d]]/\u>(["thing","has","names"]:oj Str)/\isT d=v_
mutual
theorem jP:∀{d:D},good d=v_->nD d=v_
 | .str _,_=>rfl| .tup xs,h=>by
  simp![good,uE] at h;simp![nD];exact goodL_n h.2
 | .non,h=>by simp[good] at h| .bl _,h=>by simp[good] at h| .int _,h=>by simp[good] at h| .lst,h=>by simp[good] at h| .dct,h=>by simp[good] at h
theorem goodL_n:∀{ds:oj D},goodL ds=v_->nL ds=v_
 | [],_=>rfl|d::ds,h=>by
  simp![goodL,uE] at h;simp![nL];rw[jP h.1,goodL_n h.2]
  rfl
end
def BC:∀{xs ys:oj D},nL xs=v_->nL ys=v_->nL (xs++ys)=v_
 | [],_,_,h=>h|x::xs,ys,h,h2=>by
  simp![nL,uE] at h;simp![UN,nL];rw[h.1,BC h.2 h2]
  rfl
def AK (n:Nat){xs ys:oj D}(h:dpL xs<=n)(h2:dpL ys<=n):dpL (xs++ys)<=n:=by
 rw[sE] at h h2⊢;intro x U;rcases Ae.mp U with U|U
 .exact h x U
 .exact h2 x U
def Lq {B:Str->D}{p:Int}(hr:JN n 300 r)(h:Tr B)(U:mL own r B p= .stop e)(Z:QQ e=v_):r.1>ASK/\∃(u:Str) (d:D),e= .tup [-"asks",-[!u,d]]/\u>(["thing","has","names"]:oj Str)/\isT d=true:=by
 unfold mL at U;erw[id hr,ks,hk,hp];erw[r,r1,ps];by_cases c1:r1>MKR
 .rw[A6 c1] at U;simp only at U;generalize made r1 B own ps=dm at U;let aa:(if isT dm=v_ then Out.go (Bi B (b0 ps) dm) (p+1) else .stop (flt "big"))= .stop e->False:=by
   intro hq;by_cases c:isT dm=v_
   .rw[A6 c,0] at hq
   .rw[A4 c,0] at hq;exact A8 Z ()
  cases dm with
  |non=>rw[U,0];exact A8 Z ()|_=>exact(aa U).elim
 rw[A4 c1] at U;by_cases c2:r1>ASK
 .rw[A6 c2,0] at U;rw[_,c2];erw[Wn _ hk c2,_,_,ek];simp only at ek;subst ek;erw[wA hp,z0,z1,rfl,h0,h1];let hT:=h z1 h1;let Z:QQ (sQ r1 (B z1))=true:=Z;show∃u d,sQ r1 (B z1)=_/\_;unfold sQ at Z⊢;by_cases d1:r1="names"
  .rw[A6 d1] at Z⊢;by_cases d2:isStr (B z1)=v_
   .rw[A6 d2];exact(_,0,(),hT)
   .rw[A4 d2] at Z;exact A8 Z ()
  .rw[A4 d1] at Z⊢;by_cases d2:mM (B z1)=v_
   .rw[A6 d2];exact(_,0,by split<;>decide+kernel,hT)
   .rw[A4 d2] at Z;exact A8 Z ()
 rw[A4 c2] at U;by_cases c3:r1="say"
 .rw[A6 c3,0] at U;exact A8 Z (by simp![QQ];exact λh=>A8 (ui h) ())
 rw[A4 c3] at U;by_cases c4:r1="fault"
 .rw[A6 c4,0] at U;exact A8 Z ()
 rw[A4 c4] at U;by_cases c5:Nj r1 B ps=v_
 .rw[A6 c5,0] at U
 .rw[A4 c5,0] at U
def Ah {rs:oj Rw}{own:Str}(hR:QY rs):∀(f:Nat) (B:Str->D) (p:Int) (n:Nat) (gs:oj D),f+n=300->Tr B->1<=p->p<=↑rs+1->nL gs=v_/\dpL gs<=30/\↑gs<=n->AV rs (mU rs own gs f B p n)
 |0,B,p,n,gs,hf,hT,h1,h2,hg=>by
  let Z:QQ (if GT.gt p (↑rs) then flt "silent" else flt "long")=false:=by split<;>decide+kernel
  refine(hT,h1,h2,by show n<=300;omega,?_,?_,hg,λh=>A8 (Z.symm.trans h) ())
  .show Gd (if GT.gt p (↑rs) then flt "silent" else flt "long")
   split
   .exact Nt ()
   .exact Nt ()
  .show∃w e,(if GT.gt p (↑rs) then flt "silent" else flt "long")=_
   split
   .exact[_:0]
   .exact[_:0]
 |f+1,B,p,n,gs,hf,hT,h1,h2,hg=>by
  unfold mU;by_cases c:GT.gt p (↑rs)
  .rw[A6 c];exact(hT,h1,h2,by show n<=300;omega,Nt (),[_:0],hg,λh=>A8 h (show¬QQ (flt "silent")=v_ by decide+kernel))
  .rw[A4 c];let U:=hR.ok _ (qaG h1 ())
   let hok:=Ak (own:=own) U hT h1 ()
   cases hO:mL own (JM rs p) B p with
   |go B' p'=>
    rw[hO] at hok;exact Ah hR f B' p' (n+1) gs () hok.1 hok.2.1 hok.2.2 ⟨hg.1,hg.2.1,by have:=hg.2.2;omega⟩
   |stop e=>
    rw[hO] at hok;simp only;rw[_,hT,h1,h2,?_,OL U hT hO,hok,[hg.1:hg.2.1:?_],λZ=>?_]
    .show(if QQ e=v_ then n else n+1)<=300
     split<;>omega
    .show ↑gs<=(if QQ e=v_ then n else n+1)
     have:=hg.2.2;split<;>omega
    .erw[Lq U hT hO Z,a1,u,d,a2,a3,a4];refine(by show p<=↑rs;omega,a1,?_,u,d,a2,a3,a4)
     show(if QQ e=v_ then n else n+1)<300
     rw[A6 (show QQ e=v_ from Z)]
     omega
def ka (hR:QY rs){r:Rn}{a:D}(h:AV rs r)(hw:QQ r.th=v_)(ha:Zu a):AV rs (mO rs own r a):=by
 erw[h.ask hw,k1,k2,k3,u,d,e,k4,k5];let U:nD a=v_/\dp a<=12:=by
  rcases ha with rfl|ha
  .exact⟨1,by simp[dp]⟩
  .exact[jP (yg ha):JE ha]
 let aa:=JE k5;let Z:nL (r.gs++ [D.tup [wu r.th,a]])=v_/\dpL (r.gs++ [D.tup [wu r.th,a]])<=30/\↑(r.gs++ [D.tup [wu r.th,a]])<=r.n+1:=by
  rw[e];show nL (r.gs++ [-[-[!u,d],a]])=v_/\_;rw[_,BC h.gs.1 ?_,AK 30 h.gs.2.1 ?_,?_]
  .simp![nL,nD,jP (yg k5),U.1,U9]
  .show dpL [-[-[!u,d],a]]<=30;simp![dpL,dp];have:=U.2;omega
  .rw[uw];have:=h.gs.2.2;show ↑r.gs+1<=r.n+1;omega
 unfold mO;cases hn:jh a with
 |true=>
  rw[A6 rfl];exact(h.tr,h.p1,h.p2,by show r.n+1<=300;omega,⟨(by decide+kernel:good (flt "lack")=v_),by show dp (-[-"fault",-"lack"])<=20;simp[dp,dpL]⟩,[_:0],Z,λh=>A8 h (show¬QQ (flt "lack")=v_ by decide+kernel))
 |false=>
  rw[A4 uc];let hT:isT a=true:=by
   rcases ha with rfl|ha
   .rw[hn,0]
   .exact ha
  refine Ah hR _ _ _ _ _ () (qap h.tr hT) (by have:=h.p1;omega) () Z
def Ju {d:D}{u:V}(U:Is H d u)(Z:d≠ .non):u≠ .non:=by
 rintro rfl;cases d with
 |non=>exact Z rfl|bl b=>rw[show V.non= .bl b from U,0]|int i=>rw[show V.non= .int i from U,0]|str z=>erw[U,h,_];rw[h,0]|lst=>erw[U,_,_,h,_];rw[h,0]|dct=>erw[U,_,_,h,_];rw[h,0]|tup xs=>erw[U,_,_,h,_];rw[h,0]
def Ab0 (U:JN n 300 r)(hs:r.1>ASK):∃Z z1,r.2= [.s Z,.s z1]/\Z>BX:=by
 erw[id U,ks,hk,hp];erw[Wn _ hk hs,_,_,ek];simp only at ek;subst ek;erw[wA hp,x,y,e,hx,hy,<-(x,y,e,hx)]
abbrev Mh:D->Bool
 | .tup xs=>xs.all mM|_=>Vd
abbrev AU (u:Str)(a:D):Bool:=if jh a=v_ then decide (u="thing") else if isT a=v_ then(if u="has" then(["yes","no"]:oj Str).any (λz=>eqD a (!z)) else decide (u="thing")||Mh a) else Vd
def wU {u:Str}{a:D}(h:AU u a=v_):Zu a:=by
 unfold AU at h;cases hn:jh a with
 |true=>
  cases a with
  |non=>exact .inl rfl|_=>rw[hn,0]
 |false=>
  rw[hn,A4 uc] at h;by_cases c:isT a=v_
  .exact .inr c
  .rw[A4 c,0] at h
inductive Ob:Sp
 |mk (v:V)(d:D)(_:vs= [v])(_:Is H d v)(_:isT d=v_)(_:∀H',ic H H'->Q (.bl (Mh d)) H')
inductive Lf:Sp
 |mk (v1 v2:V)(u:Str)(d a:D)(_:vs= [v1,v2])(_:Is H (-[!u,d]) v1)(_:Is H a v2)(_:∀H',ic H H'->Q (.bl (AU u a)) H')
inductive MO (C:Addr):Sp
 |mk (m:Mc)(r:Rn)(v:V)(u:Str)(d a:D)(_:vs= [-m.x,v])(_:yx C H m r)(_:AV m.rs r)(_:r.th=-[-"asks",-[!u,d]])(_:Is H a v)(_:QY m.rs)(_:↑m.own<=100)(_:AU u a=v_)(_:∀H',Mv m H H'->yx C H' m (mO m.rs m.own r a)->Q .non H')
def Pq:#[T,2,a.jT,a.jU,["tree"],Ob]:=by
 let QD:=#[xu,T];refine T.lP.F.ok zx () (λ_ _ _ _ H vs Q E hr h=>?_)
 erw[h,v,d,rfl,iv,hT,k];rw[3,%[|#[qo,#[JB,#[qz,#[qW,2,rfl],T.qS,uZ,#v[pv 0,#[yd,.ty "tuple",T.QO,vx]]],#[jN,#[qz,#[zh,1,rfl],T.z_all,tE,#v[#[Xw,["part"],[],Ni,#[Zb,pv 0],(λ_ _ _ _ _ _=>#[qJ,(0),(show Vu (["part"]:oj Str) by decide+kernel)]),(λ_ _ _ _ _ _=>#[qt,QD,T.iF,#v[pv 0]])]]]]]]]]
 rw[0,v,"tuple",tyD d,zp d,1,iv.ty,JW _];cases d with
 |tup xs=>
  rw[0,iY ?_];erw[iv,a0,vs,rfl,U,Z];let hl:↑xs<=1000:=by
   let hg:=yg hT;simp![good,uE] at hg;have:=ui hg.1;omega
  rw[0,a0,vs,1,SqT.of U,λac A0 aa=>?_];refine Ax (tl:= []) (λd=> .bl (mM d)) U Z (yL hl) aa (λd0 x0 H3 R ad s3 i3 r=>?_) λH1 ys s1 l1 i1=>?_
  .exact(0,x0,d0,1,i3,λH4 s4=>r _ H4 s4 rfl)
  let ey:ys=(xs.map mM).map V.bl:=IsL.bls (by rwa[uO])
  rw[_,A0,xs.map mM,1,SqL.of (by rw[l1,ey])]
  have:(xs.map mM).all id=Mh (¬xs):=by rw[US];rfl
  rw[this];exact k H1 s1
 |str z=>exact[0:iU (k H (ic.refl _))]|non=>exact[0:iU (k H (ic.refl _))]|int z=>exact[0:iU (k H (ic.refl _))]|bl z=>exact[0:iU (k H (ic.refl _))]|lst=>exact[0:iU (k H (ic.refl _))]|dct=>exact[0:iU (k H (ic.refl _))]
def LK:#[T,3,a.wQ,a.wX,["ask","answer"],Lf]:=by
 let yM:=#[jM,T];let Zr:=#[Pq,T];rw[9,T.na,n9]
 erw[h,v1,v2,u,d,an,rfl,i1,Z,k];rw[3,%[#[qI,#[qm,yk,pv 1,qR],%[|#[qo,#[Qb,Qd,#[qE,zB,pv 0,qh],qi]]],qp],#[qI,#[Qo,#[Qe,#[qt,yM,T.lr,#v[pv 1]]]],%[|#[qo,Yx]],qp],#[qI,#[qm,Qd,#[qE,zB,pv 0,qh],qi],%[|#[qo,#[Qb,8,#[M5,1,hr.units],pv 1,#[qA,#v[qi,qi]],#[w]]]],qp]|#[qo,#[Ac2,7,#[Qb,Qd,#[qE,zB,pv 0,qh],qi],#[jN,#[qt,Zr,T.lP,#v[pv 1]]]]]]]
 let two:(2:Nat)<=sizeLine:=by decide
 let es:∀y:Str,decide (V.str u=V.str y)=decide (u=y):=λy=>by
  rw[vd];exact⟨λh=>by injection h,λh=>by rw[h]⟩
 let iu:∀{H:Hp}{Q:VK},Is H (-[!u,d]) v1->Q (!u) H->OQ K v1 (.int 0) H Q:=λ{H Q} i q=>XH (i:=0) (d:= !u) i (qy (j:=0) rfl) λx hx=>by
  erw[hx,rfl,_,<-q]
 rw[0,1,0];unfold AU at k;by_cases cn:an= .non
 .subst cn;rw[show v2= .non from Z,0]
  refine QT () ?_
  rw[0,.inr (.inl (iu i1 [1:?_]))];rw[es];exact k H (ic.refl _)
 .let aa:v2≠ .non:=Ju Z cn;let ac:jh an=false:=by
   cases an with
   |non=>exact A8 rfl cn|_=>rfl
  rw[ac,A4 uc] at k;refine Qz (ud aa) ?_
  rw[0,v2,an,1,Z,λH1 s1=>[0:?_]];by_cases U:isT an=v_
  .rw[A6 U] at k;rw[U];refine iU ?_
   rw[0,.inr (.inl (iu (i1.mono s1.tk) [1:0:?_]))];rw[es];by_cases ch:u="has"
   .rw[A6 ch] at k;refine QT (u8 ch) ?_
    rw[0,two,λt1 h1=>?_];let s2:=qf h1 (-[-"yes",-"no"])
    rw[_,an,t1,["yes","no"],(Z.mono s1.tk).mono s2.tk,1,.inr (SqT.of qg),?_,?_,?_,k _ (s1.trans s2)]
    .intro z hz;simp![uF,uX,uR] at hz;rcases hz with rfl|rfl<;>decide+kernel
    .let hg:=yg U;cases an with
     |non=>rfl|str z=>rfl|tup xs=>
      show puL xs=v_;simp![good,uE] at hg;exact goodL_pu hg.2
     |_=>simp[good] at hg
    .have:=JE U;omega
   .rw[A4 ch] at k;refine Qz (ud ch) ?_
    rw[0,.inr (.inl (iu (i1.mono s1.tk) [1:?_]))]
    rw[0];rw[es];by_cases ct:u="thing"
    .rw[u8 ct] at k⊢;refine iY ?_;exact k _ s1
    .rw[ud ct] at k⊢;refine iU ?_;exact(0,v2,an,1,Z.mono s1.tk,U,λH2 s2=>k H2 (s1.trans s2))
  .rw[A4 U] at k;have:isT an=false:=by
    cases h:isT an with
    |true=>exact A8 h U|false=>rfl
   rw[this];exact iY (k _ s1)
def Ek:#[C,6,a.YB,a.YF,["self","tree"],(MO a.qq)]:=by
 let Qc:=#[qaO,T];let U:=#[LK,T];let YZ:=#[Eg,T,C];rw[9,T.iH,jJ]
 erw[h,m,[B,p,n,gs,th],v,u,d,an,rfl,M,hO,am,iv,hR,aQ,ao,k];rw[3,%[#[qI,#[Qo,#[Qe,#[Qx,pv 0,T.qu,T.im,Qc]]],%[|Jq],qp],#[qF,(2),jJ.nd,#[qE,zB,#[qQ,5,pv 0,rfl],qh]],#[qI,#[Qo,#[Qe,#[qt,U,T.na,#v[pv 2,pv 1]]]],%[|Jq],qp],#[qY,#[YS,uM,vK,vL,Y7,#[qQ,5,pv 0,rfl],#v[#[qA,#v[pv 2,pv 1]]]]],#[JX,10,pv 0,qh,oX],#[qI,#[qm,yk,pv 1,qR],%[#[Qn,#[qA,#v[qi,qi]]]|OW],qp],#[Jm,#[qQ,5,pv 0,rfl],#[qE,zB,#[qE,zB,#[qE,qB,#[qQ,5,pv 0,rfl],#[qV,MZ,#[qQ,5,pv 0,rfl],qh]],qh],qh],pv 1],#[JX,10,pv 0,qh,oX],#[Qn,qR]|#[qY,#[Qx,pv 0,T.qu,T.lf,YZ]]]]
 simp only at am;subst am;let two:(2:Nat)<=sizeLine:=by decide
 let hw:QQ (-[-"asks",-[!u,d]])=true:=by simp[QQ]
 erw[hO.ask hw,ag,ae,aR,_];let ah:=hO.p1;let ap:=hO.gs.2.2;let aq:=hO.tr;simp only at ag ae aR ah ap aq;let hM:=M;erw[hM,dx,fs,rv,ru,tv,gv,e,f,ir,ij,ib,hg,gl,it];simp only at f ib gl it;let aS:↑fs<1000:=by have:=f.len;omega
 rw[8,N1,q1]
 rw[0,m.x,dx,fs,1,e,f.meth _ (),m,0,M,.inr [_:0],0]
 refine Qz (by show(!(QQ) (-[-"asks",-[!u,d]]))=Vd;rw[hw];rfl) ?_
 refine q1 _ _ ?_;rw[8,N2,q2]
 rw[0,m.x,_,dx,fs,0,e,T.qu,T.qP,f.there,.inr (.inl (XH (i:=1) it (qy (j:=1) rfl) λq hq=>?_))];refine q2 _ _ ?_;rw[8,N3,q3]
 rw[0,0,q,v,u,d,an,1,hq,iv,λH1 s1=>[0:?_]];rw[ao];refine iU ?_;refine q3 _ _ ?_;rw[8,N4,q4];let ha:=wU ao
 rw[0,m.x,_,dx,fs,0,s1 _ _ e,T.qu,T.YU,f.given,.inl [1:_:SqL.of (s1 _ _ hg)],0,0,two,λt1 h1=>?_];let s2:=qf h1 (-[q,v]);let ip:Is (upd H1 t1 (-[q,v])) (-[-[!u,d],an]) (-t1):=Is.new (ds:= [-[!u,d],an]) (_,0,hq.mono s1.tk,_,0,iv.mono s1.tk,1) h1;let S2:=s1.trans s2;generalize upd H1 t1 (-[q,v])=H2 at s2 ip S2⊢;let bo:↑gv=↑gs:=↑gl;let au:=S2 _ _ hg
 rw[_,m.dg,gv,0,1,au,zf ()]
 let t3:Tk H2 (upd H2 m.dg (.lst (gv++ [-t1]))):=Tk.updL au;let aT:m.x≠m.dg:=λz=>by rw[<-z,e,0] at hg
 let aw:m.db≠m.dg:=λz=>by
  erw[ib,ff,e2,_];rw[z,hg,0] at e2
 let e3:(upd H2 m.dg (.lst (gv++ [-t1]))) m.x=u_ (.ins a.qq dx fs):=by rw[qk aT];exact S2 _ _ e
 let T3:Tk H (upd H2 m.dg (.lst (gv++ [-t1]))):=S2.tk.trans t3;let ax:=(ib.same S2).move t3 (qk aw);let ay:L2.IsL (upd H2 m.dg (.lst (gv++ [-t1]))) (gs++ [-[-[!u,d],an]]) (gv++ [-t1]):=(gl.mono T3).append (IsL.one (ip.mono t3));let aA:(upd H2 m.dg (.lst (gv++ [-t1]))) m.dg=u_ (.lst (gv++ [-t1])):=qg;let aB:Mv m H (upd H2 m.dg (.lst (gv++ [-t1]))):=⟨λb o h _ _ n3=>by rw[qk n3];exact S2 b o h,T3⟩
 generalize upd H2 m.dg (.lst (gv++ [-t1]))=H3 at t3 e3 T3 ax ay aA aB⊢;refine q4 _ _ ?_;rw[8,N5,q5]
 rw[0,m.x,_,dx,fs,0,e3,T.qu,T.yq,f.done,(n:Int),(1),1,1,dx,fs,e3,aS];erw[yy (r:=(B,p,n+1,gs++ [-[-[!u,d],an]],-[-"asks",-[!u,d]])) e3 (f.set_done (k:=n+1)) (ir.mono T3) (ij.mono T3) ax aA ay (it.mono T3),M4,aC];let ac:=aB.trans aC;let aD:=iv.mono ac.tk;refine q5 _ _ ?_;show nA _ _ _ _ (upd H3 m.x (.ins a.qq dx (iN "done" (.int ((n+1:Nat):Int)) fs)));generalize upd H3 m.x (.ins a.qq dx (iN "done" (.int ((n+1:Nat):Int)) fs))=H4 at M4 aC ac aD⊢;erw[M4,aa,Z,bp,bq,bt,bu,e4,f4,ak,aE,ad,aF,al,aG];simp only at f4 ad al aG;let af:↑Z<1000:=by have:=f4.len;omega
 rw[8,N6,q6]
 rw[0,1,0];by_cases cn:an= .non
 .subst cn;rw[show v= .non from iv,0]
  refine QT () ?_
  rw[_,two,λl hl=>?_];let s5:=qf hl (-[-"fault",-"lack"])
  rw[0,m.x,_,aa,Z,1,s5 _ _ e4,T.qu,T.qP,af];erw[yy (r:=(B,p,n+1,gs++ [-[-[!u,d],.non]],flt "lack")) (s5 _ _ e4) (f4.set_there (u:=-l)) (ak.mono s5.tk) (aE.mono s5.tk) (ad.same s5) (s5 _ _ aF) (al.mono s5.tk) (Is.new (ds:= [-"fault",-"lack"]) (_,0,[1:yL ()],_,0,[1:yL ()],1) hl),m1,m2]
  exact k _ (ac.trans ((Mv.of s5).trans m2)) m1
 .let hT:isT an=true:=ha.resolve_left cn;let aU:v≠ .non:=Ju iv cn;let aV:jh an=false:=by
   cases an with
   |non=>exact A8 rfl cn|_=>rfl
  refine Qz (ud aU) ?_;refine q6 _ _ ?_;rw[8,N7,q7];erw[Ab0 (hR.ok _ (qaG ah ag)) ae,z0,z1,aH,aW];let aX:b0 (JM m.rs p).2=z0:=by rw[aH];rfl
  erw[ad.put aW aD,kvs,aI,aY,t5];let aZ:atI (m.rs.map rowD) (p-1)=u_ (rowD (JM m.rs p)):=by
   rw[show p-1=((p.toNat-1:Nat):Int) by omega]
   exact qy (by rw[uH,DG ah ag];rfl)
  let a1:m.db≠m.x:=YM.ne e4 ad;let a3:m.dg≠m.db:=aw.symm
  rw[0,0,m.x,_,aa,Z,0,e4,T.qu,T.QC,f4.boxes,0,m.x,_,aa,Z,0,e4,T.qu,T.Yr,f4.rows,0,m.x,_,aa,Z,0,e4,T.qu,T.Qu,f4.place,_,0,1];refine XH (d:=rowD (JM m.rs p)) ak aZ λq5 a4=>?_;refine .inr (.inl (XH (i:=1) a4 (qy (j:=1) rfl) λq6 aJ=>?_));rw[aH] at aJ;refine .inr (.inl (XH (i:=0) (d:= !z0) aJ (qy (j:=0) rfl) λq7 a5=>?_));erw[a5,rfl,_]
  rw[_,m.db,0,aI];let e5:(upd H4 m.db (.dK kvs)) m.x=u_ (.ins a.qq aa Z):=by rwa[qk a1.symm]
  refine q7 _ _ ?_;rw[8,N8,q8]
  rw[0,m.x,_,aa,Z,0,e5,T.qu,T.Qu,f4.place,p,(1),1,1,aa,Z,e5,af];obtain⟨M6,a6⟩:=yy (r:=(Bi B z0 an,p+1,n+1,gs++ [-[-[!u,d],an]],-[-"asks",-[!u,d]])) e5 (f4.set_place (q:=p+1)) (ak.mono t5) (aE.mono t5) aY (by rwa[qk a3]) (al.mono t5) (aG.mono t5)
  let aK:=ac.trans (Mv.trans ⟨λb o h _ a2 _=>by rwa[qk a2],t5⟩ a6)
  erw[M6,a7,aL,bv,bw,bx,bA,e6,f6,a8,a9,aM,bb,aN,bc];simp only at f6 aM aN bc;let aO:↑aL<1000:=by have:=f6.len;omega
  refine q8 _ _ ?_;rw[8,N9,q9]
  rw[0,m.x,_,a7,aL,1,e6,T.qu,T.qP,aO];erw[yy (r:=(Bi B z0 an,p+1,n+1,gs++ [-[-[!u,d],an]],.non)) e6 (f6.set_there (u:= .non)) a8 a9 aM bb aN rfl,M7,bd];let aP:=aK.trans bd;erw[id M7,bf,bg,bB,bC,bD,bE,e7,f7,r7];refine q9 _ _ ?_
  rw[5]
  refine(0,m.x,bf,bg,1,e7,f7.meth _ (),m,0,M7,1,qap aq hT,aQ,hR,by show 1<=p+1;omega,by show p+1<=_;omega,by show n+1<=300;omega,λH8 bh M8=>k H8 (aP.trans bh) ?_)
  unfold mO;rw[aV,A4 uc];simp only;rw[aX];exact M8
abbrev mn (H:Hp)(p:o3):Prop:=∃x:Int,H p=u_ (.lst [.int x])/\0<=x
def mn.same (h:mn H p)(s:ic H H'):mn H' p:=by
 erw[h,x,e,r,<-[x:s _ _ e:r]]
def mn.free {l:o3}(h:mn H p)(n:H l=U_):p≠l:=by
 erw[h,x,e,r,<-ql e n]
def mn.tk (h:mn H p)(h':mn H' p)(k:iK p H H'):Tk H H':=by
 erw[h,x,e,_];erw[h',Z,U,_,<-k.tk e U]
inductive NX:Sp
 |mk (p:Addr)(many:Int)(_:vs= [-p,.int many])(_:mn H p)(_:0<many)(_:many<1073741824)(_:∀(d:Int)(H':Hp),0<=d->d<many->mn H' p->iK p H H'->Q (.int d) H')
inductive Oe:Sp
 |mk (c t:Int)(_:vs= [.int c,.int t])(_:0<=t)(_:t<1000)(_:∀(p:Addr)(H':Hp),H p=U_->ic H H'->mn H' p->Q (-p) H')
def Jr:#[T,1,a.KK,a.Km,["pot","many"],NX]:=by
 rw[9,T.ig,Wv]
 erw[h,p,many,rfl,[x,U,hx],hm,Z,k];rw[3,%[#[qF,(2),Wv.nd,#[qV,WZ,#[qE,QP,pv 0,qh],pv 1]],#[ZN,#[qV,O4,#[qE,QP,pv 0,qh],pv 1],#[MX,7,pv 0,qh,Bh,_]]|#[qo,pv 2]]]
 rw[0,p,_,_,0,1,SqL.of U,1,0,_,0,1,hm]
 rw[0,p,_,_,0,1,SqL.of U,1,0,_,0,1,[hm:Z],0,p,_,_,0,1,U,1]
 rw[0];refine k _ _ (HZ _ ()) (V4 _ hm) [x/many:qg:Int.ediv_nonneg hx ()] (iK.upd _ _ _)
def Ea:#[T,1,a.f_law_pot,a.d_law_pot,["cell","salt"],Oe]:=by
 rw[9,T.mQ,YT]
 erw[h,c,t,rfl,h0,h1,k];rw[3,%[#[qI,#[qm,Ac5,#[qz,Ce,T.z_abs,boot_abs,#v[pv 0]],#[qV,Abd,qh,qh]],%[|#[qo,#[QE,#v[#[qz,Ce,T.z_abs,boot_abs,#v[pv 0]]]]]],qp],#[qF,(2),YT.nd,#[qV,WZ,#[qV,Kq,#[qV,Q1,#[qV,Q1,#[qV,WZ,pv 0,qh],#[qV,Kq,qh,pv 1]],qh],qh],qh]],#[qF,(3),YT.nd,qh],#[y7,#[Yw,#v[qh]],#[qJ,(4),YT.nd],%[#[qF,(2),YT.nd,#[qV,WZ,#[qV,Q1,#[qV,Q1,#[qV,Kq,pv 2,pv 2],#[qV,Kq,qh,pv 4]],qh],qh]]|#[qF,(3),YT.nd,#[qV,Q1,#[qV,Kq,pv 3,qh],pv 2]]]]|#[qo,#[QE,#v[pv 3]]]]]
 rw[0,0,_,0,1,[():():()],_,0,1,0]
 refine ky (λ_=>?_) (λ_=>?_)
 .rw[0,0,(sml rfl),λp U=>?_];refine k p _ U (qf U _) [_:qg:?_];split<;>omega
 .rw[0,_,0,1,(by show(0:Int)<2147483647;decide),0,_,0,1,(.inl [():()]),_,0,1,_,0,1,_,0,1,(.inr [():()]),_,0,1,(by show(0:Int)<2147483647;decide),(9),1,(),()]
  refine_lift let J1_:Nat->L2.St->Hp->Prop:=λi σ H'=>E3 λ(x:Int) (b:Int) (kv:om V)=>A5 (σ= [u_ (.int c),u_ (.int t),u_ (.int x),u_ (.int b),kv]) (0<=x) (x<2147483647) (0<=b) (H'=H);?_
  refine xl (n:=9) J1_ (_,_,U_,1,HZ _ (),V4 _ (),(),1) ?_ ?_
  .rintro i σ H' hi ⟨x,b,kv,rfl,aa,ac,hb,rfl⟩;let Z:Acx x x:= .inl [():()]
   rw[0,0,_,0,1,Z,0,_,0,1,(.inl [():()]),_,0,1,_,0,1,_,0,1,(by show(0:Int)<2147483629;decide),0,_,0,1,(.inr [():()]),0,_,0,1]
   let q0:0<=(x*x+40692*(0+(i:Int))+3)%2147483629:=HZ _ ()
   let q1:(x*x+40692*(0+(i:Int))+3)%2147483629<2147483629:=V4 _ ()
   exact(_,_,0,q0,Int.lt_trans q1 (),Int.add_nonneg (Int.mul_nonneg hb ()) q0,1)
  .rintro σ H' ⟨x,b,kv,rfl,aa,ac,hb,rfl⟩;exact[0:(sml rfl):λp U=>k p _ U (qf U _) [_:qg:hb]]
abbrev Nm4 (zs:oj Str):Prop:=1<=↑zs/\↑zs<=20/\∀z>zs,nm z=v_/\↑z<=4
abbrev Wd (n:Nat)(z:Str):Prop:=JK z=v_/\↑z<=n
def iK.of (s:ic H H'):iK p H H':=λb o e _=>s b o e
def mn.ne_strs {l:o3}(h:mn H p)(e:H l=u_ (.lst (zs.map V.str))):l≠p:=λz=>by
 erw[h,x,e2,_];rw[<-z,e] at e2;cases zs with
 |nil=>rw[e2,0]|cons a r=>simp at e2
inductive NU:Sp
 |mk (p L:Addr)(zs:List Str)(_:vs= [-p,-L])(_:mn H p)(_:H L=u_ (.lst (zs.map V.str)))(_:Nm4 zs)(_:∀(z:Str)(H':Hp),Wd 4 z->mn H' p->iK p H H'->Q (!z) H')
inductive On:Sp
 |mk (p L:Addr)(zs:List Str)(many k:Nat)(_:vs= [-p,-L,.int (many:Int),.int (k:Int)])(_:mn H p)(_:H L=u_ (.lst (zs.map V.str)))(_:Nm4 zs)(_:1<=many)(_:many<=12)(_:k<=12)(_:∀(z:Str)(H':Hp),Wd 20 z->mn H' p->iK p H H'->Q (!z) H')
abbrev FIV:oj Str:= ["","x","b1 g","yes","c/d"]
def AbQ:∀z>FIV,Wd 4 z:=by
 have:∀z>FIV,JK z=v_/\↑z<=4:=by decide+kernel
 exact this
def Nf (h:nm z=v_):JK z=true:=El (Nd h)
def AcC (h:Nm4 zs):∀z>zs++FIV,Wd 4 z:=λz hz=>by
 rcases Ae.mp hz with h1|h1
 .exact[Nf (h.2.2 z h1).1:(h.2.2 z h1).2]
 .exact AbQ z h1
def Wd.cat {m k:Nat}{y:Str}(h:Wd n x)(h':Wd m y)(e:n+m<=k):Wd k (x++y):=⟨Em h.1 h'.1,by rw[IG];have:=h.2;have:=h'.2;omega⟩
def EH:∀{l:oj Str},(∀z>l,JK z=v_)->Wd ((l.map (·.length)).sum+↑l) (Vl " " l)
 | [],_=>[1:uK _]| [z],h=>⟨h z (by simp),by show ↑z<=_;simp⟩|z::y::r,h=>by
  let U:=EH (l:=y::r) λx Z=>h x (uf _ Z);let hz:=h z (by simp)
  let e:=L2.xt z y r;rw[_,?_,?_]
  .show(Vl " " (z::y::r)).cps.toList.all QI=v_;rw[e,UX,vN,show z.cps.toList.all QI=v_ from hz,show(Vl " " (y::r)).cps.toList.all QI=v_ from U.1]
   decide
  .rw[Aw,e,uw,um,<-Aw,<-Aw];let h1:=U.2;simp![uA,UI,um] at h1⊢;omega
abbrev WL:oj Str:= ["ask","ask","ask","has","names","text","text","copy","put","put","join","first","first","rest","size","cut","glue","like","none","rowed","go","say","fault","self"]
nonrec abbrev WTX:Str:="ask ask ask has names text text copy put put join first first rest size cut glue like none rowed"
def Aan:spl ((WTX++(" go say fault self":Str)).length+1) (WTX++(" go say fault self":Str))=WL:=by decide+kernel
def AcB:∀z>WL,Wd 5 z:=by
 have:∀z>WL,JK z=v_/\↑z<=5:=by decide+kernel
 exact this
def Ab6:∀c>("abcdh":Str).cps.toList,QI c=true:=by decide+kernel
def ND {d:Int}(h0:0<=d)(h1:d<5):∃c,atI ("abcdh":Str).cps.toList d=u_ c/\Wd 1 ⟨#[c]⟩:=by
 obtain⟨c,U⟩:=Yn (xs:=("abcdh":Str).cps.toList) h0 (by show d<5;exact h1)
 rw[_,c,U,?_,uh _];show [c].all QI=v_;rw[vN,Ab6 c (jG U)]
 rfl
def Abt:∀k:Nat,k<13->JK (Vo (k:Int):Str)=v_/\↑(Vo (k:Int):Str)<=2:=by decide+kernel
def Aq:#[T,2,a.kQ,a.Kb,["pot","names"],NU]:=by
 let qL:=#[Jr,T];rw[9,T.iJ,W8]
 erw[h,p,L,zs,rfl,hP,hL,Z,k];let hs:=uB;let ac:=Z.1;let ad:=Z.2.1;rw[3,%[#[qF,(2),W8.nd,#[qV,wN,pv 1,#[QE,#v[qi,qi,qi,qi,qi]]]]|#[qo,#[qE,QP,pv 2,#[qt,qL,T.ig,#v[pv 0,#[qz,qG,T.QZ,uJ,#v[pv 2]]]]]]]]
 rw[0,(sml rfl),λq hq=>?_];let s1:ic H (upd H q (.lst [-"",-"x",-"b1 g",-"yes",-"c/d"])):=qf hq _
 rw[_,L,q,_,0,1,s1 _ _ hL,qg,(by rw[u7];show _+5<=Vg;omega),λl hl=>?_]
 let s2:=s1.trans (qf hl (.lst (zs.map V.str++ [-"",-"x",-"b1 g",-"yes",-"c/d"])));let U:(upd (upd H q (.lst [-"",-"x",-"b1 g",-"yes",-"c/d"])) l (.lst (zs.map V.str++ [-"",-"x",-"b1 g",-"yes",-"c/d"]))) l=u_ (.lst ((zs++FIV).map V.str)):=by rw[qg,uj];rfl
 generalize upd (upd H q (.lst [-"",-"x",-"b1 g",-"yes",-"c/d"])) l (.lst (zs.map V.str++ [-"",-"x",-"b1 g",-"yes",-"c/d"]))=H2 at s2 U⊢;let P2:=hP.same s2;let l5:↑((zs++FIV).map V.str)=↑zs+5:=by rw[u7,uw];rfl
 rw[5]
 refine(0,0,0,l,0,.inl (SqL.of U),p,0,P2,by rw[l5];omega,by rw[l5];omega,λd H' d0 d1 P3 K3=>?_)
 let aa:=K3 _ _ U (P2.ne_strs U);erw[Yn (xs:=(zs++FIV).map V.str) d0 d1,v,hv];erw[Af.mp (jG hv),z,hz,rfl,<-(l,_,d,0,1,SqL.of aa,hv,k z H' (AcC Z z hz) P3 ((iK.of s2).trans K3))]
def AdP {c:Nat}:∀{l:oj Str},(∀z>l,↑z<=c)->(l.map (·.length)).sum<=↑l*c
 | [],_=>by simp|z::r,h=>by
  have:=AdP λy U=>h y (uf _ U);have:=h z ug;simp![uA,UI,um,rh,pd];omega
def Mf {K:o0}(hl:↑l<=3)(hz:Wd 5 z)(h:∀z>l,Wd 2 z)(k:∀y H',Wd 20 y->ic H H'->Q (!y) H'):↑((z::l).map V.str)<=Vg/\∀p,H p=U_->Aa2 K (-" ") [-p] (upd H p (.lst ((z::l).map V.str))) Q:=by
 let hs:=uB;let h1:=AdP (c:=2) λz hz=>(h z hz).2;let h2:=hz.2;refine⟨by rw[u7,um];omega,λp Z=>(" ",p,z::l,1,1,SqL.of qg,?_,?_)⟩
 .let e:(" ":Str).length=1:=rfl;rw[e];simp![uA,UI,um];omega
 .have:=EH (l:=z::l) λy U=>by
   rcases Ab.mp U with rfl|U
   .exact hz.1
   .exact(h y U).1
  refine k _ _ [this.1:?_] (qf Z _);let h3:=this.2;simp![uA,UI,um] at h3;omega
def Pw:#[T,3,a.kH,a.Kt,["pot","names","many","k"],On]:=by
 let qL:=#[Jr,T];let yc:=#[Aq,T];rw[9,T.nw,yC]
 erw[h,p,L,zs,many,i,rfl,hP,hL,hN,aA,aB,hi,k];rw[3,%[#[qF,(4),yC.nd,qi],#[qF,(5),yC.nd,#[qE,QP,#[YS,vb,Uo,Up,BD,#[qV,QA,pv 4,qi],#v[qi]],#[qt,qL,T.ig,#v[pv 0,qh]]]],#[ZN,#[Xw,["j","pot"],[0],Md (qj xM) ["pot","names","many","k","words","word","one","two","three","at"],#[Yw,#v[qh]],(λ_ _ _ _ _ _=>#[qJ,(0),(show Vu (["j","pot"]:oj Str) by decide+kernel)]),(λ_ _ _ _ _ _=>#[qE,BM,qi,#[qt,qL,T.ig,#v[pv 1,qh]]])],#[O1,6,rfl,qT #[qJ,(6),yC.nd] (qT #[qJ,(7),yC.nd] (qT #[qJ,(8),yC.nd] yW)),_,_]],#[qF,(9),yC.nd,#[Qj,J9,T.wB,V2,#v[#[qz,#[sJ,1,rfl],T.z_min,boot_min,#v[pv 2,#[qV,Q1,#[qV,Q1,pv 3,qh],#[qt,qL,T.ig,#v[pv 0,pv 2]]]]]]]],#[qI,#[qm,Qd,pv 5,qi],%[|#[qo,#[qV,QA,#[qV,QA,#[qV,QA,qi,pv 6],qi],#[qt,yc,T.iJ,#v[pv 0,pv 1]]]]],qp],#[qI,#[qm,8,QV,pv 5,#[QE,#v[qi,qi]],#[w]],%[|#[qo,#[qV,QA,#[qV,QA,pv 5,qi],pv 6]]],qp],#[qI,#[qm,Qd,pv 5,qi],%[|#[qo,pv 5]],qp],#[qI,#[qm,Qd,pv 5,qi],%[|#[qo,#[qV,QA,qi,pv 9]]],qp],#[qI,#[qm,8,QV,pv 5,#[QE,#v[qi,qi]],#[w]],%[|#[qo,#[YS,vb,Uc,Ud,qaC,qi,#v[#[QE,#v[pv 5,pv 6,pv 9]]]]]],qp],#[qI,#[qm,Qd,pv 5,qi],%[|#[qo,#[YS,vb,Uc,Ud,qaC,qi,#v[#[QE,#v[pv 5,pv 6,pv 7,pv 9]]]]]],qp],#[qI,#[qm,8,QV,pv 5,#[QE,#v[qi,qi]],#[w]],%[|#[qo,#[YS,vb,Uc,Ud,qaC,qi,#v[#[QE,#v[pv 5,pv 6,pv 7,pv 8]]]]]],qp]|#[qo,#[YS,vb,Uc,Ud,qaC,qi,#v[#[QE,#v[pv 5,pv 6,pv 7]]]]]]]
 rw[0,_,0,1,(),1,0,1,(),λq hq=>?_]
 rw[show spl _ _=WL from Aan]
 let s1:ic H (upd H q (.lst (WL.map V.str))):=qf hq _;let eq:(upd H q (.lst (WL.map V.str))) q=u_ (.lst (WL.map V.str)):=qg;generalize upd H q (.lst (WL.map V.str))=H1 at s1 eq⊢;let P1:=hP.same s1
 rw[0,p,(24),1,P1,(),(),λd H2 d0 d1 P2 K2=>?_]
 obtain⟨v,hv⟩:=Yn (xs:=WL.map V.str) d0 (by show d<24;exact d1)
 erw[Af.mp (jG hv),z,hz,rfl]
 rw[_,q,_,d,0,1,SqL.of (K2 _ _ eq (P1.ne_strs eq)),hv];let aa:=AcB z hz;let ak:iK p H H2:=(iK.of s1).trans K2;clear K2 hv hz eq P1 s1 hq
 rw[_,(3),1,(),(),λD hD=>?_]
 refine wK (lo:=0) (tl:= [u_ (-p)]) (λi ys H'=>∃bs:oj Str,ys=bs.map V.str/\↑bs=i/\(∀b>bs,Wd 1 b)/\mn H' p/\(∀b o,H2 b=u_ o->b≠p->H' b=u_ o)) (yL ()) ([],1,1,λb hb=>by simp at hb,P2.same (qf hD _),λb o e _=>qf hD _ _ _ e) ?_ ?_
 .rintro j ys H' hj ⟨bs,rfl,ac,Z,P',K'⟩ ad U R hR
  rw[0,p,(5),1,P',(),(),λd3 H4 e0 e1 P4 K4=>?_]
  erw[ND e0 e1,c,hc,ao]
  rw[_,"abcdh",d3,c,1,1,(),hc]
  let nD:D≠p:=(P2.free hD).symm;refine hR _ H4 (K4 _ _ ad nD) (bs++ [⟨#[c]⟩],by rw[uj];rfl,by rw[uw,ac];rfl,λb hb=>?_,?_,λb o e np=>?_)
  .rcases Ae.mp hb with h|h
   .exact Z b h
   .rw[Ub] at h;subst h;exact ao
  .erw[P4,x,e2,h2,<-⟨x,by rwa[qk nD.symm],h2⟩]
  .rw[qk (ql e hD)];exact K4 _ _ (K' b o e np) np
 .rintro ys H' ⟨bs,rfl,ac,Z,P',K'⟩ ad;obtain⟨x1,x2,x3,rfl⟩:∃x1 x2 x3,bs= [x1,x2,x3]:=by
   match bs,ac with
   | [x1,x2,x3],_=>exact(x1,x2,x3,1)
  let h1:Wd 2 x1:=⟨(Z x1 (by simp)).1,by have:=(Z x1 (by simp)).2;omega⟩
  let h2:Wd 2 x2:=⟨(Z x2 (by simp)).1,by have:=(Z x2 (by simp)).2;omega⟩
  let h3:Wd 2 x3:=⟨(Z x3 (by simp)).1,by have:=(Z x3 (by simp)).2;omega⟩
  let KD:iK p H H':=λb o e np=>K' b o (ak b o e np) np
  rw[_,D,0,SqL.of ad,1,_,0,_,0,_,0,1];clear K' ak P2 Z ac ad
  rw[0,0,_,0,1,0,0,p,many,1,P',(),(),λd5 H5 f0 f1 P5 K5=>(_,0,1,_,0,?_)]
  obtain⟨j,ej,ap,aq⟩:∃j:Int,j=(if(i:Int)+5+d5<(many:Int) then(i:Int)+5+d5 else(many:Int))/\1<=j/\j<=12:=⟨0,by split<;>omega,by split<;>omega⟩
  rw[<-ej];obtain⟨jn,rfl⟩:∃n:Nat,j=(n:Int):=[j.toNat:()]
  let al:=Abt jn ()
  let h4:Wd 2 (Vo ((jn:Nat):Int):Str):=al;let af:((jn:Nat):Int).natAbs.log2<1920:=by have:=tP ((jn:Nat):Int).natAbs;omega
  rw[0,af];let ag:iK p H H5:=KD.trans K5;let au:=ag _ _ hL (hP.ne_strs hL);let fin:∀(y:Str) (H':Hp),Wd 20 y->ic H5 H'->Q (!y) H':=λy H' U s'=>k y H' U (P5.same s') (ag.trans (iK.of s'));let two:(2:Nat)<=sizeLine:=by decide
  let bl:Wd 1 " ":=[():uh _]
  let fz:∀{n m:Nat}{x y:Str},Wd n x->Wd m y->n+m<=100->↑x+↑y<=sizeLine:=λhx U h=>nB (by have:=hx.2;have:=U.2;omega)
  let tx:Wd 5 "text ":=[():uh _]
  let go:Wd 3 "go ":=[():uh _]
  clear al ap aq af ej
  rw[0,1,0,ky (λ_=>?_) (λ_=>?_)]
  .let w1:=tx.cat h1 (k:=7) ()
   let w2:=w1.cat bl (k:=8) ()
   rw[0,_,0,1,fz tx h1 (),_,0,1,fz w1 bl (),0,0,p,L,zs,1,P5,au,hN,λy H6 U P6 K6=>?_]
   exact(_,0,1,fz w2 U (),k _ H6 (w2.cat U ()) P6 (ag.trans K6))
  rw[0,two,λl1 aw=>(l1,0,.inl (SqL.of qg),1,1,0,?_)];let ae:=qf aw (.lst ([-"self",-"say"]:oj V));refine ky (λ_=>?_) (λ_=>?_)
  .let w1:=aa.cat bl (k:=6) ()
   exact(0,_,0,1,fz aa bl (),0,_,0,1,fz w1 h1 (),fin _ _ (w1.cat h1 ()) ae)
  rw[0,1,0,ky (λ_=>?_) (λ_=>?_)]
  .exact⟨0,fin _ _ ⟨aa.1,by have:=aa.2;omega⟩ ae⟩
  rw[0,1,0,ky (λ_=>?_) (λ_=>?_)]
  .exact(0,_,0,1,fz go h4 (),fin _ _ (go.cat h4 ()) ae)
  rw[0,two,λl2 ax=>(l2,0,.inl (SqL.of qg),1,1,0,?_)];let ah:=ae.trans (qf ax (.lst ([-"none",-"rowed"]:oj V)));refine ky (λ_=>?_) (λ_=>?_)
  .rw[1,0,0,0];exact Mf (l:= [x1,Vo ((jn:Nat):Int)]) (by simp) aa (λy U=>by simp at U;rcases U with rfl|rfl<;>assumption) λy H' U s'=>fin y H' U (ah.trans s')
  rw[0,1,0,ky (λ_=>?_) (λ_=>?_)]
  .rw[1,0,0,0,0];exact Mf (l:= [x1,x2,Vo ((jn:Nat):Int)]) (by simp) aa (λy U=>by simp at U;rcases U with rfl|rfl|rfl<;>assumption) λy H' U s'=>fin y H' U (ah.trans s')
  rw[0,two,λl3 ay=>(l3,0,.inl (SqL.of qg),1,1,0,?_)];let am:=ah.trans (qf ay (.lst ([-"cut",-"glue"]:oj V)));refine ky (λ_=>?_) (λ_=>?_)
  .rw[1,0,0,0,0];exact Mf (l:= [x1,x2,x3]) (by simp) aa (λy U=>by simp at U;rcases U with rfl|rfl|rfl<;>assumption) λy H' U s'=>fin y H' U (am.trans s')
  .rw[1,0,0,0];exact Mf (l:= [x1,x2]) (by simp) aa (λy U=>by simp at U;rcases U with rfl|rfl<;>assumption) λy H' U s'=>fin y H' U (am.trans s')
abbrev SZ (d:D):Prop:=isT d=v_/\lw d=v_/\sz d<=300
inductive Dk:Sp
 |mk (p L:Addr)(zs:List Str)(_:vs= [-p,-L])(_:mn H p)(_:H L=u_ (.lst (zs.map V.str)))(_:Nm4 zs)(_:∀(v:V)(d:D)(H':Hp),SZ d->Is H' d v->mn H' p->iK p H H'->Q v H')
def IsL.ofStrz {H:Hp}:∀{l:oj Str},(∀z>l,↑z<=1000)->L2.IsL H (l.map D.str) (l.map V.str)
 | [],_=>rfl|z::r,h=>(_,0,[1:yL (h z ug)],IsL.ofStrz λy U=>h y (uf _ U))
def Bc {n:Nat}:∀{l:oj Str},(∀z>l,↑z<=n)->szL (l.map D.str)<=↑l*(n+1)
 | [],_=>by simp[szL]|z::r,h=>by
  have:=Bc (n:=n) λy U=>h y (uf (a:=y) z U);have:=h z ug;simp![uA,szL,sz,um,rh,pd];omega
def Ex:∀{l:oj Str},(∀z>l,JK z=v_)->lwL (l.map D.str)=v_
 | [],_=>rfl|z::r,h=>by
  rw[uA,lwL,Ex λy U=>h y (uf _ U),U9];exact h z ug
def Il:∀l:oj Str,dpL (l.map D.str)<=1
 | []=>by simp[dpL]|z::r=>by have:=Il r;simp![uA,dpL,dp];omega
def oZ:∀{l:oj Str},(∀z>l,Wd 300 z)->goodL (l.map D.str)=v_
 | [],_=>rfl|z::r,h=>by
  rw[uA,goodL,oZ λy U=>h y (uf _ U),U9];show QH z=v_;unfold QH;have:=h z ug;rw[u8 this.2];exact this.1
def Aar (h:Wd 20 z):SZ (!z):=⟨EQ h.1 (by have:=h.2;omega),h.1,by simp![sz];have:=h.2;omega⟩
def Ba (U:↑l<=14)(h:∀z>l,Wd 20 z):SZ (.tup (l.map D.str)):=by
 let h1:=Bc λz hz=>(h z hz).2;let h2:=Il l;let h3:=oZ λz hz=>(⟨(h z hz).1,by have:=(h z hz).2;omega⟩:Wd 300 z)
 let e:sz (.tup (l.map D.str))<=300:=by simp![sz];omega
 rw[_,?_,by simpa only [lw] using Ex λz hz=>(h z hz).1,e]
 let e2:dp (.tup (l.map D.str))<=12:=by simp![dp];omega
 unfold isT;rw[u8 (show sz (.tup (l.map D.str))<=600 by omega),u8 e2]
 simp![good];rw[h3,u7,u8 (show ↑l<=40 by omega)]
 rfl
def qaE {t:o3}(h:∀z>l,Wd 20 z)(U:H t=U_):Is (upd H t (.tup (l.map V.str))) (.tup (l.map D.str)) (-t):=
 Is.new (IsL.ofStrz λz hz=>by have:=(h z hz).2;omega) U
abbrev MKL (z:Str):oj Str:= ["row h","text b "++z,"ask c b","text a text d ","join a c","put h a","text a ask e d","put h a","text a say e","put h a","say h"]
def Nh (h:Wd 4 z):∀y>MKL z,Wd 20 y:=by
 let U:∀y>(["row h","ask c b","text a text d ","join a c","put h a","text a ask e d","put h a","text a say e","put h a","say h"]:oj Str),JK y=v_/\↑y<=20:=by decide+kernel
 intro y Z;rcases Ab.mp Z with rfl|Z
 .exact U _ (by simp)
 .rcases Ab.mp Z with rfl|Z
  .exact Wd.cat (n:=7) (m:=4) [():uh _] h ()
  .exact U y (uf _ Z)
def LF:#[T,2,a.WP,a.Wc,["pot","names"],Dk]:=by
 let qL:=#[Jr,T];rw[9,T.mX,jq]
 erw[h,p,L,zs,rfl,hP,hL,hN,k];let ac:=hN.1;let ad:=hN.2.1;rw[3,%[#[qF,(2),jq.nd,#[qE,QP,pv 1,#[qt,qL,T.ig,#v[pv 0,#[qz,qG,T.QZ,uJ,#v[pv 1]]]]]],#[qF,(3),jq.nd,#[QE,#v[qi,#[qV,QA,qi,pv 2],qi,qi,qi,qi]]],#[qF,(3),jq.nd,#[qV,wN,pv 3,#[QE,#v[qi,qi,qi,qi,qi]]]]|#[qo,#[Qj,Qk,T.QO,vx,#v[pv 3]]]]]
 let aa:=hP.ne_strs hL
 rw[5]
 refine(0,0,0,L,0,.inl (SqL.of hL),p,0,hP,by rw[u7];omega,by rw[u7];omega,λd1 H1 a0 a1 P1 K1=>?_)
 erw[Yn (xs:=zs.map V.str) a0 a1,v,hv];erw[Af.mp (jG hv),z,hz,rfl];let U:Wd 4 z:=[Nf (hN.2.2 z hz).1:(hN.2.2 z hz).2]
 rw[_,L,_,_,0,1,SqL.of (K1 _ _ hL aa),hv];let e7:("text b ":Str).length=7:=by decide+kernel
 rw[0,_,0,1,nB (by have:=U.2;omega),(sml rfl),λZ h1=>?_]
 let q1:=qf h1 (.lst (((MKL z).take 6).map V.str));let e1:(upd H1 Z (.lst (((MKL z).take 6).map V.str))) Z=u_ (.lst (((MKL z).take 6).map V.str)):=qg;show nA _ _ _ _ (upd H1 Z (.lst (((MKL z).take 6).map V.str)));generalize upd H1 Z (.lst (((MKL z).take 6).map V.str))=H2 at q1 e1⊢
 rw[0,(sml rfl),λl2 h2=>?_];let q2:=qf h2 (.lst (((MKL z).drop 6).map V.str))
 rw[_,Z,l2,_,0,1,q2 _ _ e1,qg,nB (by show 6+5<=16000000;decide),λl3 h3=>?_]
 let q3:=q2.trans (qf h3 (.lst ((MKL z).map V.str)))
 rw[0,l3,(MKL z).map V.str,1,.inl [SqL.of qg:λt ht=>?_]];let q4:=qf ht (.tup ((MKL z).map V.str));exact k _ _ _ (Ba (by show 11<=14;decide) (Nh U)) (qaE (Nh U) ht) ((P1.same q1).same (q3.trans q4)) (K1.trans (iK.of (q1.trans (q3.trans q4))))
def D7:#[T,4,a.kG,a.kS,["pot","names"],Dk]:=by
 let qL:=#[Jr,T];let yc:=#[Aq,T];let U:=#[Pw,T];rw[9,T.mD,Ji]
 erw[h,p,L,zs,rfl,hP,hL,hN,k];rw[3,%[#[qF,(2),Ji.nd,#[qV,Q1,qh,#[qt,qL,T.ig,#v[pv 0,qh]]]],#[qF,2,(3),4,Ji.nd,rfl,GN rfl,#[qV,Q1,pv 2,qh],_,_],#[qF,(4),Ji.nd,#[QE,#v[#[qV,QA,qi,#[qt,yc,T.iJ,#v[pv 0,pv 1]]],#[qV,QA,qi,#[qt,yc,T.iJ,#v[pv 0,pv 1]]],qi]]],#[qY,#[YS,uM,PySem.F.slot_list_extend,PySem.F.type_list_extend,oP,pv 4,#v[#[Xw,["k","pot","names","many"],[0,1,3],Md (qj xS) ["pot","names","body","many","lines"],#[Yw,#v[pv 2]],(λ_ _ _ _ _ _=>#[qJ,(0),(show Vu (["k","pot","names","many"]:oj Str) by decide+kernel)]),(λ_ _ _ _ _ _=>#[qt,U,T.nw,#v[pv 1,pv 2,pv 3,pv 0]])]]]]|#[qo,#[Qj,Qk,T.QO,vx,#v[#[qV,wN,pv 4,#[QE,#v[#[qV,QA,qi,#[qE,BM,qi,#[qt,qL,T.ig,#v[pv 0,qh]]]]]]]]]]]]
 rw[0,p,(8),1,hP,(),(),λd1 H1 a0 a1 P1 K1=>(_,0,1,?_)]
 obtain⟨nb,ak,aH,aI⟩:∃nb:Nat,1+d1=(nb:Int)/\1<=nb/\nb<=8:=((1+d1).toNat,(),(),())
 let ac:=K1 _ _ hL (hP.ne_strs hL)
 try dsimp only
 rw[ak];clear ak a0 a1
 rw[0,_,0,1];let ta:Wd 7 "text a ":=[():uh _]
 let tb:Wd 7 "text b ":=[():uh _]
 let fz:∀{n m:Nat}{x y:Str},Wd n x->Wd m y->n+m<=100->↑x+↑y<=sizeLine:=λhx Z h=>nB (by have:=hx.2;have:=Z.2;omega)
 rw[0,0,p,L,zs,1,P1,ac,hN,λz1 H5 al P5 K5=>(_,0,1,fz ta al (),?_)]
 let ad:=K5 _ _ ac (P1.ne_strs ac)
 rw[0,0,p,L,zs,1,P5,ad,hN,λz2 H6 am P6 K6=>(_,0,1,fz tb am (),(sml rfl),λl hl=>?_)]
 let aw:=K6 _ _ ad (P5.ne_strs ad);let ao:iK p H H6:=(K1.trans K5).trans K6;let s7:=qf hl (.lst (["text a "++z1,"text b "++z2,"row h"].map V.str));let e7:(upd H6 l (.lst (["text a "++z1,"text b "++z2,"row h"].map V.str))) l=u_ (.lst (["text a "++z1,"text b "++z2,"row h"].map V.str)):=qg;let P7:=P6.same s7;let ae:=s7 _ _ aw;let K7:iK p H (upd H6 l (.lst (["text a "++z1,"text b "++z2,"row h"].map V.str))):=ao.trans (iK.of s7);let aa:∀y>(["text a "++z1,"text b "++z2,"row h"]:oj Str),Wd 20 y:=λy Z=>by
  simp![uF,uI,uR] at Z;rcases Z with rfl|rfl|rfl
  .exact ta.cat al ()
  .exact tb.cat am ()
  .exact[():()]
 show nA _ _ _ _ (upd H6 l (.lst (["text a "++z1,"text b "++z2,"row h"].map V.str)));generalize upd H6 l (.lst (["text a "++z1,"text b "++z2,"row h"].map V.str))=H7 at e7 P7 ae K7⊢;let ax:(["text a "++z1,"text b "++z2,"row h"]:oj Str).length=3:=rfl;generalize (["text a "++z1,"text b "++z2,"row h"]:oj Str)=th at e7 aa ax⊢
 rw[0,.inl [1:_:SqL.of e7]]
 rw[0,nb,1,(),(),λD hD=>?_]
 let nD:D≠p:=(P7.free hD).symm;let nl:l≠p:=P7.ne_strs e7;refine wK (lo:=0) (n:=nb) (tl:= [u_ (-p),u_ (-L),u_ (.int ((nb:Int)+4))]) (λi ys H'=>∃rs:oj Str,ys=rs.map V.str/\↑rs=i/\(∀r>rs,Wd 20 r)/\mn H' p/\(∀b o,H7 b=u_ o->b≠p->H' b=u_ o)) (yL ()) ([],1,1,λb hb=>by simp at hb,P7.same (qf hD _),λb o e _=>qf hD _ _ _ e) ?_ ?_
 .rintro j ys H' hj ⟨rs,rfl,ap,af,P',K'⟩ ag Z R hR;let ay:=K' _ _ ae (P7.ne_strs ae)
  rw[0,0,0,0,p,L,zs,nb+4,j,?_,P',ay,hN,(),(),(),λr H8 aA P8 K8=>?_]
  .rw[show(0:Int)+(j:Int)=(j:Int) by omega,show((nb+4:Nat):Int)=(nb:Int)+4 by omega]
   rfl
  .refine hR _ H8 (K8 _ _ ag nD) (rs++ [r],by rw[uj];rfl,by rw[uw,ap];rfl,λb hb=>?_,?_,λb o e np=>?_)
   .rcases Ae.mp hb with h|h
    .exact af b h
    .rw[Ub] at h;subst h;exact aA
   .erw[P8,x,e2,h2,<-⟨x,by rwa[qk nD.symm],h2⟩]
   .rw[qk (ql e hD)];exact K8 _ _ (K' b o e np) np
 .rintro ys H' ⟨rs,rfl,ap,af,P',K'⟩ ag;let e8:=K' _ _ e7 nl
  rw[_,l,D,_,0,1,e8,ag,nB (by rw[u7,u7];omega)]
  let e9:(upd H' l (.lst (th.map V.str++rs.map V.str))) l=u_ (.lst ((th++rs).map V.str)):=by rw[qg,uj]
  let P9:mn (upd H' l (.lst (th.map V.str++rs.map V.str))) p:=by
   erw[P',x,e2,h2,<-⟨x,by rwa[qk nl.symm],h2⟩]
  let K9:iK p H (upd H' l (.lst (th.map V.str++rs.map V.str))):=λb o e np=>by
   rw[qk (ql (ao b o e np) hl)];exact K' b o (K7 b o e np) np
  generalize upd H' l (.lst (th.map V.str++rs.map V.str))=H9 at e9 P9 K9⊢
  rw[0,0,p,(5),1,P9,(),(),λd9 aJ g0 g1 aB aq=>?_]
  erw[ND g0 g1,c9,hc,aC];let aD:=aq _ _ e9 nl
  rw[_,"abcdh",d9,c9,1,1,(),hc,_,0,1,(by show("say ":Str).length+1<=Vg;decide+kernel),(sml rfl),λq1 aE=>?_]
  let au:=qf aE (.lst [.str ("say "++⟨#[c9]⟩)]);let hw:Wd 20 ("say "++⟨#[c9]⟩:Str):=Wd.cat (n:=4) (m:=1) [():uh _] aC ()
  rw[_,l,q1,_,0,1,au _ _ aD,qg,nB (by rw[u7,uw];show _+1<=_;omega),λq2 aF=>?_]
  let aG:=au.trans (qf aF (.lst ((th++rs).map V.str++ [.str ("say "++⟨#[c9]⟩)])))
  rw[_,q2,0,.inl [SqL.of qg:λt ht=>?_]];let ah:=aG.trans (qf ht (.tup ((th++rs).map V.str++ [.str ("say "++⟨#[c9]⟩)])));let all:∀y>th++rs++ [("say "++⟨#[c9]⟩:Str)],Wd 20 y:=λy Z=>by
   rcases Ae.mp Z with Z|Z
   .rcases Ae.mp Z with Z|Z
    .exact aa y Z
    .exact af y Z
   .rw[Ac.mp Z,0];exact hw
  let em:(th++rs).map V.str++ [.str ("say "++⟨#[c9]⟩)]=(th++rs++ [("say "++⟨#[c9]⟩:Str)]).map V.str:=by rw[uj (l₁:=th++rs)];rfl
  rw[em] at ah ht⊢;refine k _ _ _ (Ba (l:=th++rs++ [("say "++⟨#[c9]⟩:Str)]) (by simp![uw,U8];omega) all) (qaE all ht) (aB.same ah) ((K9.trans aq).trans (iK.of ah))
def IS {y:Str}(hz:Wd 20 z)(U:Wd 20 y):SZ (-[-[!z,-[]],!y]):=by
 let h1:=hz.2;let h2:=U.2;let Z:QH z=true:=by unfold QH;rw[u8 (show ↑z<=300 by omega)];exact hz.1
 let g2:QH y=true:=by unfold QH;rw[u8 (show ↑y<=300 by omega)];exact U.1
 let e:sz (-[-[!z,-[]],!y])<=300:=by simp![sz,szL];omega
 rw[_,?_,by simp[lw,lwL,hz.1,U.1],e]
 unfold isT;rw[u8 (show sz (-[-[!z,-[]],!y])<=600 by omega),u8 (show dp (-[-[!z,-[]],!y])<=12 by simp![dp,dpL];omega)]
 simp[good,goodL,Z,g2]
inductive NZ:Sp
 |mk (p L:Addr)(zs:List Str)(_:vs= [-p,-L])(_:mn H p)(_:H L=u_ (.lst (zs.map V.str)))(_:Nm4 zs)(_:∀(v:V)(d:D)(H':Hp),sS d->Is H' d v->mn H' p->iK p H H'->Q v H')
def Aas {k:Str}{d:D}(U:k="leaf"\/k="rule")(h:SZ d):sS (-[!k,d]):=IX U h.1 h.2.1 h.2.2
def NS {k:Str}{d:D}(U:k="leaf"\/k="rule")(h:SZ d)(hv:Is H d v)(q:∀t H',ic H H'->Is H' (-[!k,d]) (-t)->sS (-[!k,d])->Q (-t) H'): [V.str k,v].length<=Vg/\∀t,H t=U_->Q (-t) (upd H t (-[!k,v])):=by
 rw[_,sml rfl,λt Z=>q t _ (qf Z _) (Is.new (ds:= [!k,d]) (_,0,[1:?_],_,0,hv,1) Z) (Aas U h)];rcases U with rfl|rfl<;>decide+kernel
def Px:#[T,5,a.Kj,a.Kh,["pot","names"],Dk]:=by
 let qL:=#[Jr,T];let yc:=#[Aq,T];let Zd:=#[D7,T];rw[9,T.mE,We]
 erw[h,p,L,zs,rfl,hP,hL,hN,k];let aa:∀{z:Str},Wd 4 z->Wd 20 z:=λh=>⟨h.1,by have:=h.2;omega⟩
 rw[3,%[#[qF,(2),We.nd,#[qt,qL,T.ig,#v[pv 0,qh]]],#[qI,#[qm,qaJ,pv 2,qh],%[|#[qo,#[qt,yc,T.iJ,#v[pv 0,pv 1]]]],qp],#[qI,#[qm,Qd,pv 2,qh],%[|#[qo,#[Qj,Qk,T.QO,vx,#v[#[Xw,["k","pot","names"],[0,1],Md (qj xQ) ["pot","names","kind"],#[Yw,#v[#[qt,qL,T.ig,#v[pv 0,qh]]]],(λ_ _ _ _ _ _=>#[qJ,(0),(show Vu (["k","pot","names"]:oj Str) by decide+kernel)]),(λ_ _ _ _ _ _=>#[qt,yc,T.iJ,#v[pv 1,pv 2]])]]]]],qp],#[qI,#[qm,Qd,pv 2,qh],%[|#[qo,#[qA,#v[#[qA,#v[#[qt,yc,T.iJ,#v[pv 0,pv 1]],#[qA,qd]]],#[qt,yc,T.iJ,#v[pv 0,pv 1]]]]]],qp],#[qI,#[qm,Qd,pv 2,qh],%[|#[qo,#[qt,Zd,T.mD,#v[pv 0,pv 1]]]],qp]|#[qo,#[qA,#v[#[qV,QA,qi,#[qt,yc,T.iJ,#v[pv 0,pv 1]]],qi,qi]]]]]
 rw[0,p,(6),1,hP,(),(),λd1 H1 a0 a1 P1 K1=>?_]
 let U:=K1 _ _ hL (hP.ne_strs hL)
 rw[0,_,0,1,0,ky (λ_=>?_) (λ_=>?_)]
 .exact(0,0,p,L,zs,1,P1,U,hN,λz H2 hz Z K2=>k _ _ H2 (Aar (aa hz)) ⟨1,nB (by have:=hz.2;omega)⟩ Z (K1.trans K2))
 rw[0,1,0,ky (λ_=>?_) (λ_=>?_)]
 .rw[0,p,(4),1,P1,(),(),λd2 H2 b0 b1 Z K2=>?_]
  let ac:=K2 _ _ U (P1.ne_strs U);obtain⟨n,rfl,hn⟩:∃n:Nat,d2=(n:Int)/\n<4:=[d2.toNat:():()]
  rw[_,n,1,(),(),λD hD=>?_]
  let nD:D≠p:=(Z.free hD).symm;refine wK (lo:=0) (n:=n) (tl:= [u_ (-p),u_ (-L)]) (λi ys H'=>∃rs:oj Str,ys=rs.map V.str/\↑rs=i/\(∀r>rs,Wd 20 r)/\mn H' p/\(∀b o,H2 b=u_ o->b≠p->H' b=u_ o)) (yL ()) ([],1,1,λb hb=>by simp at hb,Z.same (qf hD _),λb o e _=>qf hD _ _ _ e) ?_ ?_
  .rintro j ys H' hj ⟨rs,rfl,af,ad,P',K'⟩ ae hy R hR;let ao:=K' _ _ ac (Z.ne_strs ac)
   rw[0,0,p,L,zs,1,P',ao,hN,λr H8 ap P8 K8=>?_];refine hR _ H8 (K8 _ _ ae nD) (rs++ [r],by rw[uj];rfl,by rw[uw,af];rfl,λb hb=>?_,?_,λb o e np=>?_)
   .rcases Ae.mp hb with h|h
    .exact ad b h
    .rw[Ub] at h;subst h;exact aa ap
   .erw[P8,x,e2,h2,<-⟨x,by rwa[qk nD.symm],h2⟩]
   .rw[qk (ql e hD)];exact K8 _ _ (K' b o e np) np
  .rintro ys H' ⟨rs,rfl,af,ad,P',K'⟩ ae
   rw[_,D,0,.inl [SqL.of ae:λt ht=>?_]];let s3:=qf ht (.tup (rs.map V.str));exact k _ _ _ (Ba () ad) (qaE ad ht) (P'.same s3) (λb o e np=>s3 _ _ (K' b o ((K1.trans K2) b o e np) np))
 rw[0,1,0,ky (λ_=>?_) (λ_=>?_)]
 .rw[0,0,p,L,zs,1,P1,U,hN,λz1 H2 ag Z K2=>[uK _:λt0 ah=>[sml rfl:λt1 ak=>?_]]];let ac:=K2 _ _ U (P1.ne_strs U);let s0:=qf ah (.tup ([]:oj V));let s1:=s0.trans (qf ak (-[!z1,-t0]));let i0:Is (upd H2 t0 (-[])) (-[]) (-t0):=Is.new (ds:= []) rfl ah;let i1:Is (upd (upd H2 t0 (-[])) t1 (-[!z1,-t0])) (-[!z1,-[]]) (-t1):=Is.new (ds:= [!z1,-[]]) (_,0,⟨1,nB (by have:=ag.2;omega)⟩,_,0,i0,1) ak
  generalize upd (upd H2 t0 (-[])) t1 (-[!z1,-t0])=H3 at s1 i1⊢;let P3:=Z.same s1
  rw[0,0,p,L,zs,1,P3,s1 _ _ ac,hN,λz2 H4 al P4 K4=>[sml rfl:λt2 am=>?_]];let s2:=qf am (-[-t1,!z2]);refine k _ _ _ (IS (aa ag) (aa al)) (Is.new (ds:= [-[!z1,-[]],!z2]) (_,0,i1.mono (P3.tk P4 K4),_,0,⟨1,nB (by have:=al.2;omega)⟩,1) am) (P4.same s2) ((((K1.trans K2).trans (iK.of s1)).trans K4).trans (iK.of s2))
 rw[0,1,0,ky (λ_=>?_) (λ_=>?_)]
 .exact(0,0,p,L,zs,1,P1,U,hN,λv d H2 hd hv Z K2=>k v d H2 hd hv Z (K1.trans K2))
 .let ta:Wd 7 "text a ":=[():uh _]
  rw[0,0,p,L,zs,1,P1,U,hN,λz H2 hz Z K2=>(_,0,1,nB (by have:=hz.2;have:=ta.2;omega),sml rfl,λt ht=>?_)]
  let all:∀y>(["text a "++z,"ask b a","say b"]:oj Str),Wd 20 y:=λy hy=>by
   simp![uF,uI,uR] at hy;rcases hy with rfl|rfl|rfl
   .exact ta.cat hz ()
   .exact[():()]
   .exact[():()]
  let s2:=qf ht (.tup ((["text a "++z,"ask b a","say b"]:oj Str).map V.str));exact k _ _ _ (Ba (by show 3<=14;decide) all) (qaE all ht) (Z.same s2) ((K1.trans K2).trans (iK.of s2))
def O9:#[T,6,a.ZX,a.Z9,["pot","names"],NZ]:=by
 let qL:=#[Jr,T];let Kv:=#[Px,T];let Zd:=#[D7,T];let U:=#[LF,T];rw[9,T.mG,zQ]
 erw[h,p,L,zs,rfl,hP,hL,hN,k];let ae:=hN.1;let af:=hN.2.1;rw[3,%[#[qF,(2),zQ.nd,#[qt,qL,T.ig,#v[pv 0,qh]]],#[qI,#[qm,qaJ,pv 2,qh],%[|#[qo,#[qA,#v[qi,#[qt,Kv,T.mE,#v[pv 0,pv 1]]]]]],qp],#[qI,#[qm,qaJ,pv 2,qh],%[|#[qo,#[qA,#v[qi,#[qt,Zd,T.mD,#v[pv 0,pv 1]]]]]],qp],#[qI,#[qm,Qd,pv 2,qh],%[|#[qo,#[qA,#v[qi,#[qt,U,T.mX,#v[pv 0,pv 1]]]]]],qp],@qI _ _ _ _ _ _ _ _ #[JR,#[qm,Qd,pv 2,qh],#[Y3,#[qm,Qd,#[qt,qL,T.ig,#v[pv 0,qh]],qh]]].pt %[|#[qo,#[qA,#v[qi,#[qt,Kv,T.mE,#v[pv 0,pv 1]]]]]] qp|#[qo,#[qA,#v[qi,#[qE,QP,pv 1,#[qt,qL,T.ig,#v[pv 0,#[qz,qG,T.QZ,uJ,#v[pv 1]]]]]]]]]]
 rw[0,p,(10),1,hP,(),(),λd1 H1 a0 a1 P1 K1=>?_]
 let aa:=K1 _ _ hL (hP.ne_strs hL);let fin:∀{H3 H2:Hp}{kk:Str}{d:D}{v:V},mn H3 p->iK p H H3->kk="leaf"\/kk="rule"->SZ d->Is H2 d v->mn H2 p->iK p H3 H2-> [V.str kk,v].length<=Vg/\∀t,H2 t=U_->Q (-t) (upd H2 t (-[!kk,v])):=λ{H3 H2 kk d v} P3 K3 hk hd Z P2 K2=>
  NS hk hd Z λt H4 s4 i4 o4=>k _ _ H4 o4 i4 (P2.same s4) ((K3.trans K2).trans (iK.of s4))
 rw[0,_,0,1,0,ky (λ_=>?_) (λ_=>?_)]
 .exact(0,0,p,L,zs,1,P1,aa,hN,λv d H2 hd Z P2 K2=>fin P1 K1 (.inl rfl) hd Z P2 K2)
 rw[0,_,0,1,0,ky (λ_=>?_) (λ_=>?_)]
 .exact(0,0,p,L,zs,1,P1,aa,hN,λv d H2 hd Z P2 K2=>fin P1 K1 (.inr rfl) hd Z P2 K2)
 rw[0,1,0,ky (λ_=>?_) (λ_=>?_)]
 .exact(0,0,p,L,zs,1,P1,aa,hN,λv d H2 hd Z P2 K2=>fin P1 K1 (.inr rfl) hd Z P2 K2)
 show nA _ _ _ _ H1;refine qw λN0 n0=>n0 _ _ ?_;rw[8,BB,bb];let made:∀{H3:Hp},mn H3 p->iK p H H3->BB [u_ (V.ref p),u_ (V.ref L),u_ (V.int d1)] H3:=by
  intro H3 P3 K3;refine bb _ _ ?_;let ac:=K3 _ _ hL (hP.ne_strs hL)
  rw[5]
  refine(0,0,0,L,0,.inl (SqL.of ac),p,0,P3,by rw[u7];omega,by rw[u7];omega,λd2 H4 b0 b1 P4 K4=>?_)
  erw[Yn (xs:=zs.map V.str) b0 b1,v,Z];erw[Af.mp (jG Z),z,hz,rfl]
  rw[_,L,_,_,0,1,SqL.of (K4 _ _ ac (P3.ne_strs ac)),Z,sml rfl,λt ht=>?_];let s4:=qf ht (-[-"made",!z]);let ad:=hN.2.2 z hz;exact k _ _ _ (IW ad.1) (Is.new (ds:= [-"made",!z]) (_,0,[1:()],_,0,[1:nB ()],1) ht) (P4.same s4) ((K3.trans K4).trans (iK.of s4))
 rw[0,1,0,ky (λ_=>?_) (λ_=>?_)]
 .rw[0,p,(4),1,P1,(),(),λd2 H2 b0 b1 P2 K2=>[1:0:ky (λ_=>?_) (λ_=>?_)]]
  .exact(0,0,p,L,zs,1,P2,K2 _ _ aa (P1.ne_strs aa),hN,λv d H3 hd Z P3 K3=>fin P2 (K1.trans K2) (.inr rfl) hd Z P3 K3)
  .exact made P2 (K1.trans K2)
 .exact iU (made P1 K1)
def SqL.keepK {K:o0}{a:o3}(e:∀o,H a=u_ o->H' a=u_ o)(h:SqL K H a xs):SqL K H' a xs:=by
 rcases h with(h|⟨o,h⟩)|h
 .exact .inl (.inl (e _ h))
 .exact .inl (.inr [o:e _ h])
 .exact .inr h
abbrev N8:oj Str:= ["a","b1","c/d","e.f","g","h9","k","m/n"]
def Ac7:∀z>N8,nm z=v_/\↑z<=4:=by decide+kernel
def Ac8:N8.Nodup:=by decide+kernel
def Se (h1:1<=n)(h2:n<=8):Nm4 (N8.take n)/\↑(N8.take n)=n:=by
 let e:↑(N8.take n)=n:=by rw[uQ];show min n 8=n;omega
 exact[[():():λz hz=>Ac7 z (vj hz)]:e]
def B9 {vs:oj V}:nE vs U_ (u_ (n:Int))=vs.take n:=by
 unfold nE;rw[HT.sIx_none,HT.sIx_nat,HV,Fy];rcases f_ n ↑vs with h|h
 .rw[tX h]
 .rw[Nat.min_eq_right h,vg (uh _),vg h]
def AF {ns:oj Int}:∀{ys:oj V},(∀y>ys,y>ns.map V.int)->∃U:oj Int,ys=U.map V.int
 | [],_=>[[]:1]|y::r,h=>by
  erw[Af.mp (h y ug),i,_,e];obtain⟨U,e2⟩:=AF (ys:=r) λz hz=>h z (uf _ hz);exact⟨i::U,by rw[e2,<-e];rfl⟩
inductive Ol (K:PySem.W.Frag):Sp
 |mk (q:Addr)(ns:List Int)(_:vs= [-q])(_:SqL K H q (ns.map V.int))(_:∀(L:Addr)(ps:List (Str×D))(us:List V)(H':Hp),H L=U_->ic H H'->H' L=u_ (.lst us)->L2.IsL H' (ps.map prD) us->Adx ps->↑ps<=8->(∀p>ps,↑p.1<=4)->Q (-L) H')
def qao {K:o0}(h:SqL K H q xs)(s:ic H H'):SqL K H' q xs:=SqL.keepK (λo e=>s _ _ e) h
def LG:#[T,7,a.zk,a.X8,["script"],(Ol K)]:=by
 let Jt:=#[Ej,T];let wP:=#[Ea,T];let Z:=#[O9,T];rw[9,T.lW,yt]
 erw[h,q,ns,rfl,hq,k];let hs:=uB;rw[3,%[#[qF,(1),yt.nd,#[QK,qaK,#[QE,#v[qi,qi,qi,qi,qi,qi,qi,qi]],yi,#[yf,#[qV,Q1,qh,#[qV,WZ,#[qt,Jt,T.lX,#v[pv 0,qh]],qh]]]]],#[qF,(2),yt.nd,#[QE,qd]],#[y7,#[Yw,#v[#[qz,qG,T.QZ,uJ,#v[pv 1]]]],#[qJ,(3),yt.nd],%[#[qF,(4),yt.nd,#[qz,#[sH,1,rfl],T.z_sum,boot_sum,#v[#[Lv,10,(),pv 0,#[yf,#[qV,Q1,qh,pv 3]],_]]]]|#[qI,#[qm,Ao,#[qV,WZ,pv 4,qh],qh],%[|#[qY,#[YS,uM,vK,vL,Y7,pv 2,#v[#[qA,#v[#[qE,QP,pv 1,pv 3],#[qt,Z,T.mG,#v[#[qt,wP,T.mQ,#v[pv 4,pv 3]],pv 1]]]]]]]],qp]]]|#[qo,pv 2]]]
 rw[_,sml rfl,λl0 aw=>?_];let s0:=qf aw (.lst (N8.map V.str));let e0:(upd H l0 (.lst (N8.map V.str))) l0=u_ (.lst (N8.map V.str)):=qg;show De _ (upd H l0 (.lst (N8.map V.str))) _;generalize upd H l0 (.lst (N8.map V.str))=H0 at s0 e0⊢
 rw[0,q,ns,(0),1,(),(qao hq s0),λc=>(_,0,1,(by show(0:Int)<8;decide),_,0,1,?_)]
 let m1:0<=c%8/\c%8<8:=[HZ _ ():V4 _ ()]
 obtain⟨n,hn,ax,ay⟩:∃n:Nat,1+c%8=(n:Int)/\1<=n/\n<=8:=((1+c%8).toNat,(),(),())
 erw[Se ax ay,hN,aA]
 try dsimp only
 rw[hn]
 rw[0,l0,0,SqL.of e0,λl hl=>?_];rw[B9,<-Hw];let al:(N8.take n).Nodup:=pC (Rh _ _) Ac8;generalize N8.take n=zs at hN aA al⊢;let s1:=s0.trans (qf hl (.lst (zs.map V.str)));let e1:(upd H0 l (.lst (zs.map V.str))) l=u_ (.lst (zs.map V.str)):=qg;generalize upd H0 l (.lst (zs.map V.str))=H1 at s1 e1⊢
 rw[_,uK _,λL hL=>?_];let s2:=s1.trans (qf hL (.lst ([]:oj V)));let am:H L=none:=s1.free hL;let aB:l≠L:=ql e1 hL;let e2:=qf hL (.lst ([]:oj V)) _ _ e1;let eL:(upd H1 L (.lst [])) L=u_ (.lst []):=qg;generalize upd H1 L (.lst [])=H2 at s2 e2 eL⊢
 rw[0,l,0,.inl (SqL.of e2),↑zs,by rw[u7],(),()]
 refine xl (n:=↑zs) (λi σ H'=>∃(ps:oj (Str×D)) (us:oj V) (x3 x4:om V),σ= [u_ (-q),u_ (-l),u_ (-L),x3,x4]/\ic H H'/\H' l=u_ (.lst (zs.map V.str))/\H' L=u_ (.lst us)/\L2.IsL H' (ps.map prD) us/\(ps.map (·.1)).Sublist (zs.take i)/\∀p>ps,sS p.2) ([],[],U_,U_,1,s2,e2,eL,1,List.nil_sublist _,λp hp=>by simp at hp) ?_ ?_
 .rintro i σ H' hi ⟨ps,us,x3,x4,rfl,sm,el,ah,ae,U,aa⟩;let aI:↑ps<=8:=by
   let h1:=U.length_le;rw[u7,uQ] at h1;omega
  let aC:=↑ae;rw[u7] at aC
  rw[0,0,_,0,1,0,q,0,(qao hq sm),λys y0 _ ao aD=>?_];erw[AF ao,ms,rfl];let sy:=qf aD (.lst (ms.map V.int));let ey:(upd H' y0 (.lst (ms.map V.int))) y0=u_ (.lst (ms.map V.int)):=qg;let ac:=sy _ _ ah;let ad:=sy _ _ el;generalize upd H' y0 (.lst (ms.map V.int))=H3 at sy ey ac ad⊢;let ag:=ae.mono sy.tk;let ap:=sm.trans sy
  rw[_,y0,ms,1,SqL.of ey]
  rw[0,_,0,1,(by show(0:Int)<11;decide),1,0,ky (λ_=>?_) (λ_=>?_)]
  .let ak:i<↑zs:=hi
   rw[0,.inl [1:_:SqL.of ac],0,0,l,_,_,V.str zs[i],1,1,SqL.of ad,?_,?_]
   .rw[show(0:Int)+(i:Int)=((i:Nat):Int) by omega]
    exact qy (by rw[uH,ub ak];rfl)
   rw[0,0,_,0,(),(),λp H4 hp s4 P4=>?_]
   let aE:=s4 _ _ ad;let aJ:=s4 _ _ ac;let aK:L≠p:=ql ac hp
   rw[0,p,l,zs,1,P4,aE,hN,λv d H5 hd hv P5 K5=>[sml rfl:λt ht=>?_]];let aF:ic H3 H5:=K5.same s4 hp;let st:=qf ht (-[.str zs[i],v]);let hz:=hN.2.2 _ (uN ak);let aq:Is (upd H5 t (-[.str zs[i],v])) (prD (zs[i],d)) (-t):=Is.new (ds:= [.str zs[i],d]) (_,0,[1:nB ()],_,0,hv,1) ht
   generalize upd H5 t (-[.str zs[i],v])=H6 at st aq⊢;let af:=aF.trans st;let au:=af _ _ ac
   rw[_,L,us,0,1,au,()]
   let tk:Tk H6 (upd H6 L (.lst (us++ [-t]))):=Tk.updL au
   rw[_,ps++ [(zs[i],d)],us++ [-t],_,0,λb o e=>?_,?_,qg,?_,?_,λp' aG=>?_]
   .rw[qk (ql e am)];exact af _ _ (ap _ _ e)
   .rw[qk aB];exact af _ _ ad
   .rw[uj];exact((ag.mono af.tk).mono tk).append (L2.IsL.one (aq.mono tk))
   .rw[IT ak,uj];exact U.append (Pg _)
   .rcases Ae.mp aG with h|h
    .exact aa p' h
    .rw[Ac.mp h,0];exact hd
  .exact(ps,us,_,0,ap,ad,ac,ag,U.trans (by rw[IT hi];exact List.sublist_append_left _ _),aa)
 .rintro σ H' ⟨ps,us,x3,x4,rfl,sm,el,ah,ae,U,aa⟩;rw[vT] at U;let aH:=U.length_le;rw[u7] at aH;exact[0:k L ps us H' am sm ah ae [[λz hz=>(hN.2.2 z (U.mem hz)).1:al.sublist U]:aa] () λp hp=>(hN.2.2 p.1 (U.mem (Af.mpr [p:hp:1]))).2]
inductive Oz:Sp
 |mk (v:V)(d:D)(_:vs= [v])(_:Is H d v)(_:∀(u:V)(H':Hp),ic H H'->((ye d).isSome=v_->u= .non)->((ye d).isSome=Vd->u≠ .non)->Q u H')
inductive Du:Sp
 |mk (v:V)(d:D)(_:vs= [v])(_:Is H d v)(_:∀H',ic H H'->Q (.bl (ye d).isSome) H')
def PP:#[C,4,a.kO,a.ku,["tree"],Oz]:=by
 let xF:=#[D9,T,C];rw[9,T.mh,sZ]
 erw[h,v,d,rfl,hv,k];rw[3,%[|#[qo,#[qE,qB,#[qt,xF,T.md,#v[pv 0]],qh]]]]
 rw[0,v,d,1,hv,λu H' x y s' Z hu=>?_];erw[hu,p,ws,rfl,hp,w1,r1,rfl,h1,w2,r2,rfl,h2,h3];rw[show r2= [] from h3,0]
 rw[_,p,_,_,0,1,SqT.of hp,1,k _ H' s' (λe=>?_) (λe=>?_)]
 .erw[zD e,rs,U];erw[Z.1 rs U,_,rfl,<-h2]
 .let hn:ye d=none:=by
   cases hh:ye d with
   |none=>rfl|some rs=>rw[hh,0] at e
  erw[Z.2 hn,i,rfl];intro z;rw[z] at h2;rw[show V.non= .int i from h2,0]
def wM:#[C,5,a.f_is_rule,a.d_is_rule,["value"],Du]:=by
 let U:=#[PP,T,C];rw[9,T.mw,Cn,Z]
 erw[h,v,d,rfl,hv,k];rw[3,%[|#[qo,#[Qb,yk,#[qt,16,U,Z.mono (),_,T.mh.m,T.mh.F.kp,T.mh.b,.nil,qC,#v[pv 0],_,_,_],qR]]]]
 rw[0,v,d,1,hv,λu H' s' h1 h2=>[1:?_]];let e:decide (u=V.non)=(ye d).isSome:=by
  cases c:(ye d).isSome with
  |true=>rw[h1 c];rfl|false=>exact ud (h2 c)
 have:=k H' s';rwa[<-e] at this
end
def DF {n:Nat}:∀{ds:oj D},(∀d>ds,(Qw n d).isSome=v_)->↑(ds.filterMap (Qw n))=↑ds/\ds=(ds.filterMap (Qw n)).map (λr=>D.str (Yz r))/\∀r>ds.filterMap (Qw n),JN n 300 r
 | [],_=>[1:1:λr h=>nomatch h]|d::ds,h=>by
  erw[zD (h d ug),r,U];obtain⟨h1,h2,h3⟩:=DF (n:=n) (ds:=ds) λx Z=>h x (uf _ Z);let hd:d= .str (Yz r)/\JN n 300 r:=by
   cases d with
   |str z=>
    obtain⟨a1,a2⟩:=Bm (show w8 n z=u_ r from U)
    exact⟨by rw[a2],a1⟩
   |non=>rw[U,0]|bl b=>rw[U,0]|int i=>rw[U,0]|lst=>rw[U,0]|dct=>rw[U,0]|tup xs=>rw[U,0]
  rw[Uh U];rw[_,by rw[um,um,h1],by rw[uA,<-h2,hd.1],λx Z=>?_]
  rcases Ab.mp Z with rfl|Z
  .exact hd.2
  .exact h3 x Z
variable {rs:oj Rw}
set_option tactic.hygienic true in
def oC {d:D}(h:ye d=u_ rs):d=jY rs/\QY rs:=by
 cases d with
 |tup ds=>
  rw[zt] at h;split at h
  .rename_i U
   simp![uE,vm] at U;erw[U,[[c1,c2],Z],c4];rw[h,0];erw[DF (List.all_eq_true.mp Z),h1,h2,h3];let e:D.tup ds=jY (ds.filterMap (Qw ↑ds)):=by
    unfold jY;rw[<-h2]
   refine⟨e,((),(),?_,by rwa[<-e])⟩
   rwa[h1]
  .rw[h,0]
 |non=>rw[h,0]|bl b=>rw[h,0]|int i=>rw[h,0]|str z=>rw[h,0]|lst=>rw[h,0]|dct=>rw[h,0]
abbrev GMT:oj Str:= ["begin","look","wanted","take","full"]
structure GFl (fs:oj (Str×V))(nv ov mv av rv ev:V):Prop where
 Z7:fs.lookup ("name":Str)=u_ nv
 WQ:fs.lookup ("order":Str)=u_ ov
 YY:fs.lookup ("made_by":Str)=u_ mv
 Yh:fs.lookup ("rule_asks":Str)=u_ av
 QB:fs.lookup ("rule_run":Str)=u_ rv
 f_end:fs.lookup ("end":Str)=u_ ev
 meth:∀m>GMT,fs.lookup m=U_
 len:↑fs<=20
section
variable {fs:oj (Str×V)}{nv ov mv av rv ev:V}
def GFl.set_made_by {u:V}(h:GFl fs nv ov mv av rv ev):GFl (iN "made_by" u fs) nv ov u av rv ev:=by
 refine(?_,?_,?_,?_,?_,?_,λm hm=>?_,by rw[jj h.YY];exact h.len)
 all_goals rw[qN]
 all_goals first|rw[A6 rfl]|(rw[A4 ()];first|exact h.Z7|exact h.WQ|exact h.YY|exact h.Yh|exact h.QB|exact h.f_end)|(rw[A4 (λe=>by subst e;revert hm;decide+kernel)];exact h.meth m hm)
def GFl.set_rule_asks {u:V}(h:GFl fs nv ov mv av rv ev):GFl (iN "rule_asks" u fs) nv ov mv u rv ev:=by
 refine(?_,?_,?_,?_,?_,?_,λm hm=>?_,by rw[jj h.Yh];exact h.len)
 all_goals rw[qN]
 all_goals first|rw[A6 rfl]|(rw[A4 ()];first|exact h.Z7|exact h.WQ|exact h.YY|exact h.Yh|exact h.QB|exact h.f_end)|(rw[A4 (λe=>by subst e;revert hm;decide+kernel)];exact h.meth m hm)
def GFl.set_rule_run {u:V}(h:GFl fs nv ov mv av rv ev):GFl (iN "rule_run" u fs) nv ov mv av u ev:=by
 refine(?_,?_,?_,?_,?_,?_,λm hm=>?_,by rw[jj h.QB];exact h.len)
 all_goals rw[qN]
 all_goals first|rw[A6 rfl]|(rw[A4 ()];first|exact h.Z7|exact h.WQ|exact h.YY|exact h.Yh|exact h.QB|exact h.f_end)|(rw[A4 (λe=>by subst e;revert hm;decide+kernel)];exact h.meth m hm)
def GFl.set_end {u:V}(h:GFl fs nv ov mv av rv ev):GFl (iN "end" u fs) nv ov mv av rv u:=by
 refine(?_,?_,?_,?_,?_,?_,λm hm=>?_,by rw[jj h.f_end];exact h.len)
 all_goals rw[qN]
 all_goals first|rw[A6 rfl]|(rw[A4 ()];first|exact h.Z7|exact h.WQ|exact h.YY|exact h.Yh|exact h.QB|exact h.f_end)|(rw[A4 (λe=>by subst e;revert hm;decide+kernel)];exact h.meth m hm)
end
structure Gc where
 (x o:o3)
 n:Str
structure Gs where
 mb:D
 ra:oj D
 run:om (Mc×Rn)
 en:D
abbrev ki (CM:o3)(H:Hp)(x:o3)(rv:V):om (Mc×Rn)->Prop
 |none=>rv= .non|some (m,r)=>rv= .ref m.x/\m.x≠x/\yx CM H m r
abbrev mo (C CM:o3)(H:Hp)(g:Gc)(s:Gs):Prop:=
 ∃(dx:o3) (fs:oj (Str×V)) (mv av rv ev:V),H g.x=u_ (.ins C dx fs)/\GFl fs (!g.n) (-g.o) mv av rv ev/\Is H s.mb mv/\Is H (¬s.ra) av/\ki CM H g.x rv s.run/\Is H s.en ev
variable {CM:o3}
def ki.same {x:o3}{o:om (Mc×Rn)}(h:ki CM H x rv o)(s:ic H H'):ki CM H' x rv o:=by
 cases o with
 |none=>exact h|some p=>exact[h.1:h.2.1:h.2.2.same s]
def mo.same {g:Gc}{s:Gs}(h:mo C CM H g s)(sm:ic H H'):mo C CM H' g s:=by
 erw[h,dx,fs,mv,av,rv,ev,e,f,i,j,k,l,<-(dx,fs,mv,av,rv,ev,sm _ _ e,f,i.mono sm.tk,j.mono sm.tk,k.same sm,l.mono sm.tk)]
def yx.put {m:Mc}{r:Rn}{x:o3}{fs:oj (Str×V)}(h:yx CM H m r)(e:H x=u_ (.ins C dx fs))(n:m.x≠x):yx CM (upd H x (.ins C dx fs')) m r:=by
 erw[h,Z,fm,rv,ru,tv,gv,e1,f,i,j,b,U,gl,t];let tk:Tk H (upd H x (.ins C dx fs')):=Tk.updI e;let n1:m.db≠x:=YM.ne e b;let n2:m.dg≠x:=λz=>by rw[z,e,0] at U
 exact(Z,fm,rv,ru,tv,gv,by rwa[qk n],f,i.mono tk,j.mono tk,b.move tk (qk n1),by rwa[qk n2],gl.mono tk,t.mono tk)
def ki.put {x:o3}{fs:oj (Str×V)}{o:om (Mc×Rn)}(h:ki CM H x rv o)(e:H x=u_ (.ins C dx fs)):ki CM (upd H x (.ins C dx fs')) x rv o:=by
 cases o with
 |none=>exact h|some p=>exact[h.1:h.2.1:h.2.2.put e h.2.1]
structure Gv (g:Gc)(H H':Hp):Prop where
 kept:∀b o,H b=u_ o->b≠g.x->H' b=u_ o
 tk:Tk H H'
def Kx {g:Gc}{fs:oj (Str×V)}{mv av ev:V}{s:Gs}(e:H g.x=u_ (.ins C dx fs))(f:GFl fs' (!g.n) (-g.o) mv av rv ev)(i:Is H s.mb mv)(j:Is H (¬s.ra) av)(k:ki CM H g.x rv s.run)(l:Is H s.en ev):
  mo C CM (upd H g.x (.ins C dx fs')) g s/\Gv g H (upd H g.x (.ins C dx fs')):=by
 let tk:Tk H (upd H g.x (.ins C dx fs')):=Tk.updI e;exact⟨(dx,fs',mv,av,rv,ev,qg,f,i.mono tk,j.mono tk,k.put e,l.mono tk),⟨λb o h n=>by rwa[qk n],tk⟩⟩
abbrev oQ (s:Gs)(r:Rn):Gs:=if QQ r.th=v_ then s else{s with en:=r.th}
inductive Om (C CM:Addr):Sp
 |mk (g:Gc)(s:Gs)(m:Mc)(r:Rn)(_:vs= [-g.x])(_:mo C CM H g s)(_:s.run=u_ (m,r))(_:Th r.th)(_:∀H',Gv g H H'->mo C CM H' g (oQ s r)->Q .non H')
section
variable {P:o9}{w:og}{K:o0}{mg:Str->om o6}{base:o8}{a:Ad}{g:Ga}
def Ee:#[T,2,a.wm,a.ZM,["self"],(Om a.qO a.qq)]:=by
 let Qc:=#[qaO,T];let Qa:=#[KG,T];rw[9,T.mi,qaH]
 erw[h,g,st,m,r,rfl,hG,U,aa,k];rw[3,%[|#[qI,#[Qo,#[Qe,#[Qx,#[qQ,5,pv 0,rfl],T.qu,T.im,Qc]]],%[|#[Qn,#[Qx,#[qQ,5,pv 0,rfl],T.qu,T.ik,Qa]]],qp]]]
 erw[id hG,dx,fs,mv,av,rv,ev,e,f,i,j,hR,l];rw[U] at hR;erw[hR,rfl,hn,hM];erw[id hM,dm,fm,ac,ru,tv,gv,em,Z,i1,i2,i3,i4,i5,i6]
 rw[0,g.x,_,dx,fs,0,e,T.qU,T.qZ,f.QB,m.x,dm,fm,1,em,Z.meth _ (),m,r,1,hM,aa,0]
 cases c:QQ r.th with
 |true=>
  refine iU (k H [λ_ _ h _=>h:Tk.refl H] ?_);unfold oQ;rwa[A6 c]
 |false=>
  refine iY ?_
  rw[0,g.x,_,dx,fs,0,e,T.qU,T.qZ,f.QB,m.x,dm,fm,1,em,Z.meth _ (),m,r,1,hM,λv hv=>?_]
  rw[5]
  refine(0,g.x,_,dx,fs,1,e,T.qU,T.yh,by have:=f.len;omega,?_)
  let hS:oQ st r={st with en:=r.th}:=by
   unfold oQ;rw[c];exact A4 uc
  obtain⟨m1,m2⟩:=Kx (CM:=a.qq) (s:={st with en:=r.th}) e (f.set_end (u:=v)) i j (by rw[U];exact[1:hn:hM]) hv
  refine k _ m2 ?_;rw[hS];exact m1
inductive Dp (CM:Addr):Sp
 |mk (o:Addr)(v:V)(rs:List Rw)(own:Str)(_:vs= [-o,v,!own])(_:Is H (jY rs) v)(_:QY rs)(_:nm own=v_)(_:∀(mc:Mc)(H':Hp),ic H H'->H mc.x=U_->H mc.db=U_->H mc.dg=U_->mc.rs=rs->mc.own=own->yx CM H' mc (mU rs own [] 300 B0 1 0)->Q (-mc.x) H')
def D6:#[C,8,a.Y0,a.YV,["self","rule","own"],(Dp a.qq)]:=by
 let QM:=#[wF,T,C];rw[9,T.li,xY]
 erw[h,o,v,rs,own,rfl,hv,hR,hn,k];let hl:=zG hn;let hI:∀H:Hp,Is H (!own) (!own):=λH=>Qi ()
 rw[3,%[|#[qo,#[xD,T.X4,QM,T.X2,T.iL,DO,#v[pv 1,pv 2]]]]]
 rw[0,0,λx dx hx aa nx=>?_];let Z:ic H (upd (upd H dx (.own x)) x (.ins a.qq dx [])):=λb o h=>by rwa[qk (ql h hx),qk (ql h aa)]
 rw[_,x,dx,v,!own,jY rs,!own,1,qg,hv.mono Z.tk,hI _,λz=>?_,λ_ z=>?_,λU af e1 ac e2 ag ah H' db dg kept ad ae hM=>[1:?_]]
 .rw[hR.read,0] at z
 .have:mM (!own)=true:=hn;rw[this,0] at z
 .let e3:U=rs:=by
   let h1:=hR.read;rw[e1,ac.read] at h1;exact uL h1
  rw[e2,0];subst e3;exact k (x,db,dg,U,own) H' (λb o h=>kept b o (Z b o h) (ql h hx)) hx (Z.free ad) (Z.free ae) rfl rfl hM
abbrev R0 (rs:oj Rw)(n:Str):Rn:=mU rs n [] 300 B0 1 0
structure MF (H:Hp)(g:Gc)(d:D)(s s':Gs):Prop where
 mb:s'.mb=s.mb
 ra:s'.ra=s.ra
 lack:d= .non->s'.run=U_/\s'.en=flt "lack"
 rule:d≠ .non->ye d=U_->s'.run=U_/\s'.en=flt "rule"
 go:∀rs,ye d=u_ rs->∃mc:Mc,H mc.x=U_/\H mc.db=U_/\H mc.dg=U_/\mc.rs=rs/\mc.own=g.n/\s'.run=u_ (mc,R0 rs g.n)/\s'.en=if QQ (R0 rs g.n).th=v_ then s.en else(R0 rs g.n).th
inductive Ll (C CM CO:Addr):Sp
 |mk (g:Gc)(s:Gs)(v:V)(d:D)(_:vs= [-g.x,v])(_:mo C CM H g s)(_:s.run=U_)(_:nm g.n=v_)(_:Is H d v)(_:(∃dx fs,H g.o=u_ (.ins CO dx fs)/\fs.lookup ("runner":Str)=U_))(_:∀H' s',Gv g H H'->mo C CM H' g s'->MF H g d s s'->Q .non H')
def AW {n:Str}(h:QY rs):AV rs (R0 rs n):=Ah h 300 B0 1 0 [] rfl Aac () (by have:=h.n0;omega) ⟨1,by simp[dpL],uh _⟩
def Adw {n:Str}(h:QY rs):Th (R0 rs n).th:= .inr (AW h).two
def Bx:#[C,9,a.ze,a.zV,["self","rule"],(Ll a.qO a.qq a.qv)]:=by
 let J7:=#[wM,T,C];let XD:=#[D6,T,C];let xx:=#[Ee,T];rw[9,T.lY,ko]
 erw[h,g,st,v,d,rfl,hG,U,hn,hv,[ad,ae,ho,af],k];let hs:=uB;erw[id hG,dx,fs,mv,av,rv,ev,e,f,i,j,hR,l];rw[U] at hR;rw[3,%[|#[qI,#[qm,yk,pv 1,qR],%[|#[Qn,#[qA,#v[qi,qi]]]],%[|#[qI,#[Qo,#[Qe,#[qt,J7,T.mw,#v[pv 1]]]],%[|#[Qn,#[qA,#v[qi,qi]]]],%[#[Qn,#[Qh,#[qQ,5,pv 0,rfl],T.qD,T.li,XD,#v[pv 1,#[qQ,5,pv 0,rfl]]]]|#[qY,#[Qx,pv 0,T.qU,T.mi,xx]]]]]]]]
 rw[0,1,0];let fl:∀(z:Str) (H:Hp) (l:o3),↑z<=100->H l=U_->Is (upd H l (-[-"fault",!z])) (flt z) (-l):=λz H l hz hl=>Is.new (ds:= [-"fault",!z]) (_,0,Qi (),_,0,Qi (),1) hl
 let aa:↑fs<1000:=by have:=f.len;omega
 let put:∀(z:Str) (t:o3) (H':Hp),↑z<=100->ic H H'->H' t=U_->((d= .non->z="lack")/\(d≠ .non->z="rule"/\ye d=U_))->Q .non (upd (upd H' t (-[-"fault",!z])) g.x (.ins a.qO dx (iN "end" (-t) fs))):=λz t H' hz s' ht hd=>by
  let s1:=s'.trans (qf ht (-[-"fault",!z]));obtain⟨m1,m2⟩:=Kx (CM:=a.qq) (g:=g) (s:={st with en:=flt z}) (s1 _ _ e) (f.set_end (u:=-t)) (i.mono s1.tk) (j.mono s1.tk) (by show ki _ _ _ _ st.run;rwa[U]) (fl z H' t hz ht)
  refine k _ _ [λb o h n=>m2.kept b o (s1 b o h) n:s1.tk.trans m2.tk] m1 (1,1,λh=>⟨U,by rw[hd.1 h]⟩,λh _=>⟨U,by rw[(hd.2 h).1]⟩,λrs h=>?_)
  by_cases c:d= .non
  .rw[c,0] at h
  .rw[(hd.2 c).2,0] at h
 by_cases c:d= .non
 .subst c;rw[show v= .non from hv,0]
  refine iO (u8 rfl) [(sml rfl):λt ht=>?_]
  rw[0,g.x,_,dx,fs,1,(qf ht _) _ _ e,T.qU,T.yh,aa];exact put "lack" t H () (ic.refl _) ht [λ_=>rfl:λh=>A8 rfl h]
 .refine iI (ud (Ju hv c)) ?_
  rw[0,v,d,1,hv,λH1 s1=>[0:?_]];cases hd:ye d with
  |none=>
   refine iY [(sml rfl):λt ht=>?_]
   rw[0,g.x,_,dx,fs,1,(qf ht _) _ _ (s1 _ _ e),T.qU,T.yh,aa];exact put "rule" t H1 () s1 ht [λh=>A8 h c:λ_=>[1:hd]]
  |some rs=>
   refine iU ?_;erw[oC hd,ed,ac];let e1:=s1 _ _ e
   rw[5]
   refine(0,g.x,_,dx,fs,0,e1,T.qU,T.zU,f.WQ,g.o,ad,ae,1,s1 _ _ ho,af,0,0,g.x,_,dx,fs,0,e1,T.qU,T.Yv,f.Z7,g.o,v,rs,g.n,1,by rw[<-ed];exact hv.mono s1.tk,ac,hn,λmc H2 s2 nx nb ng ers ag hM=>?_)
   let e2:=s2 _ _ e1;let Z:=s1.trans s2
   rw[0,g.x,_,dx,fs,1,e2,T.qU,T.qZ,aa];let ah:mc.x≠g.x:=(ql e1 nx).symm;erw[Kx (C:=a.qO) (CM:=a.qq) (g:=g) (s:={st with run:=u_ (mc,R0 rs g.n)}) e2 (f.set_rule_run (u:=-mc.x)) (i.mono Z.tk) (j.mono Z.tk) [1:ah:hM] (l.mono Z.tk),m1,m2]
   erw[id m1,ak,al,_,_,_,_,e3,f3,_]
   rw[0,g.x,ak,al,1,e3,f3.meth _ (),g,_,mc,R0 rs g.n,1,m1,1,Adw ac,λH3 v3 G3=>k H3 _ [λb o h n=>v3.kept b o (m2.kept b o (Z b o h) n) n:(Z.tk.trans m2.tk).trans v3.tk] G3 ?_]
   unfold oQ
   rw[5]
   refine(by split<;>rfl,by split<;>rfl,λh=>A8 h c,(λ_ h=>by rw[hd,0] at h),λam h=>?_)
   rw[hd,0] at h
   rw[5]
   refine(mc,s1.free nx,s1.free nb,s1.free ng,ers,ag,by split<;>rfl,?_)
   split<;>rfl
inductive X5 (C CM:Addr):Sp
 |mk (g:Gc)(s:Gs)(_:vs= [-g.x])(_:mo C CM H g s)(_:((s.run=U_/\∃z,s.mb= .str z/\∀v H',ic H H'->Is H' (-[-"rule",!z]) v->Q v H')\/∃mc r d,s.run=u_ (mc,r)/\r.th= .tup [-"asks",d]/\∀v,Is H d v->Q v H))
abbrev AaW:om (Mc×Rn)->oj D
 |none=> []|some (_,r)=>r.gs
abbrev Ms (s:Gs):D:=-[.tup (s.ra++AaW s.run),s.en]
inductive Ou (C CM:Addr):Sp
 |mk (g:Gc)(s:Gs)(_:vs= [-g.x])(_:mo C CM H g s)(_:↑s.ra+↑(AaW s.run)<=1000)(_:∀v H',ic H H'->Is H' (Ms s) v->Q v H')
variable {v:V}
def Jy {K:o0}{xs ys:oj D}{u:V}(U:Is H (¬xs) v)(Z:Is H (¬ys) u)(hl:↑xs+↑ys<=1000)(k:∀p H',ic H H'->Is H' (.tup (xs++ys)) p->Q p H'):Lr K v u H Q:=by
 erw[id U,a,vs,rfl,ha,ia];erw[id Z,b,us,rfl,hb,ib];let la:=↑ia;let lb:=↑ib;let hs:=uB;rw[_,a,b,vs,us,1,1,SqT.of ha,SqT.of hb,(),λe=>?_,λ_ e=>?_,λ_ _ p hp=>?_]
 .have:xs= []:=List.length_eq_zero_iff.mp (by rw[e] at la;simpa using la.symm)
  rw[this] at k;exact k _ H (ic.refl _) Z
 .have:ys= []:=List.length_eq_zero_iff.mp (by rw[e] at lb;simpa using lb.symm)
  rw[this,vH] at k;exact k _ H (ic.refl _) U
 .let n:=qf hp (.tup (vs++us));exact k _ _ n (p,0,qg,(ia.append ib).mono n.tk)
def D0:#[T,2,a.Xq,a.Xl,["self"],(X5 a.qO a.qq)]:=by
 let Qa:=#[KG,T];rw[9,T.mt,WT]
 erw[h,g,st,rfl,hG,h];let hs:=uB;erw[id hG,dx,fs,mv,av,rv,ev,e,f,i,j,Z,l];rw[3,%[#[qI,#[qm,yk,#[qQ,5,pv 0,rfl],qR],%[|#[qo,#[qA,#v[qi,#[qQ,5,pv 0,rfl]]]]],qp]|#[qo,#[qE,zB,#[Qx,#[qQ,5,pv 0,rfl],T.qu,T.ik,Qa],qh]]]]
 rw[0,g.x,_,dx,fs,0,e,T.qU,T.qZ,f.QB,1,0];rcases h with⟨U,z,hz,k⟩|⟨mc,r,d,U,aa,k⟩
 .rw[U] at Z;rw[show rv= .non from Z,0]
  rw[hz] at i;obtain⟨rfl,hl⟩:=(show mv= .str z/\↑z<=Vg from i)
  refine iO (u8 rfl) (0,g.x,_,dx,fs,0,e,T.qU,T.yX,f.YY,(sml rfl),λt ht=>?_);exact k _ _ (qf ht _) (Is.new (_,0,Qi (),_,0,[1:hl],1) ht)
 .rw[U] at Z;erw[Z,rfl,hn,hM];erw[id hM,dm,fm,ad,ru,tv,gv,em,ac,i1,i2,i3,i4,i5,i6];refine iI (ud (λz=>by rw[z,0])) ?_
  rw[0,g.x,_,dx,fs,0,e,T.qU,T.qZ,f.QB,mc.x,dm,fm,1,em,ac.meth _ (),mc,r,1,hM,λv hv=>?_]
  rw[aa] at hv;exact .inr (.inl (XH (i:=1) (d:=d) hv (qy (j:=1) rfl) λq hq=>k q hq))
def PK:#[T,2,a.ZU,a.Z0,["self"],(Ou a.qO a.qq)]:=by
 let WG:=#[PQ,T];rw[9,T.mJ,X1]
 erw[h,g,st,rfl,hG,hl,k];let hs:=uB;erw[id hG,dx,fs,mv,av,rv,ev,e,f,i,j,hR,l];rw[3,%[#[qF,(1),X1.nd,#[ym,#[qm,yk,#[qQ,5,pv 0,rfl],qR],#[qA,qd],#[Qx,#[qQ,5,pv 0,rfl],T.qu,T.ml,WG]]]|#[qo,#[qA,#v[#[qV,YD,#[qQ,5,pv 0,rfl],pv 1],#[qQ,5,pv 0,rfl]]]]]]
 let fin:∀(v:V) (H1:Hp),ic H H1->Is H1 (.tup (AaW st.run)) v->AcK K (Aaw 0) "rule_asks" [u_ (-g.x),u_ v] H1 λx H2=>Aaw 1 [u_ (-g.x),u_ v] H2 λy H3=>Lr K x y H3 λz H4=>AcK K (Aaw 0) "end" [u_ (-g.x),u_ v] H4 λu H5=> [z,u].length<=Vg/\∀p,H5 p=U_->Q (-p) (upd H5 p (-[z,u])):=λv H1 s1 hv=>by
  rw[0,g.x,_,dx,fs,0,s1 _ _ e,T.qU,T.Ym,f.Yh,0];refine Jy (j.mono s1.tk) hv hl λz H4 s4 i4=>?_;let Z:=s1.trans s4
  rw[0,g.x,_,dx,fs,0,Z _ _ e,T.qU,T.yh,f.f_end,(sml rfl),λp hp=>?_];let n:=qf hp (-[z,ev]);exact k _ _ (Z.trans n) (Is.new (_,0,i4,_,0,l.mono Z.tk,1) hp)
 rw[0,g.x,_,dx,fs,0,e,T.qU,T.qZ,f.QB,1,0];cases U:st.run with
 |none=>
  rw[U] at hR fin;rw[show rv= .non from hR,0]
  refine iO (u8 rfl) [(sml rfl):λt ht=>?_];exact fin _ _ (qf ht _) (Is.new (ds:= []) rfl ht)
 |some p=>
  erw[p,mc,r];rw[U] at hR fin;erw[hR,rfl,hn,hM];erw[id hM,dm,fm,ac,ru,tv,gv,em,aa,i1,i2,i3,i4,i5,i6];refine iI (ud (λz=>by rw[z,0])) ?_
  rw[0,g.x,_,dx,fs,0,e,T.qU,T.qZ,f.QB,mc.x,dm,fm,1,em,aa.meth _ (),mc,r,1,hM,λv H1 s1 hv=>?_]
  exact fin v H1 s1 hv
structure Gw (g:Gc)(o:om (Mc×Rn))(H H':Hp):Prop where
 kept:∀b ob,H b=u_ ob->b≠g.x->(∀mc r,o=u_ (mc,r)->b≠mc.x/\b≠mc.db/\b≠mc.dg)->H' b=u_ ob
 tk:Tk H H'
inductive X7 (C CM CO:Addr):Sp
 |mk (g:Gc)(s:Gs)(v:V)(d:D)(_:vs= [-g.x,v])(_:mo C CM H g s)(_:nm g.n=v_)(_:Is H d v)(_:g.o≠g.x)(_:(∃dx fs,H g.o=u_ (.ins CO dx fs)/\fs.lookup ("runner":Str)=U_))(_:((s.run=U_/\∃z,s.mb= .str z/\∀H' s',Gw g s.run H H'->mo C CM H' g s'->MF H g d {s with ra:= [-[-[-"rule",!z],d]]} s'->Q .non H')\/∃mc r u q,s.run=u_ (mc,r)/\mc.own=g.n/\QY mc.rs/\AV mc.rs r/\r.th= .tup [-"asks",-[!u,q]]/\AU u d=v_/\∀H',Gw g s.run H H'->mo C CM H' g (oQ {s with run:=u_ (mc,mO mc.rs mc.own r d)} (mO mc.rs mc.own r d))->Q .non H'))
variable {r':Rn}
def Adi {g:Gc}{s:Gs}{mc:Mc}{r:Rn}(h:mo C CM H g s)(Z:s.run=u_ (mc,r))(v:Mv mc H H')(hM:yx CM H' mc r'):mo C CM H' g {s with run:=u_ (mc,r')}:=by
 erw[h,dx,fs,mv,av,rv,ev,e,f,i,j,k,l];rw[Z] at k;erw[k,rfl,hn,hm];erw[id hm,dm,fm,aa,ru,tv,gv,em,ac,i1,i2,i3,U,i5,i6];let n1:g.x≠mc.db:=(YM.ne e i3).symm;let n2:g.x≠mc.dg:=λz=>by rw[<-z,e,0] at U
 exact(dx,fs,mv,av,_,ev,v.kept _ _ e hn.symm n1 n2,f,i.mono v.tk,j.mono v.tk,[1:hn:hM],l.mono v.tk)
def LL:#[C,10,a.Z6,a.ZL,["self","answer"],(X7 a.qO a.qq a.qv)]:=by
 let Jc:=#[Bx,T,C];let xx:=#[Ee,T];let Q9:=#[Ek,T,C];rw[9,T.lq,qaj]
 erw[h,Z,st,v,d,rfl,hG,hn,hv,ao,[ap,aq,ho,au],h];let hs:=uB;erw[id hG,dx,fs,mv,av,rv,ev,e,f,i,j,hR,l];rw[3,%[|#[qI,#[qm,yk,#[qQ,5,pv 0,rfl],qR],%[#[Qn,#[qA,#v[#[qA,#v[#[qA,#v[qi,#[qQ,5,pv 0,rfl]]],pv 1]]]]]|#[qY,#[Qh,pv 0,T.qU,T.lY,Jc,#v[pv 1]]]],%[#[qY,#[Qh,#[qQ,5,pv 0,rfl],T.qu,T.iH,Q9,#v[pv 1]]]|#[qY,#[Qx,pv 0,T.qU,T.mi,xx]]]]]]
 rw[0,Z.x,_,dx,fs,0,e,T.qU,T.qZ,f.QB,1,0];rcases h with⟨U,z,hz,k⟩|⟨mc,r,u,q,U,aw,ae,af,ag,aa,k⟩
 .rw[U] at hR;rw[show rv= .non from hR,0]
  refine iO (u8 rfl) ?_;rw[hz] at i;obtain⟨rfl,hl⟩:=(show mv= .str z/\↑z<=Vg from i)
  let ax:↑fs<1000:=by have:=f.len;omega
  rw[0,Z.x,_,dx,fs,0,e,T.qU,T.yX,f.YY,(sml rfl),λt1 ah=>?_];let m1:=qf ah (-[V.str "rule",V.str z]);let k1:Is (upd H t1 (-[V.str "rule",V.str z])) (-[-"rule",!z]) (-t1):=Is.new (_,0,Qi (),_,0,[1:hl],1) ah
  rw[0,(sml rfl),λt2 ak=>?_];let m2:=qf ak (-[V.ref t1,v]);let k2:=Is.new (ds:= [-[-"rule",!z],d]) (_,0,k1,_,0,hv.mono m1.tk,1) ak
  rw[_,(sml rfl),λt3 al=>?_];let m3:=qf al (-[V.ref t2]);let k3:=Is.new (ds:= [-[-[-"rule",!z],d]]) (_,0,k2,1) al;let s3:=(m1.trans m2).trans m3
  rw[0,Z.x,_,dx,fs,1,s3 _ _ e,T.qU,T.Ym,ax];let iz:Is H (!z) (!z):=[1:hl];obtain⟨p1,p2⟩:=Kx (C:=a.qO) (CM:=a.qq) (g:=Z) (s:={st with ra:= [-[-[-"rule",!z],d]]}) (s3 _ _ e) (f.set_rule_asks (u:=-t3)) (by show Is _ st.mb _;rw[hz];exact iz.mono s3.tk) k3 (by show ki _ _ _ _ st.run;rw[U];rfl) (l.mono s3.tk)
  erw[id p1,ac,ad,_,_,_,_,e3,f3,_];let am:=s3.tk.trans p2.tk
  rw[0,Z.x,ac,ad,1,e3,f3.meth _ (),0,Z,_,v,d,1,p1,U,hn,hv.mono am,(ap,aq,p2.kept _ _ (s3 _ _ ho) ao,au),λH4 s4 v4 G4 b4=>k H4 s4 [λb ob h n _=>v4.kept b ob (p2.kept b ob (s3 b ob h) n) n:am.trans v4.tk] G4 (b4.mb,b4.ra,b4.lack,b4.rule,λrs h=>?_)]
  erw[b4.go rs h,mc,c1,c2,c3,c4];let fr:∀b,upd (upd (upd (upd H t1 (-[V.str "rule",V.str z])) t2 (-[V.ref t1,v])) t3 (-[V.ref t2])) Z.x (.ins a.qO dx (iN "rule_asks" (-t3) fs)) b=U_->H b=none:=λb hb=>by
   cases hc:H b with
   |none=>rfl|some ob=>
    by_cases c:b=Z.x
    .rw[c,qg,0] at hb
    .rw[p2.kept b ob (s3 b ob hc) c,0] at hb
  exact(mc,fr _ c1,fr _ c2,fr _ c3,c4)
 .rw[U] at hR;erw[hR,rfl,aB,hM];erw[id hM,dm,fm,aC,ru,tv,gv,em,ay,i1,i2,i3,i4,i5,i6];refine iI (ud (λz=>by rw[z,0])) ?_
  let aA:↑mc.own<=100:=by rw[aw];have:=zG hn;omega
  rw[0,Z.x,_,dx,fs,0,e,T.qU,T.qZ,f.QB,mc.x,dm,fm,1,em,ay.meth _ (),0,mc,r,v,u,q,d,1,hM,af,ag,hv,ae,aA,aa,λH1 v1 M1=>?_]
  .let G1:=Adi hG U v1 M1;erw[id G1,ac,ad,_,_,_,_,e3,f3,_];let hok:=ka (own:=mc.own) ae af (by rw[ag];show decide (("asks":Str)="asks")=v_;exact u8 rfl) (wU aa)
   rw[5]
   refine(0,Z.x,ac,ad,1,e3,f3.meth _ (),Z,_,mc,0,G1,1,.inr hok.two,λH2 v2 G2=>k H2 [λb ob h n1 n2=>v2.kept b ob (v1.kept b ob h (n2 mc r U).1 (n2 mc r U).2.1 (n2 mc r U).2.2) n1:v1.tk.trans v2.tk] G2)
abbrev gfs (n:Str)(o t:o3):oj (Str×V):= [("name",!n),("order",-o),("made_by",.non),("rule_asks",-t),("rule_run",.non),("end",.non)]
def E4 (n:Str)(o t:o3):GFl (gfs n o t) (!n) (-o) .non (-t) .non .non:=by
 rw[1,1,1,1,1,1,?_,(by show 6<=20;decide)]
 intro m hm;simp![GMT,uF,uI,uR] at hm;rcases hm with rfl|rfl|rfl|rfl|rfl<;>rfl
abbrev s0G:Gs:=(.non,[],U_,.non)
inductive Lg (C CM CO:Addr):Sp
 |mk (x dx o:Addr)(n k:Str)(sv:V)(e:D)(_:vs= [-x,!n,sv,-o])(_:H x=u_ (.ins C dx []))(_:Is H (-[!k,e]) sv)(_:nm n=v_)(_:o≠x)(_:(∃dx fs,H o=u_ (.ins CO dx fs)/\fs.lookup ("runner":Str)=U_))(_:∀H' s',(∀b ob,H b=u_ ob->b≠x->H' b=u_ ob)->Tk H H'->mo C CM H' ⟨x,o,n⟩ s'->(k="made"->s'={s0G with mb:=e})->(k≠"made"->MF H ⟨x,o,n⟩ e s0G s')->Q .non H')
def Aai {x:o3}{fs:oj (Str×V)}{P:Hp->Prop}(e:H x=u_ (.ins C dx fs))(h:∀H1,H1 x=u_ (.ins C dx fs')->(∀b ob,H b=u_ ob->b≠x->H1 b=u_ ob)->Tk H H1->P H1):P (upd H x (.ins C dx fs')):=h _ qg (λb ob h n=>by rwa[qk n]) (Tk.updI e)
def LM:#[C,10,a.xp,a.Z3,["self","name","source","order"],(Lg a.qO a.qq a.qv)]:=by
 let Jc:=#[Bx,T,C];rw[9,T.mI,qaz]
 erw[h,x,dx,o,n,k,sv,d,rfl,hx,aa,hn,nox,[ac,ad,ho,ae],q];let hs:=uB;rw[3,%[#[Qn,pv 1],#[Qn,pv 3],#[Qn,qR],#[Qn,#[qA,qd]],#[Qn,qR],#[Qn,qR]|#[qI,#[qm,Qd,#[qE,qB,pv 2,qh],qi],%[|#[Qn,#[qE,qB,pv 2,qh]]],%[|#[qY,#[Qh,pv 0,T.qU,T.lY,Jc,#v[#[qE,qB,pv 2,qh]]]]]]]]
 rw[0,0,x,_,dx,0,hx,T.qU,T.Yv,()]
 refine Aai (P:=nA _ _ _ _) hx λH1 x1 k1 t1=>?_
 rw[5]
 refine(0,0,x,_,dx,0,x1,T.qU,T.zU,by show 1<1000;decide,?_)
 refine Aai (P:=nA _ _ _ _) x1 λH2 x2 k2 t2=>?_
 rw[5]
 refine(0,x,_,dx,0,x2,T.qU,T.yX,by show 2<1000;decide,?_)
 refine Aai (P:=nA _ _ _ _) x2 λH3 x3 k3 t3=>?_
 rw[_,sml rfl,λt ht=>?_];let nxt:=(ql x3 ht).symm;let s4:=qf ht (.tup ([]:oj V))
 rw[5]
 refine(0,x,_,dx,0,s4 _ _ x3,T.qU,T.Ym,by show 3<1000;decide,?_)
 refine Aai (P:=nA _ _ _ _) (s4 _ _ x3) λH5 x5 k5 t5=>?_
 rw[5]
 refine(0,x,_,dx,0,x5,T.qU,T.qZ,by show 4<1000;decide,?_)
 refine Aai (P:=nA _ _ _ _) x5 λH6 x6 k6 t6=>?_
 rw[5]
 refine(0,x,_,dx,0,x6,T.qU,T.yh,by show 5<1000;decide,?_)
 refine Aai (P:=λH=>_) x6 λH7 U k7 t7=>?_;let kp:∀b ob,H b=u_ ob->b≠x->H7 b=u_ ob:=λb ob h nb=>k7 b ob (k6 b ob (k5 b ob (s4 b ob (k3 b ob (k2 b ob (k1 b ob h nb) nb) nb)) nb) nb) nb;let Z:=(((((t1.trans t2).trans t3).trans s4.tk).trans t5).trans t6).trans t7;let U:H7 x=u_ (.ins a.qO dx (gfs n o t)):=U;let eT:H7 t=u_ (.tup ([]:oj V)):=k7 _ _ (k6 _ _ (k5 _ _ qg nxt) nxt) nxt;let i0:Is H7 (-[]) (-t):=(t,[],1,eT,1);let G0:mo a.qO a.qq H7 ⟨x,o,n⟩ s0G:=(dx,_,_,_,_,_,U,E4 n o t,1,i0,1,1);let af:=aa.mono Z;erw[af,p,ws,rfl,hp,w1,r1,rfl,[rfl,ag],w2,r2,rfl,h2,h3];rw[show r2= [] from h3,0]
 rw[0,p,_,_,0,1,SqT.of hp,1,1,0];by_cases ck:k="made"
 .refine iO (u8 (by rw[ck])) (0,p,_,_,0,1,SqT.of hp,1,0,x,_,dx,0,U,T.qU,T.yX,(by show 6<1000;decide),?_)
  erw[Kx (C:=a.qO) (CM:=a.qq) (g:=[x:o:n]) (s:={s0G with mb:=d}) U ((E4 n o t).set_made_by (u:=w2)) h2 i0 rfl rfl,p1,p2]
  exact q _ _ (λb ob h nb=>p2.kept b ob (kp b ob h nb) nb) (Z.trans p2.tk) p1 (λ_=>rfl) λz=>A8 ck z
 .refine iI (ud (λz=>ck (V.str.inj z))) ?_
  rw[0,x,dx,0,U,(E4 n o t).meth _ (),0,p,_,_,0,1,SqT.of hp,1,[x:o:n],s0G,w2,d,1,G0,1,hn,h2,(ac,ad,kp _ _ ho nox,ae),λH8 s8 v8 G8 b8=>q H8 s8 (λb ob h nb=>v8.kept b ob (kp b ob h nb) nb) (Z.trans v8.tk) G8 (λz=>A8 z ck) λ_=>(b8.mb,b8.ra,b8.lack,b8.rule,λrs h=>?_)]
  erw[b8.go rs h,mc,c1,c2,c3,c4];let fr:∀b,H7 b=U_->H b=none:=λb hb=>by
   cases hc:H b with
   |none=>rfl|some ob=>
    by_cases c:b=x
    .rw[c,U,0] at hb
    .rw[kp b ob hc c,0] at hb
  exact(mc,fr _ c1,fr _ c2,fr _ c3,c4)
abbrev jv:D->D
 | .non=>-[-"lack"]| .tup [!k,e]=>if k="leaf" then .tup [-"value",e] else .non|_=> .non
abbrev YN:D->D
 | .tup [!k,e]=>if k="said" then .tup [-"value",e] else -[!k,e]|d=>d
inductive Oi:Sp
 |mk (v:V)(d:D)(_:vs= [v])(_:Is H d v)(_:(d= .non\/∃k e,d=-[!k,e]))(_:∀u H',ic H H'->Is H' (jv d) u->Q u H')
inductive Ln:Sp
 |mk (v:V)(k:Str)(e:D)(_:vs= [v])(_:Is H (-[!k,e]) v)(_:∀u H',ic H H'->Is H' (YN (-[!k,e])) u->Q u H')
def LW:#[T,1,a.WE,a.WW,["end"],Ln]:=by
 rw[9,T.nc,ou]
 erw[h,v,k,e,rfl,Z,q];let hs:=uB;let U:=Z;erw[Z,p,ws,rfl,hp,w1,r1,rfl,[rfl,aa],w2,r2,rfl,h2,h3];rw[show r2= [] from h3,0]
 rw[3,%[|#[qo,#[ym,#[qm,Qd,#[qE,qB,pv 0,qh],qi],#[qA,#v[qi,#[qE,qB,pv 0,qh]]],pv 0]]]]
 rw[0,p,_,_,0,1,SqT.of hp,1,1,0];by_cases c:k="said"
 .refine iO (u8 (by rw[c])) (0,p,_,_,0,1,SqT.of hp,1,(sml rfl),λt ht=>?_)
  refine q _ _ (qf ht _) ?_;unfold YN
  try dsimp only
  rw[A6 c];exact Is.new (_,0,Qi (),_,0,h2,1) ht
 .refine iI (ud (λz=>c (V.str.inj z))) [0:q _ H (ic.refl _) ?_];unfold YN
  try dsimp only
  rw[A4 c];exact U
def Ec:#[T,1,a.JD,a.JF,["source"],Oi]:=by
 rw[9,T.iZ,Zh]
 erw[h,v,d,rfl,Z,hd,q];let hs:=uB;rw[3,%[#[qI,#[qm,yk,pv 0,qR],%[|#[qo,#[qA,#v[qi]]]],qp]|#[qo,#[ym,#[qm,Qd,#[qE,qB,pv 0,qh],qi],#[qA,#v[qi,#[qE,qB,pv 0,qh]]],qR]]]]
 rw[0,1,0];rcases hd with rfl|⟨k,e,rfl⟩
 .rw[show v= .non from Z,0]
  refine iO (u8 rfl) [(sml rfl):λt U=>?_];exact q _ _ (qf U _) (Is.new (_,0,Qi (),1) U)
 .erw[Z,p,ws,rfl,hp,w1,r1,rfl,[rfl,aa],w2,r2,rfl,h2,h3];rw[show r2= [] from h3,0]
  refine iI (ud (λz=>by rw[z,0])) ?_
  rw[0,p,_,_,0,1,SqT.of hp,1,1,0];by_cases c:k="leaf"
  .refine iO (u8 (by rw[c])) (0,p,_,_,0,1,SqT.of hp,1,(sml rfl),λt U=>?_)
   refine q _ _ (qf U _) ?_;unfold jv
   try dsimp only
   rw[A6 c];exact Is.new (_,0,Qi (),_,0,h2,1) U
  .refine iI (ud (λz=>c (V.str.inj z))) (q _ H (ic.refl _) ?_);unfold jv
   try dsimp only
   rw[A4 c];exact(rfl:V.non=V.non)
end
structure Sy where
 G:Type
 fin:G->Bool
 want:G->om Str
 own:G->G
 tk:G->om D->G
 stuck:G->Str->G
 said:G->om D
 g0:Str->om G
 once:Str->om D
 lft:G->Nat
 M:Nat
 ns:oj Str
structure Sy.Ok (Y:Sy):Prop where
 fs:∀g m,Y.fin (Y.stuck g m)=v_
 ss:∀g m,Y.said (Y.stuck g m)=U_
 sf:∀g v,Y.said g=u_ v->Y.fin g=v_
 lo:∀g,Y.fin g=Vd->Y.want g=U_->Y.lft (Y.own g)<Y.lft g
 lt:∀g m a,Y.fin g=Vd->Y.want g=u_ m->Y.lft (Y.tk g a)<Y.lft g
 lk:∀g m,Y.fin g=Vd->Y.lft (Y.stuck g m)<Y.lft g
 l0:∀m g,Y.g0 m=u_ g->Y.lft g<=Y.M
 gn:∀m g,Y.g0 m=u_ g->m>Y.ns
namespace Sy
variable {Y:Sy}
nonrec abbrev Orc:=Str->om (om D)
abbrev step (Y:Sy)(f:Orc)(g:Y.G):Y.G:=if Y.fin g=v_ then g else match Y.want g with
 |none=>Y.own g|some m=>match f m with
  |some a=>Y.tk g a|none=>Y.stuck g m
abbrev it (Y:Sy)(f:Orc):Nat->Y.G->Y.G
 |0,g=>g|k+1,g=>it Y f k (step Y f g)
def wI {f:Orc}{g:Y.G}(h:Y.fin g=v_):step Y f g=g:=by unfold step;rw[A6 h]
def WX {f:Orc}{g:Y.G}(h:Y.fin g=v_):∀k,it Y f k g=g
 |0=>rfl|k+1=>by show it Y f k (step Y f g)=g;rw[wI h];exact WX h k
def kD {f:Orc}:∀(k j:Nat) (g:Y.G),it Y f (k+j) g=it Y f j (it Y f k g)
 |0,j,g=>by rw[T6];rfl|k+1,j,g=>by
  rw[Nat.add_right_comm];show it Y f (k+j) (step Y f g)=_;rw[kD k j]
  rfl
def EJ {f:Orc}(k:Nat)(g:Y.G):it Y f (k+1) g=step Y f (it Y f k g):=kD k 1 g
def Bg (h:Y.Ok){f:Orc}{g:Y.G}(U:Y.fin g=Vd):Y.lft (step Y f g)<Y.lft g:=by
 unfold step;rw[U,A4 uc];cases Z:Y.want g with
 |none=>exact h.lo g U Z|some m=>
  show Y.lft (match f m with|some a=>Y.tk g a|none=>Y.stuck g m)<_
  cases f m with
  |some a=>exact h.lt g m a U Z|none=>exact h.lk g m U
def it_end (h:Y.Ok){f:Orc}:∀(k:Nat) (g:Y.G),Y.lft g<=k->Y.fin (it Y f k g)=v_
 |0,g,hl=>by
  show Y.fin g=v_;cases U:Y.fin g with
  |true=>rfl|false=>have:=Bg (f:=f) h U;omega
 |k+1,g,hl=>by
  show Y.fin (it Y f k (step Y f g))=v_;cases U:Y.fin g with
  |true=>rw[wI U,WX U];exact U|false=>exact it_end h k _ (by have:=Bg (f:=f) h U;omega)
variable {j:Nat}
def Nk {f:Orc}{g:Y.G}{k:Nat}(U:Y.fin (it Y f k g)=v_)(Z:Y.fin (it Y f j g)=v_):it Y f k g=it Y f j g:=by
 rcases f_ k j with h|h
 .erw[Hh h,d,rfl];rw[kD,WX U]
 .erw[Hh h,d,rfl];rw[kD,WX Z]
def AD (h:Y.Ok){f f':Orc}(hm:∀m a,f m=u_ a->f' m=u_ a):∀(k:Nat) (g:Y.G),it Y f' k g=it Y f k g\/((∀j,it Y f j (it Y f k g)=it Y f k g)/\Y.said (it Y f k g)=U_)
 |0,g=> .inl rfl|k+1,g=>by
  show it Y f' k (step Y f' g)=it Y f k (step Y f g)\/_;by_cases c:step Y f' g=step Y f g
  .rw[c];exact AD h hm k _
  .right;let Z:Y.fin g=false:=by
    cases Z:Y.fin g with
    |false=>rfl|true=>exact A8 (by rw[wI Z,wI Z]) c
   let e:∃m,step Y f g=Y.stuck g m:=by
    unfold step at c⊢;rw[Z,A4 uc] at c⊢;rw[A4 uc] at c;cases hw:Y.want g with
    |none=>rw[hw] at c;exact A8 rfl c|some m=>
     rw[hw] at c;simp only at c⊢;cases U:f m with
     |none=>exact[m:1]|some a=>rw[U,hm m a U] at c;exact A8 rfl c
   erw[e,m,e];let e2:it Y f (k+1) g=Y.stuck g m:=by
    show it Y f k (step Y f g)=_;rw[e];exact WX (h.fs g m) k
   rw[e2];exact[WX (h.fs g m):h.ss g m]
def AC (h:Y.Ok){f f':Orc}(hm:∀m a,f m=u_ a->f' m=u_ a){k:Nat}{g:Y.G}{v:D}(U:Y.said (it Y f k g)=u_ v):it Y f' k g=it Y f k g:=by
 rcases AD h hm k g with e|⟨_,e⟩
 .exact e
 .rw[U,0] at e
abbrev Fh (Y:Sy):Nat->Orc
 |0,m=>match Y.g0 m with
  |none=>u_ (Y.once m)|some _=>U_
 |h+1,m=>match Y.g0 m with
  |none=>u_ (Y.once m)|some g=>(Y.said (it Y (Fh Y h) Y.M g)).map u_
variable {m:Str}
def WR (h:Y.g0 m=U_):∀k,Fh Y k m=u_ (Y.once m)
 |0=>by simp![Fh,h]|k+1=>by simp![Fh,h]
def Fh_run {g:Y.G}(h:Y.g0 m=u_ g)(k:Nat):Fh Y (k+1) m=(Y.said (it Y (Fh Y k) Y.M g)).map some:=by simp![Fh,h]
def KQ {g:Y.G}(h:Y.g0 m=u_ g):Fh Y 0 m=none:=by simp![Fh,h]
def IK (h:Y.Ok):∀(k:Nat) (m:Str) (a:om D),Fh Y k m=u_ a->Fh Y (k+1) m=u_ a
 |0,m,a,e=>by
  cases U:Y.g0 m with
  |none=>rw[WR U] at e⊢;exact e|some g=>rw[KQ U,0] at e
 |k+1,m,a,e=>by
  cases U:Y.g0 m with
  |none=>rw[WR U] at e⊢;exact e|some g=>
   rw[Fh_run U] at e⊢;cases Z:Y.said (it Y (Fh Y k) Y.M g) with
   |none=>rw[Z,0] at e|some v=>
    rw[AC h (IK h k) Z];exact e
def Aaa (h:Y.Ok){k:Nat}(U:k<=j){a:om D}(e:Fh Y k m=u_ a):Fh Y j m=u_ a:=by
 erw[Hh U,d,rfl]
 induction d with
 |zero=>exact e|succ d Z=>exact IK h _ _ _ (Z ())
open Classical in
abbrev F (Y:Sy):Orc:=λm=>if h:∃a k,Fh Y k m=u_ a then u_ (choose h) else U_
def F_iff (h:Y.Ok){a:om D}:F Y m=u_ a↔∃k,Fh Y k m=u_ a:=by
 unfold F;constructor
 .intro e;by_cases c:∃a k,Fh Y k m=u_ a
  .rw[dif_pos c] at e;have:=RJ c;rwa[uL e] at this
  .rw[dif_neg c,0] at e
 .rintro⟨k,e⟩;let c:∃a k,Fh Y k m=u_ a:=[a:k:e];rw[dif_pos c];erw[RJ c,j,e2];let e3:=Aaa h (Nat.le_max_left k j) e;let U:=Aaa h (Nat.le_max_right k j) e2;rw[e3] at U;exact U.symm
def Aak (h:Y.Ok){k:Nat}{a:om D}(e:Fh Y k m=u_ a):F Y m=u_ a:=(F_iff h).mpr [k:e]
def Acp (h:Y.Ok)(U:Y.g0 m=U_):F Y m=u_ (Y.once m):=Aak h (WR U 0)
def Dg (h:Y.Ok)(g:Y.G):∃k,∀j,k<=j->step Y (Fh Y j) g=step Y (F Y) g:=by
 unfold step;by_cases Z:Y.fin g=v_
 .exact⟨(0),λj _=>by rw[A6 Z,A6 Z]⟩
 .cases hw:Y.want g with
  |none=>exact[(0):λj _=>rfl]|some m=>
   cases U:F Y m with
   |some a=>
    erw[(F_iff h).mp U,k,e,<-⟨k,λj hj=>by simp![Aaa h hj e,U]⟩]
   |none=>
    rw[_,(0),λj _=>?_];have:Fh Y j m=none:=by
     cases e:Fh Y j m with
     |none=>rfl|some a=>rw[Aak h e,0] at U
    simp![this,U]
def EK (h:Y.Ok):∀(n:Nat) (g:Y.G),∃k,∀j,k<=j->it Y (Fh Y j) n g=it Y (F Y) n g
 |0,g=>[(0):λ_ _=>rfl]|n+1,g=>by
  erw[Dg h g,k1,h1];erw[EK h n (step Y (F Y) g),k2,h2];rw[_,max k1 k2,λj U=>?_];show it Y (Fh Y j) n (step Y (Fh Y j) g)=it Y (F Y) n (step Y (F Y) g);rw[h1 j (),h2 j ()]
def AdJ (h:Y.Ok){g:Y.G}(Z:Y.g0 m=u_ g):F Y m=(Y.said (it Y (F Y) Y.M g)).map some:=by
 cases hs:Y.said (it Y (F Y) Y.M g) with
 |some v=>
  erw[EK h Y.M g,k,e];refine Aak h (k:=k+1) ?_;rw[Fh_run Z,e k (uh _),hs]
  rfl
 |none=>
  show F Y m=U_;cases e:F Y m with
  |none=>rfl|some a=>
   erw[(F_iff h).mp e,k,e];cases k with
   |zero=>rw[KQ Z,0] at e|succ k=>
    rw[Fh_run Z] at e;cases U:Y.said (it Y (Fh Y k) Y.M g) with
    |none=>rw[U,0] at e|some v=>
     rw[<-AC h (λm a q=>Aak h q) U,hs,0] at U
abbrev Wt (Y:Sy)(n m:Str):Prop:=∃g k,Y.g0 n=u_ g/\Y.fin (it Y (F Y) k g)=Vd/\Y.want (it Y (F Y) k g)=u_ m
def C7 (h:Y.Ok){n:Str}(w:Wt Y n m){k:Nat}{a:om D}(e:Fh Y k n=u_ a):∃j b,j<k/\Fh Y j m=u_ b:=by
 erw[w,g,i,hg,hf,hw];cases k with
 |zero=>rw[KQ hg,0] at e|succ k=>
  rw[_,k];rw[Fh_run hg] at e;cases Z:Y.said (it Y (Fh Y k) Y.M g) with
  |none=>rw[Z,0] at e|some v=>
   let U:=h.sf _ _ Z;let eM:=AC h (f':=F Y) (λm a q=>Aak h q) Z;rcases AD h (f:=Fh Y k) (f':=F Y) (λm a q=>Aak h q) i g with ei|⟨ei,es⟩
   .rw[ei] at hf hw;cases hm:Fh Y k m with
    |some b=>exact[b:V9 k:1]|none=>
     let e1:it Y (Fh Y k) (i+1) g=Y.stuck (it Y (Fh Y k) i g) m:=by
      rw[EJ];unfold step;rw[hf,A4 uc,hw];simp![hm]
     let e2:Y.fin (it Y (Fh Y k) (i+1) g)=true:=by rw[e1];exact h.fs _ _
     rw[<-Nk e2 U,e1,h.ss,0] at Z
   .let aa:it Y (Fh Y k) (i+Y.M) g=it Y (Fh Y k) i g:=by rw[kD];exact ei _
    let e3:it Y (Fh Y k) (Y.M+i) g=it Y (Fh Y k) Y.M g:=by rw[kD];exact WX U i
    rw[<-e3,Nat.add_comm,aa,es,0] at Z
inductive Wts (Y:Sy):Str->Str->Prop
 |one {n m:Str}:Wt Y n m->Wts Y n m
 |more {n m l:Str}:Wts Y n m->Wt Y m l->Wts Y n l
def IM (h:Y.Ok){n:Str}(w:Wts Y n m):∀{k:Nat}{a:om D},Fh Y k n=u_ a->∃j b,j<k/\Fh Y j m=u_ b:=by
 induction w with
 |one w=>exact λe=>C7 h w e|more _ w U=>
  intro k a e;erw[U e,j,b,hj,Z];erw[C7 h w Z,i,c,hi,e2,<-(i,c,(),e2)]
def oB (h:Y.Ok){n:Str}(w:Wts Y n n):F Y n=none:=by
 let U:∀k a,Fh Y k n≠u_ a:=by
  intro k
  induction k using Nat.strongRecOn with
  |_ k Z=>
   intro a e;erw[IM h w e,j,b,hj,e1,<-Z j hj b e1]
 cases e:F Y n with
 |none=>rfl|some a=>
  erw[(F_iff h).mp e,k,e,<-A8 e (U k a)]
structure Ss (Y:Sy) where
 stk:oj (Str×Y.G)
 don:oj (Str×Y.G)
abbrev JO (l:oj (Str×Y.G))(m:Str):om Y.G:=(l.find? λp=>decide (p.1=m)).map (·.2)
abbrev yet (S:Ss Y)(m:Str):om (om (om D)):=if m>S.stk.map (·.1) then u_ U_ else match Y.g0 m with
 |none=>u_ (u_ (Y.once m))|some _=>(JO S.don m).map λg=>(Y.said g).map u_
abbrev nxt (S:Ss Y):Ss Y:=match S.stk with
 | []=>S|(n,g)::r=>if Y.fin g=v_ then[r:S.don++ [(n,g)]] else match Y.want g with
  |none=>[(n,Y.own g)::r:S.don]|some m=>match yet S m with
   |some (u_ a)=>[(n,Y.tk g a)::r:S.don]|some U_=>[(n,Y.stuck g m)::r:S.don]|none=>match Y.g0 m with
    |some g'=>[(m,g')::(n,g)::r:S.don]|none=>S
abbrev nx (S:Ss Y):Nat->Ss Y
 |0=>S|k+1=>nxt (nx S k)
abbrev rest (S:Ss Y):oj Str:=Y.ns.filter λm=>decide (m∉S.stk.map (·.1))&&decide (m∉S.don.map (·.1))
abbrev lfts:oj (Str×Y.G)->Nat
 | []=>0|(_,g)::r=>Y.lft g+1+lfts r
abbrev mu (S:Ss Y):Nat:=lfts S.stk+(Y.M+2)*↑(rest S)
variable {S:Ss Y}
def zo (h:yet S m=U_):m∉S.stk.map (·.1)/\(∃g,Y.g0 m=u_ g)/\m∉S.don.map (·.1):=by
 unfold yet at h;by_cases c:m>S.stk.map (·.1)
 .rw[A6 c,0] at h
 .rw[A4 c] at h;cases U:Y.g0 m with
  |none=>rw[U,0] at h|some g=>
   rw[U] at h;simp![Tj] at h;rw[_,c,[g:1],λhm=>?_];erw[Af.mp hm,p,Z,rfl];let h3:(S.don.find? λq=>decide (q.1=p.1))=none:=by simpa [JO] using h
   rw[Ut] at h3;exact h3 p Z (by simp)
variable {l:oj Str}
def KS {p q:Str->Bool}(hl:m>l)(hp:p m=v_)(hq:q m=Vd)(U:∀x,q x=v_->p x=v_):↑(l.filter q)<↑(l.filter p):=by
 induction l with
 |nil=>rw[hl,0]|cons x r Z=>
  let le:↑(r.filter q)<=↑(r.filter p):=by
   clear Z hl
   induction r with
   |nil=>exact uh _|cons y r Z=>
    rw[vR,vR];cases h1:q y with
    |true=>rw[U y h1,A6 rfl,A6 rfl];simp![um];omega|false=>
     rw[A4 uc];split
     .simp![um];omega
     .exact Z
  rw[vR,vR];rcases Ab.mp hl with rfl|hm
  .rw[hp,hq,A6 rfl,A4 uc,um];omega
  .have:=Z hm;cases h1:q x with
   |true=>rw[U x h1,A6 rfl,A6 rfl];simp![um];omega|false=>
    rw[A4 uc];split
    .simp![um];omega
    .exact this
def nxt_mu (h:Y.Ok)(hs:S.stk≠ []):mu (nxt S)<mu S:=by
 erw[S,stk,don];cases stk with
 |nil=>exact A8 rfl hs|cons p r=>
  erw[p,n,g];let same:∀g',Y.lft g'<Y.lft g->mu (⟨(n,g')::r,don⟩:Ss Y)<mu ⟨(n,g)::r,don⟩:=by
   intro g' hl;show Y.lft g'+1+lfts r+(Y.M+2)*_<Y.lft g+1+lfts r+(Y.M+2)*_;let e:rest (⟨(n,g')::r,don⟩:Ss Y)=rest ⟨(n,g)::r,don⟩:=rfl;rw[e];omega
  unfold nxt;simp only;cases U:Y.fin g with
  |true=>
   rw[A6 rfl];show lfts r+(Y.M+2)*_<Y.lft g+1+lfts r+(Y.M+2)*_;let e:rest (⟨r,don++ [(n,g)]⟩:Ss Y)=rest ⟨(n,g)::r,don⟩:=by
    unfold rest
    congr 1
    funext x
    simp![uj,uA,Uy,UE,uF,uI,uR,<-Bool.decide_and];rw[vd];constructor
    .rintro⟨a,b⟩;exact[λz=>z.elim (λz=>b (.inr z)) a:λz=>b (.inl z)]
    .rintro⟨a,b⟩;exact[λz=>a (.inr z):λz=>z.elim b λz=>a (.inl z)]
   rw[e];omega
  |false=>
   rw[A4 uc];cases hw:Y.want g with
   |none=>exact same _ (h.lo g U hw)|some m=>
    simp only;cases hy:yet ([(n,g)::r:don]:Ss Y) m with
    |some o=>
     cases o with
     |some a=>exact same _ (h.lt g m a U hw)|none=>exact same _ (h.lk g m U)
    |none=>
     simp only;erw[zo hy,h1,[g',Z],h2];rw[Z];show Y.lft g'+1+(Y.lft g+1+lfts r)+(Y.M+2)*↑(rest ([(m,g')::(n,g)::r:don]:Ss Y))<Y.lft g+1+lfts r+(Y.M+2)*↑(rest ([(n,g)::r:don]:Ss Y));let e:↑(rest (⟨(m,g')::(n,g)::r,don⟩:Ss Y))<↑(rest (⟨(n,g)::r,don⟩:Ss Y)):=by
      refine KS (m:=m) (h.gn m g' Z) ?_ ?_ ?_
      .simp![uE,vm];exact[h1:h2]
      .simp
      .intro x hx;simp![uE,vm] at hx⊢;exact[λz=>hx.1 (uf _ z):hx.2]
     let l0:=h.l0 m g' Z;let e2:=Nat.mul_le_mul_left (Y.M+2) (Nat.succ_le_of_lt e);rw[Nat.mul_succ] at e2;omega
abbrev Chn (Y:Sy):oj (Str×Y.G)->Prop
 | []=>True|(n,g)::r=>(∃s k,Y.g0 n=u_ s/\g=it Y (F Y) k s)/\Chn Y r/\∀p r',r=p::r'->Y.fin p.2=Vd/\Y.want p.2=u_ n
structure SOk (n0:Str)(S:Ss Y):Prop where
 chn:Chn Y S.stk
 nd:(S.stk.map (·.1)++S.don.map (·.1)).Nodup
 don:∀p>S.don,∃s,Y.g0 p.1=u_ s/\p.2=it Y (F Y) Y.M s
 bot:(S.stk.map (·.1)).getLast? =u_ n0\/S.stk= []/\(S.don.map (·.1)).getLast? =u_ n0
def SR {n:Str}{g:Y.G}:∀{r:oj (Str×Y.G)}{m:Str},Chn Y ((n,g)::r)->m>r.map (·.1)->Wts Y m n:=by
 intro r
 induction r generalizing n g with
 |nil=>intro m _ h;rw[h,0]|cons p r ih=>
  intro m hc hm;erw[p,U,g'];erw[hc,_,Z,c3];erw[c3 (U,g') r rfl,f1,w1];erw[Z.1,s,k,hs,hk];let w:Wt Y U n:=(s,k,hs,by rwa[<-hk],by rwa[<-hk])
  rcases Ab.mp hm with rfl|hm
  .exact .one w
  .exact .more (ih Z hm) w
def Kw {l:oj (Str×Y.G)}{g:Y.G}(h:JO l m=u_ g):(m,g)>l:=by
 unfold JO at h;cases e:l.find? λp=>decide (p.1=m) with
 |none=>rw[e,0] at h|some p=>
  rw[e] at h;rw[uL h,0];have:=V0 e;let hm:p.1=m:=ui this;rw[<-hm];exact vX e
def Abr (h:Y.Ok){n0:Str}(hs:SOk n0 S):SOk n0 (nxt S):=by
 erw[S,stk,don];cases stk with
 |nil=>exact hs|cons p r=>
  erw[p,n,g];erw[hs,chn,nd,U,bot];erw[chn,[s,k,Z,hk],c2,c3];let on:∀g',Y.fin g=Vd->step Y (F Y) g=g'->SOk n0 (⟨(n,g')::r,don⟩:Ss Y):=by
   intro g' hf e;rw[_,[(s,k+1,Z,?_):c2:c3],nd,U,.inl ?_]
   .rw[EJ,<-hk,e]
   .rcases bot with b|⟨b,_⟩
    .exact b
    .rw[b,0]
  unfold nxt;simp only;cases hf:Y.fin g with
  |true=>
   rw[A6 rfl];rw[_,c2,?_,λq hq=>?_,?_]
   .show(r.map (·.1)++(don++ [(n,g)]).map (·.1)).Nodup;let ac:(n::(r.map (·.1)++don.map (·.1))).Nodup:=nd;rw[uj,<-V6];show((r.map (·.1)++don.map (·.1))++ [n]).Nodup;exact(List.perm_append_comm (l₁:= [n]) (l₂:=r.map (·.1)++don.map (·.1))).nodup_iff.mp ac
   .rcases Ae.mp hq with hq|hq
    .exact U q hq
    .rw[Ac.mp hq,0];rw[_,s,Z];show g=_;rw[hk];refine Nk (by rwa[<-hk]) (it_end h _ _ (h.l0 n s Z))
   .rcases bot with b|⟨b,_⟩
    .cases r with
     |nil=>
      right;rw[1];let hn:n=n0:=by simpa using b
      show((don++ [(n,g)]).map (·.1)).getLast? =u_ n0;rw[uj,hn];simp
     |cons q r=>
      left
      simpa [V3] using b
    .rw[b,0]
  |false=>
   rw[A4 uc];let aa:step Y (F Y) g=match Y.want g with
     |none=>Y.own g|some m=>match F Y m with
      |some a=>Y.tk g a|none=>Y.stuck g m:=by
    unfold step;rw[hf,A4 uc]
   cases hw:Y.want g with
   |none=>exact on _ hf (by rw[aa,hw])|some m=>
    rw[hw] at aa;simp only at aa⊢;cases hy:yet ([(n,g)::r:don]:Ss Y) m with
    |some o=>
     let hF:F Y m=o:=by
      unfold yet at hy;by_cases c:m>((n,g)::r).map (·.1)
      .rw[A6 c,0] at hy;let w:Wt Y n m:=(s,k,Z,by rwa[<-hk],by rwa[<-hk])
       rcases Ab.mp c with rfl|hm
       .exact oB h (.one w)
       .exact oB h (.more (SR (g:=g) [(s,k,Z,hk):c2:c3] hm) w)
      .rw[A4 c] at hy;cases hg:Y.g0 m with
       |none=>
        rw[hg,0] at hy;exact Acp h hg
       |some gm=>
        rw[hg] at hy;simp only at hy;cases hd:JO don m with
        |none=>rw[hd,0] at hy|some gd=>
         rw[hd,0] at hy;erw[U _ (Kw hd),s',e1,e2];rw[hg,0] at e1;let e3:gd=it Y (F Y) Y.M gm:=e2;rw[AdJ h hg,e3]
     cases o with
     |some a=>exact on _ hf (by rw[aa,hF])|none=>exact on _ hf (by rw[aa,hF])
    |none=>
     simp only;erw[zo hy,h1,[g',hg],h2];rw[hg];rw[_,[(g',(0),hg,1):[(s,k,Z,hk):c2:c3]:λq r' e=>?_],?_,U,.inl ?_]
     .rw[e,0];exact[hf:hw]
     .show(m::(((n,g)::r).map (·.1)++don.map (·.1))).Nodup;rw[UF];rw[_,λz=>?_,nd];rcases Ae.mp z with z|z
      .exact h1 z
      .exact h2 z
     .rcases bot with b|⟨b,_⟩
      .show(m::n::r.map (·.1)).getLast? =u_ n0;rwa[V3]
      .rw[b,0]
def nx_ok (h:Y.Ok){n0:Str}{S:Ss Y}(U:SOk n0 S):∀k,SOk n0 (nx S k)
 |0=>U|k+1=>Abr h (nx_ok h U k)
def As {S:Ss Y}{k:Nat}(h:(nx S k).stk= []):∀j,nx S (k+j)=nx S k
 |0=>rfl|j+1=>by
  show nxt (nx S (k+j))=_;rw[As h j];unfold nxt;rw[h]
def nx_one {k:Nat}(U:(nx S k).stk= [])(Z:(nx S j).stk= []):nx S k=nx S j:=by
 rcases f_ k j with h|h
 .erw[Hh h,d,rfl,<-(As U d).symm]
 .erw[Hh h,d,rfl,<-As Z d]
abbrev S0 (Y:Sy)(n:Str):Ss Y:=match Y.g0 n with
 |none=>[[]:[]]|some g=>[[(n,g)]:[]]
def S0_ok {n:Str}{g:Y.G}(U:Y.g0 n=u_ g):SOk n (S0 Y n):=by
 unfold S0;rw[U];exact(⟨(g,(0),U,1),trivial,λ_ _ e=>by rw[e,0]⟩,by simp,λ_ h=>(by rw[h,0]),.inl rfl)
end Sy
end K42
namespace K42
open PySem L2 PyProof.Rows
abbrev ThS (d:D):Prop:=(∃z,d=flt z)\/(∃e,d= .tup [-"said",e]/\isT e=v_)\/∃(u z:Str),d= .tup [-"asks",-[!u,!z]]/\isT (!z)=v_/\(u="names"\/(u="thing"\/u="has")/\nm z=v_)
def ER {d:D}(h:mM d=v_):∃z,d= .str z/\nm z=true:=by
 cases d with
 |str z=>exact[z:1:h]|_=>rw[h,0]
variable {own:Str}{n:Nat}{r:Rw}{e:D}
def OK {B:Str->D}{p:Int}(hr:JN n 300 r)(h:Tr B)(U:mL own r B p= .stop e):ThS e:=by
 unfold mL at U;erw[id hr,ks,hk,hp];erw[r,Z,ps];by_cases c1:Z>MKR
 .rw[A6 c1] at U;simp only at U;generalize made Z B own ps=dm at U;let aa:(if isT dm=v_ then Out.go (Bi B (b0 ps) dm) (p+1) else .stop (flt "big"))= .stop e->ThS e:=by
   intro hq;by_cases c:isT dm=v_
   .rw[A6 c,0] at hq
   .rw[A4 c,0] at hq;exact .inl ⟨0⟩
  cases dm with
  |non=>rw[U,0];exact .inl ⟨0⟩|_=>exact aa U
 rw[A4 c1] at U;by_cases c2:Z>ASK
 .rw[A6 c2,0] at U;erw[Wn _ hk c2,_,_,ek];simp only at ek;subst ek;erw[wA hp,z0,z1,rfl,h0,h1];let hT:=h z1 h1;show ThS (sQ Z (B z1));unfold sQ;by_cases d1:Z="names"
  .rw[A6 d1];by_cases d2:isStr (B z1)=v_
   .rw[A6 d2];obtain⟨z,ez⟩:∃z,B z1= !z:=by
     cases hb:B z1 with
     |str z=>exact[z:1]|_=>rw[hb,0] at d2
    rw[ez] at hT⊢;exact .inr (.inr (_,z,1,hT,.inl rfl))
   .rw[A4 d2];exact .inl ⟨0⟩
  .rw[A4 d1];by_cases d2:mM (B z1)=v_
   .rw[A6 d2];erw[ER d2,z,ez,hz];rw[ez] at hT⊢;refine .inr (.inr (_,z,1,hT,.inr [?_:hz]));split
    .exact .inl rfl
    .exact .inr rfl
   .rw[A4 d2];exact .inl ⟨0⟩
 rw[A4 c2] at U;by_cases c3:Z="say"
 .rw[A6 c3,0] at U;subst c3;let ek:=AI _ hk rfl;simp only at ek;subst ek;erw[Acq hp,z0,rfl,h0,<-.inr (.inl [0:h z0 h0])]
 rw[A4 c3] at U;by_cases c4:Z="fault"
 .rw[A6 c4,0] at U;exact .inl ⟨0⟩
 rw[A4 c4] at U;by_cases c5:Nj Z B ps=v_
 .rw[A6 c5,0] at U
 .rw[A4 c5,0] at U
def wr {rs:oj Rw}{own:Str}(Z:QY rs):∀(f:Nat) (B:Str->D) (p:Int) (n:Nat) (gs:oj D),Tr B->1<=p->p<=↑rs+1->ThS (mU rs own gs f B p n).th
 |0,B,p,n,gs,hT,h1,h2=>by
  show ThS (if GT.gt p (↑rs) then flt "silent" else flt "long")
  split<;>exact .inl ⟨0⟩
 |f+1,B,p,n,gs,hT,h1,h2=>by
  unfold mU;by_cases c:GT.gt p (↑rs)
  .rw[A6 c];exact .inl ⟨0⟩
  .rw[A4 c];let U:=Z.ok _ (qaG h1 ())
   let hok:=Ak (own:=own) U hT h1 ()
   cases hO:mL own (JM rs p) B p with
   |go B' p'=>
    rw[hO] at hok;exact wr Z f B' p' (n+1) gs hok.1 hok.2.1 hok.2.2
   |stop e=>exact OK U hT hO
variable {rs:oj Rw}
def SW (U:QY rs){r:Rn}{a:D}(h:AV rs r)(Z:QQ r.th=v_)(ha:Zu a):ThS (mO rs own r a).th:=by
 erw[h.ask Z,k1,_];unfold mO;cases hn:jh a with
 |true=>rw[A6 rfl];exact .inl ⟨0⟩|false=>
  rw[A4 uc];let hT:isT a=true:=by
   rcases ha with rfl|ha
   .rw[hn,0]
   .exact ha
  exact wr U _ _ _ _ _ (qap h.tr hT) (by have:=h.p1;omega) ()
def MS {rs:oj Rw}{own:Str}:∀(f:Nat) (B:Str->D) (p:Int) (n:Nat) (gs:oj D),QQ (mU rs own gs f B p n).th=v_->1<=f/\n<=(mU rs own gs f B p n).n
 |0,B,p,n,gs,h=>by
  let h:QQ (if GT.gt p (↑rs) then flt "silent" else flt "long")=true:=h
  split at h<;>exact A8 h ()
 |f+1,B,p,n,gs,h=>by
  rw[_,()]
  unfold mU at h⊢;by_cases c:GT.gt p (↑rs)
  .rw[A6 c] at h;exact A8 h (show¬QQ (flt "silent")=v_ by decide+kernel)
  .rw[A4 c] at h⊢;cases Z:mL own (JM rs p) B p with
   |go U p'=>
    rw[Z] at h;have:=(MS f U p' (n+1) gs h).2;show n<=(mU rs own gs f U p' (n+1)).n;omega
   |stop e=>
    show n<=(if QQ e=v_ then n else n+1)
    split<;>omega
def Ab4 {r:Rn}{a:D}(h:QQ (mO rs own r a).th=v_):r.n+1<300/\r.n+1<=(mO rs own r a).n:=by
 unfold mO at h⊢;cases hn:jh a with
 |true=>rw[hn,A6 rfl] at h;exact A8 h (show¬QQ (flt "lack")=v_ by decide+kernel)|false=>
  rw[hn,A4 uc] at h;rw[A4 uc];have:=MS _ _ _ _ _ h;exact[():this.2]
structure Gp where
 n:Str
 mb:D
 ra:oj D
 run:om (oj Rw×Rn)
 en:om D
abbrev BY (r:Rn):om D:=if QQ r.th=v_ then U_ else u_ r.th
abbrev AT (g:Gp)(d:D):Gp:=if jh d=v_ then{g with en:=u_ (flt "lack")} else match ye d with
 |none=>{g with en:=u_ (flt "rule")}
 |some rs=>{g with run:=u_ (rs,R0 rs g.n),en:=BY (R0 rs g.n)}
abbrev Y8 (g:Gp)(d:D):Gp:=match g.run with
 |none=>AT {g with ra:= [-[-[-"rule",g.mb],d]]} d
 |some (rs,r)=>{g with run:=u_ (rs,mO rs g.n r d),en:=BY (mO rs g.n r d)}
abbrev YQ (g:Gp):D:=match g.run with
 |none=>-[-"rule",g.mb]|some (_,r)=>wu r.th
abbrev jR (qs:oj (Str×D))(k z:Str):D:=if k="has" then .str (if z>qs.map (·.1) then "yes" else "no") else Cs (Bp [] ((qs.map (·.1)).filter λy=>Gq y z))
abbrev mP (k:Str):Bool:=decide (k="has")||decide (k="names")
abbrev jH (g:Gp):om Str:=match YQ g with
 | .tup [!k,!z]=>if mP k=v_ then U_ else u_ z|_=>U_
abbrev Bw (qs:oj (Str×D))(g:Gp):Gp:=match YQ g with
 | .tup [!k,!z]=>Y8 g (jR qs k z)|_=>{g with en:=u_ (flt "name")}
abbrev Y5:D->om D
 | .tup [!k,v]=>if k="said" then u_ v else U_|_=>U_
abbrev ke (g:Gp):om D:=g.en.bind Y5
abbrev Aad (g:Gp)(m:Str):Gp:={g with en:=u_ (-[-"stuck",!m])}
abbrev Au (g:Gp):Nat:=match g.en with
 |some _=>0|none=>match g.run with
  |none=>302|some (_,r)=>1+(300-r.n)
abbrev g0D (m:Str):D->om Gp
 | .tup [!k,e]=>if k="leaf" then U_ else if k="made" then u_ (m,e,[],U_,U_) else u_ (AT (m,.non,[],U_,U_) e)|_=>U_
abbrev qaN:D->om D
 | .tup [.str _,e]=>u_ e|_=>U_
abbrev SyP (qs:oj (Str×D)):Sy:=⟨Gp,λg=>g.en.isSome,jH,Bw qs,λg a=>Y8 g (a.getD .non),Aad,ke,λm=>g0D m (qH qs m),λm=>qaN (qH qs m),Au,(302),qs.map (·.1)⟩
variable {g:Gp}
def Ez (h:g.run=U_)(d:D):g.en=U_->Au (AT g d)<302:=by
 intro U;unfold AT;split
 .show(0:Nat)<302;omega
 .cases Z:ye d with
  |none=>show(0:Nat)<302;omega|some rs=>
   show(match BY (R0 rs g.n) with|some _=>0|none=>1+(300-(R0 rs g.n).n))<302
   cases BY (R0 rs g.n) with
   |some d=>show(0:Nat)<302;omega|none=>show(1+(300-(R0 rs g.n).n):Nat)<302;omega
def BH (U:g.en=U_)(d:D):Au (Y8 g d)<Au g:=by
 unfold Y8;cases Z:g.run with
 |none=>
  let e:Au g=302:=by unfold Au;rw[U,Z]
  rw[e];exact Ez (g:=(g.n,g.mb,[-[-[-"rule",g.mb],d]],U_,g.en)) rfl d U
 |some p=>
  erw[p,rs,r];let e:Au g=1+(300-r.n):=by unfold Au;rw[U,Z]
  rw[e];show(match BY (mO rs g.n r d) with|some _=>0|none=>1+(300-(mO rs g.n r d).n))<_
  unfold BY;by_cases c:QQ (mO rs g.n r d).th=v_
  .rw[A6 c];have:=Ab4 c;show 1+(300-(mO rs g.n r d).n)<1+(300-r.n);omega
  .rw[A4 c];show 0<1+(300-r.n);omega
variable {qs:oj (Str×D)}{z:Str}
def Yp (h:z∉qs.map (·.1)):qH qs z= .non:=by
 unfold qH;have:(qs.find? λp=>decide (p.1=z))=none:=by
  rw[Ut];intro p U e;exact h (Af.mpr [p:U:ui e])
 rw[this]
 rfl
def yY (qs:oj (Str×D)):(SyP qs).Ok where
 fs:=λ_ _=>rfl
 ss:=λg m=>by
  show Y5 (-[-"stuck",!m])=U_;unfold Y5;exact A4 ()
 sf:=λg v h=>by
  let h:ke g=u_ v:=h;unfold ke at h;show g.en.isSome=v_;cases U:g.en with
  |none=>rw[U,0] at h|some d=>rfl
 lo:=λg Z hw=>by
  let U:g.en=none:=by
   cases U:g.en with
   |none=>rfl|some d=>have Z:g.en.isSome=false:=Z;rw[U,0] at Z
  show Au (Bw qs g)<Au g;unfold Bw;split
  .exact BH U _
  .have:0<Au g:=by
    unfold Au;rw[U];simp only;split<;>omega
   exact this
 lt:=λg m a Z hw=>by
  let U:g.en=none:=by
   cases U:g.en with
   |none=>rfl|some d=>have Z:g.en.isSome=false:=Z;rw[U,0] at Z
  exact BH U _
 lk:=λg m Z=>by
  let U:g.en=none:=by
   cases U:g.en with
   |none=>rfl|some d=>have Z:g.en.isSome=false:=Z;rw[U,0] at Z
  show 0<Au g;unfold Au;rw[U];simp only;split<;>omega
 l0:=λm g h=>by
  let h:g0D m (qH qs m)=u_ g:=h;show Au g<=302;unfold g0D at h;split at h
  .split at h
   .rw[h,0]
   .split at h
    .rw[h,0];exact uh _
    .rw[h,0];exact Ui (Ez rfl _ rfl)
  .rw[h,0]
 gn:=λm g h=>by
  let h:g0D m (qH qs m)=u_ g:=h;show m>qs.map (·.1);by_cases c:m>qs.map (·.1)
  .exact c
  .rw[Yp c,0] at h
abbrev EnS (d:D):Prop:=(∃z,d=flt z)\/(∃e,d= .tup [-"said",e]/\isT e=v_)\/∃z,d=-[-"stuck",!z]
structure GI (g:Gp):Prop where
 n:nm g.n=v_
 run:∀rs r,g.run=u_ (rs,r)->QY rs/\AV rs r/\ThS r.th/\(g.en=U_->QQ r.th=v_)
 no:g.run=U_->g.en=U_->∃z,g.mb= .str z/\nm z=v_
 en:∀d,g.en=u_ d->EnS d
 ra:nL g.ra=v_/\dpL g.ra<=30/\↑g.ra<=1
def AbT {r:Rn}(h:ThS r.th){d:D}(e:BY r=u_ d):EnS d:=by
 unfold BY at e;by_cases c:QQ r.th=v_
 .rw[A6 c,0] at e
 .rw[A4 c,0] at e;rcases h with h|h|⟨u,z,h,_⟩
  .exact .inl h
  .exact .inr (.inl h)
  .rw[h] at c;exact A8 (show decide (("asks":Str)="asks")=v_ from u8 rfl) c
def Ih {r:Rn}(e:BY r=U_):QQ r.th=true:=by
 unfold BY at e;by_cases c:QQ r.th=v_
 .exact c
 .rw[A4 c,0] at e
def Ab8 {n:Str}(h:QY rs):ThS (R0 rs n).th:=wr h 300 B0 1 0 [] Aac () (by have:=h.n0;omega)
def Nr (d:D)(h1:nm g.n=v_)(h2:g.run=U_)(h3:nL g.ra=v_/\dpL g.ra<=30/\↑g.ra<=1):GI (AT g d):=by
 unfold AT;split
 .exact(h1,λrs r e=>(by rw[show g.run=u_ (rs,r) from e,0] at h2),(λ_ e=>by rw[e,0]),λd e=>by rw[e,0];exact .inl ⟨0⟩,h3)
 .cases Z:ye d with
  |none=>exact(h1,λrs r e=>(by rw[show g.run=u_ (rs,r) from e,0] at h2),(λ_ e=>by rw[e,0]),λd e=>by rw[e,0];exact .inl ⟨0⟩,h3)|some rs=>
   let U:=(oC Z).2;exact(h1,λaa r e=>by rw[e,0];exact(U,AW U,Ab8 U,λe=>Ih e),λe _=>(by rw[e,0]),λd e=>AbT (Ab8 U) e,h3)
def AH (h:GI g)(Z:g.en=U_){d:D}(ha:Zu d):GI (Y8 g d):=by
 unfold Y8;cases hr:g.run with
 |none=>
  erw[h.no hr Z,z,hz,_];refine Nr d h.n rfl ?_;let U:nD d=v_/\dp d<=12:=by
   rcases ha with rfl|ha
   .exact⟨1,by simp[dp]⟩
   .exact[jP (yg ha):JE ha]
  rw[hz];rw[_,?_,?_,uh _]
  .simp![nL,nD,U.1,U9]
  .simp![dpL,dp];have:=U.2;omega
 |some p=>
  erw[p,rs,r];erw[h.run rs r hr,k1,k2,k3,k4];let hs:=SW (own:=g.n) k1 k2 (k4 Z) ha;exact(h.n,λaa r' e=>by rw[e,0];exact(k1,ka k1 k2 (k4 Z) ha,hs,λe=>Ih e),λe _=>(by rw[e,0]),λd e=>AbT hs e,h.ra)
def Np (h:GI g)(m:Str):GI (Aad g m):=(h.n,λrs r e=>((h.run rs r e).1,(h.run rs r e).2.1,(h.run rs r e).2.2.1,(λz=>by rw[z,0])),(λ_ e=>by rw[e,0]),λd e=>by rw[e,0];exact .inr (.inr [m:1]),h.ra)
set_option tactic.hygienic true in
def oA:∀(zs U:oj Str),isT (Cs U)=v_->isT (Cs (Bp U zs))=v_
 | [],U,h=>h|z::r,U,h=>by
  unfold Bp;split
  .rename_i c;exact oA r _ c
  .exact h
def XV (Z:Q0 qs){k:Str}(z:Str)(hk:mP k=v_):isT (jR qs k z)=v_/\AU k (jR qs k z)=true:=by
 unfold jR;by_cases c:k="has"
 .rw[A6 c,c];split<;>exact[():()]
 .rw[A4 c];let U:isT (Cs (Bp [] ((qs.map (·.1)).filter λy=>Gq y z)))=true:=oA _ [] ()
  rw[_,U];let hr:Mh (Cs (Bp [] ((qs.map (·.1)).filter λy=>Gq y z)))=true:=by
   show List.all (TV D.str _) mM=v_;rw[U4];intro x hx;erw[Af.mp hx,y,hy,rfl];rcases Bo _ _ _ hy with h|h
   .rw[h,0]
   .exact Z.1.1.1 y (List.mem_filter.mp h).1
  unfold AU;rw[A4 (show¬jh (Cs _)=v_ from uc),A6 U,A4 c,hr,Bool.or_true]
def wJ (h:GI g)(he:g.en=U_)(Z:jH g=U_):∃rs r k z,g.run=u_ (rs,r)/\r.th= .tup [-"asks",-[!k,!z]]/\mP k=v_/\isT (!z)=v_/\Bw qs g=Y8 g (jR qs k z):=by
 unfold jH at Z;cases hr:g.run with
 |none=>
  erw[h.no hr he,z,hz,_];let e:YQ g=-[-"rule",!z]:=by unfold YQ;rw[hr,hz]
  rw[e] at Z;simp![show mP "rule"=Vd by decide+kernel,A4 uc] at Z
  rw[Z,0]
 |some p=>
  erw[p,rs,r];erw[h.run rs r hr,k1,k2,k3,k4];let U:=k4 he;rcases k3 with⟨z,e⟩|⟨d,e,_⟩|⟨u,z,e,ht,hu⟩
  .rw[e] at U;exact A8 U (by show¬decide (("fault":Str)="asks")=v_;decide+kernel)
  .rw[e] at U;exact A8 U (by show¬decide (("said":Str)="asks")=v_;decide+kernel)
  .let e2:YQ g=-[!u,!z]:=by unfold YQ;rw[hr];show wu r.th=_;rw[e];rfl
   rw[e2] at Z;simp only at Z;cases hk:mP u with
   |false=>rw[hk,A4 uc,0] at Z|true=>exact(rs,r,u,z,1,e,hk,ht,by unfold Bw;rw[e2])
variable {m:Str}
def Kg (h:GI g)(he:g.en=U_)(U:jH g=u_ m):nm m=v_/\((g.run=U_/\g.mb= !m)\/∃rs r,g.run=u_ (rs,r)/\r.th=-[-"asks",-[-"thing",!m]]):=by
 unfold jH at U;cases hr:g.run with
 |none=>
  erw[h.no hr he,z,hz,hn];let e:YQ g=-[-"rule",!z]:=by unfold YQ;rw[hr,hz]
  rw[e] at U;simp![show mP "rule"=Vd by decide+kernel,A4 uc] at U
  rw[U,0];exact[hn:.inl [1:hz]]
 |some p=>
  erw[p,rs,r];erw[h.run rs r hr,k1,k2,k3,k4];let Z:=k4 he;rcases k3 with⟨z,e⟩|⟨d,e,_⟩|⟨u,z,e,ht,hu⟩
  .rw[e] at Z;exact A8 Z (by show¬decide (("fault":Str)="asks")=v_;decide+kernel)
  .rw[e] at Z;exact A8 Z (by show¬decide (("said":Str)="asks")=v_;decide+kernel)
  .let e2:YQ g=-[!u,!z]:=by unfold YQ;rw[hr];show wu r.th=_;rw[e];rfl
   rw[e2] at U;simp only at U;rcases hu with rfl|⟨rfl|rfl,hn⟩
   .rw[A6 (),0] at U
   .rw[A4 ()] at U
    rw[U,0];exact[hn:.inr (rs,r,1,e)]
   .rw[A6 (),0] at U
def Nq (Z:Q0 qs)(h:GI g)(U:g.en=U_)(hw:jH g=U_):GI (Bw qs g):=by
 erw[wJ (qs:=qs) h U hw,rs,r,k,z,_,_,hk,_,e];rw[e];exact AH h U (.inr (XV Z z hk).1)
def j7 (Z:Q0 qs)(h:m>qs.map (·.1)):nm m=v_/\∃k e,qH qs m= .tup [!k,e]/\(k="made"->∃z,e= .str z/\nm z=v_)/\(k≠"made"->(k="leaf"\/k="rule")/\isT e=v_):=by
 let hs:=Z.1.2 _ (SO Z.1.1.2 h);erw[hs,[k,e,U],h2,_];let U:qH qs m=-[!k,e]:=U;let h2:oW (qH qs m)=true:=h2;rw[U] at h2;let e1:oW (-[!k,e])=if eqD (!k) (-"made")=v_ then mM e else(eqD (!k) (-"leaf")||eqD (!k) (-"rule"))&&isT e:=rfl
 rw[e1] at h2;let eq:∀y:Str,eqD (!k) (!y)=decide (k=y):=λy=>rfl;rw[eq,eq,eq] at h2;rw[_,Z.1.1.1 m h,k,e,U,λc=>?_,λc=>?_]
 .rw[u8 c,A6 rfl] at h2;exact ER h2
 .rwa[ud c,A4 uc,uE,HR,vm,vm] at h2
set_option tactic.hygienic true in
def EZ (Z:Q0 qs)(h:g0D m (qH qs m)=u_ g):GI g/\g.n=m:=by
 let hm:m>qs.map (·.1):=(yY qs).gn m g h;erw[j7 Z hm,hn,k,e,hd,h1,h2];rw[hd] at h;unfold g0D at h;simp only at h;let U:nL ([]:oj D)=v_/\dpL ([]:oj D)<=30/\↑([]:oj D)<=1:=⟨1,by simp[dpL],uK _⟩
 split at h
 .rw[h,0]
 .split at h
  .rename_i c
   rw[h,0];erw[h1 c,z,rfl,hz,<-⟨(hn,λrs r e=>(by rw[e,0]),λ_ _=>[z:1:hz],λd e=>(by rw[e,0]),U),1⟩]
  .rw[h,0];rw[_,Nr e hn rfl U];unfold AT;split
   .rfl
   .split<;>rfl
def DC (h:GI g){v:D}(e:ke g=u_ v):isT v=true:=by
 unfold ke at e;cases U:g.en with
 |none=>rw[U,0] at e|some d=>
  rw[U] at e;let e:Y5 d=u_ v:=e;rcases h.en d U with⟨z,rfl⟩|⟨x,rfl,Z⟩|⟨z,rfl⟩
  .exact A8 e (by unfold Y5 flt;simp only;rw[A4 ()];exact λh=>by rw[h,0])
  .let e3:Y5 (-[-"said",x])=u_ x:=by unfold Y5;dsimp only;exact A6 rfl
   rw[e3,0] at e;exact Z
  .exact A8 e (by unfold Y5;simp only;rw[A4 ()];exact λh=>by rw[h,0])
def MK (g:Gp)(d:D):(Y8 g d).n=g.n:=by
 unfold Y8;split
 .unfold AT;split
  .rfl
  .split<;>rfl
 .rfl
def Ac4 (qs:oj (Str×D))(g:Gp):(Bw qs g).n=g.n:=by
 unfold Bw;split
 .exact MK _ _
 .rfl
abbrev SGI {qs:oj (Str×D)}(S:Sy.Ss (SyP qs)):Prop:=∀p:Str×Gp,p>S.stk\/p>S.don->GI p.2/\p.2.n=p.1
set_option tactic.hygienic true in
def MG (hq:Q0 qs){S:Sy.Ss (SyP qs)}(h:SGI S){a:om D}(e:Sy.yet S m=u_ (u_ a)):Zu (a.getD .non):=by
 unfold Sy.yet at e;split at e
 .rw[e,0]
 .split at e
  .rename_i U
   rw[e,0];let U:g0D m (qH qs m)=none:=U;show Zu ((qaN (qH qs m)).getD .non);by_cases hm:m>qs.map (·.1)
   .erw[j7 hq hm,hn,k,e,hd,h1,h2];rw[hd] at U⊢;unfold g0D at U;simp only at U;by_cases c:k="leaf"
    .exact .inr (h2 (by rw[c];decide+kernel)).2
    .rw[A4 c] at U;split at U<;>cases U
   .rw[Yp hm];exact .inl rfl
  .cases hd:Sy.JO S.don m with
   |none=>rw[hd,0] at e|some g=>
    rw[hd] at e;let e:(ke g).map u_=u_ a:=uL e;cases Z:ke g with
    |none=>rw[Z,0] at e|some v=>
     rw[Z,0] at e;exact .inr (DC (h (m,g) (.inr (Sy.Kw hd))).1 Z)
def Eo (hq:Q0 qs){S:Sy.Ss (SyP qs)}(h:SGI S):SGI (Sy.nxt S):=by
 erw[S,stk,don];cases stk with
 |nil=>exact h|cons p r=>
  erw[p,n,g];erw[h (n,g) (.inl ug),Z,hn];let on:∀g':Gp,GI g'->g'.n=n->SGI #[Y,(n,g')::r,don]:=by
   intro g' h1 h2 p U;rcases U with U|U
   .rcases Ab.mp U with rfl|U
    .exact[h1:h2]
    .exact h p (.inl (uf _ U))
   .exact h p (.inr U)
  unfold Sy.nxt;simp only;by_cases hf:(SyP qs).fin g=v_
  .rw[A6 hf];intro p U;rcases U with U|U
   .exact h p (.inl (uf _ U))
   .rcases Ae.mp U with U|U
    .exact h p (.inr U)
    .rw[Ac.mp U,0];exact[Z:hn]
  .rw[A4 hf];let he:Gp.en g=none:=by
    cases he:Gp.en g with
    |none=>rfl|some d=>exact A8 (show(Gp.en g).isSome=v_ by rw[he];rfl) hf
   cases hw:(SyP qs).want g with
   |none=>exact on _ (Nq hq Z he hw) ((Ac4 qs g).trans hn)|some m=>
    simp only;cases hy:Sy.yet #[Y,(n,g)::r,don] m with
    |some o=>
     cases o with
     |some a=>exact on _ (AH Z he (MG hq h hy)) ((MK _ _).trans hn)|none=>exact on _ (Np Z m) hn
    |none=>
     erw[Sy.zo hy,_,[g',e],_];simp only;rw[e];intro p U;rcases U with U|U
     .rcases Ab.mp U with rfl|U
      .exact EZ hq e
      .exact h p (.inl U)
     .exact h p (.inr U)
structure Oc where
 (x dx px ls du dr df:o3)
abbrev ofs (o:Oc):oj (Str×V):= [("given_project",-o.px),("stack",-o.ls),("under_way",-o.du),("full_runs",-o.dr),("found",-o.df)]
abbrev OMT:oj Str:= ["go_through","enter","settle","runner","leave","go_on","answer_yet","begin_anew"]
def PX (o:Oc):(ofs o).lookup ("given_project":Str)=u_ (-o.px):=rfl
def LY (o:Oc):(ofs o).lookup ("stack":Str)=u_ (-o.ls):=rfl
def PU (o:Oc):(ofs o).lookup ("under_way":Str)=u_ (-o.du):=rfl
def LZ (o:Oc):(ofs o).lookup ("full_runs":Str)=u_ (-o.dr):=rfl
def L3 (o:Oc):(ofs o).lookup ("found":Str)=u_ (-o.df):=rfl
def kn (o:Oc):∀m>OMT,(ofs o).lookup m=none:=by
 intro m hm;simp![OMT,uF,uI,uR] at hm;rcases hm with rfl|rfl|rfl|rfl|rfl|rfl|rfl|rfl<;>rfl
structure Kp (L:oj o3)(H H':Hp):Prop where
 kept:∀b ob,H b=u_ ob->b∉L->H' b=u_ ob
 tk:Tk H H'
variable {L:oj o3}{H H':Hp}
def Kp.of (s:ic H H'):Kp L H H':=[λb ob h _=>s b ob h:s.tk]
variable {H1 H2:Hp}
def Kp.trans (h:Kp L H H1)(k:Kp L H1 H2):Kp L H H2:=[λb ob e n=>k.kept b ob (h.kept b ob e n) n:h.tk.trans k.tk]
variable {p:o3}
def Kp.updD {xs ys:oj (Key×V)}(h:H p=u_ (.dK xs))(U:p>L):Kp L H (upd H p (.dK ys)):=⟨λb ob e n=>by have nb:b≠p:=(λz=>n (by rwa[z]));rwa[qk nb],Tk.updD h⟩
def wY {κ:Type}[DecidableEq κ](k j:κ):∀kvs:oj (κ×V),iP (JS kvs k) j=if j=k then U_ else iP kvs j
 | []=>by show U_=_;split<;>rfl|p::r=>by
  by_cases c:p.1=k
  .rw[Ij c,wY k j r];by_cases d:j=k
   .rw[A6 d,A6 d]
   .rw[A4 d,A4 d,QR (λz=>d (z.symm.trans c))]
  .rw[Ik c];by_cases d:p.1=j
   .rw[Q2 d,A4 (λz=>c (d.trans z)),Q2 d]
   .rw[QR d,wY k j r,QR d]
variable {C:o3}
def yn.kp {x:o3}(h:yn C H x qs)(k:Kp L H H')(Z:∀p>L,(∃xs,H p=u_ (.lst xs))\/(∃xs,H p=u_ (.dK xs))\/H p=U_):yn C H' x qs:=by
 erw[h,dx,d,o,vs,U,e2,e3,e4];let n1:x∉L:=λz=>by rcases Z x z with⟨_,e⟩|⟨_,e⟩|e<;>rw[e] at U<;>cases U
 let n2:d∉L:=λz=>by rcases Z d z with⟨_,e⟩|⟨_,e⟩|e<;>rw[e] at e2<;>cases e2
 exact(dx,d,o,vs,k.kept _ _ U n1,k.kept _ _ e2 n2,e3,e4.mono k.tk)
structure OAt (CO CP:o3)(H:Hp)(o:Oc)(qs:oj (Str×D)):Prop where
 e:H o.x=u_ (.ins CO o.dx (ofs o))
 p:yn CP H o.px qs
def OAt.kp {CO CP:o3}{o:Oc}(h:OAt CO CP H o qs)(k:Kp L H H')(U:∀p>L,(∃xs,H p=u_ (.lst xs))\/(∃xs,H p=u_ (.dK xs))\/H p=U_):OAt CO CP H' o qs:=by
 rw[_,k.kept _ _ h.e (λz=>?_),h.p.kp k U];let Z:=h.e;rcases U o.x z with⟨_,e⟩|⟨_,e⟩|e<;>rw[e] at Z<;>cases Z
abbrev SY {qs:oj (Str×D)}(S:Sy.Ss (SyP qs))(uk:oj (Key×V)):Prop:=∀m:Str,(iP uk (Vf m)).isSome=decide (m>S.stk.map (·.1))
abbrev C3 {qs:oj (Str×D)}(H:Hp)(S:Sy.Ss (SyP qs))(fk:oj (Key×V)):Prop:=∀(m:Str) (g:Gp),g0D m (qH qs m)=u_ g->
 (∀g':Gp,Sy.JO S.don m=u_ g'->∃v,iP fk (Vf m)=u_ v/\Is H (YN (g'.en.getD .non)) v)/\(Sy.JO S.don m=U_->iP fk (Vf m)=U_)
def C3.mono {S:Sy.Ss (SyP qs)}{fk:oj (Key×V)}(h:C3 H S fk)(t:Tk H H'):C3 H' S fk:=λm g U=>⟨λg' e=>let⟨v,a,b⟩:=(h m g U).1 g' e;[v:a:b.mono t],(h m g U).2⟩
abbrev MC:om (om D)->D->Prop
 |some (u_ v),d=>d=-[-"value",v]|some U_,d=>d=-[-"lack"]|none,d=>∃k r,d= .tup (.str k::r)/\k≠"value"/\k≠"lack"
abbrev nrg (d:D):Prop:=∃k r,d= .tup (.str k::r)/\(k="value"\/k="lack"\/k="fault"\/k="stuck")
abbrev Adu (qs:oj (Str×D))(don:oj (Str×Gp))(m:Str):D:=match g0D m (qH qs m) with
 |none=>jv (qH qs m)|some _=>YN (((Sy.JO (Y:=SyP qs) don m).bind λg:Gp=>g.en).getD .non)
abbrev CZ {qs:oj (Str×D)}(H:Hp)(S:Sy.Ss (SyP qs))(m:Str)(v:V):Prop:=match Sy.yet S m with
 |none=>v= .non|some o=>∃d,Is H d v/\MC o d/\(m∉S.stk.map (·.1)->nrg d/\d=Adu qs S.don m)
inductive AaM (CO CP:Addr):Sp
 |mk (o:Oc)(m:Str)(qs:List (Str×D))(S:Sy.Ss (SyP qs))(uk fk:List (Key×V))(_:vs= [-o.x,!m])(_:OAt CO CP H o qs)(_:Q0 qs)(_:SGI S)(_:H o.du=u_ (.dK uk))(_:SY S uk)(_:H o.df=u_ (.dK fk))(_:C3 H S fk)(_:↑fk<=100000)(_:(∀p>S.don,(SyP qs).fin p.2=v_))(_:∀(v:V)(H':Hp)(fk':List (Key×V)),Kp [o.df] H H'->H' o.df=u_ (.dK fk')->C3 H' S fk'->↑fk'<=↑fk+1->(Sy.yet S m=U_->↑fk'=↑fk)->CZ H' S m v->Q v H')
inductive Dy (CO:Addr):Sp
 |mk (x dx px:Addr)(_:vs= [-x,-px])(_:H x=u_ (.ins CO dx []))(_:∀(o:Oc)(H':Hp),o.x=x->o.dx=dx->o.px=px->(∀b ob,H b=u_ ob->b≠x->H' b=u_ ob)->Tk H H'->H o.ls=U_->H o.du=U_->H o.dr=U_->H o.df=U_-> [o.ls,o.du,o.dr,o.df].Nodup->H' x=u_ (.ins CO dx (ofs o))->H' o.ls=u_ (.lst [])->H' o.du=u_ (.dK [])->H' o.dr=u_ (.dK [])->H' o.df=u_ (.dK [])->Q .non H')
inductive Le:Sp
 |mk (x:_)(y:_)(_:vs= [x,y])(_:Q .non H)
def LA (U:Q0 qs)(h:g0D m (qH qs m)=U_):∃k,jv (qH qs m)= .tup k/\MC (u_ (qaN (qH qs m))) (¬k)/\nrg (¬k):=by
 by_cases hm:m>qs.map (·.1)
 .erw[j7 U hm,hn,k,e,hd,h1,h2];rw[hd] at h⊢;unfold g0D at h;simp only at h;by_cases c:k="leaf"
  .rw[_,[-"value",e],?_,1,[_:0:.inl rfl]];unfold jv;simp only;exact A6 c
  .rw[A4 c] at h;split at h<;>cases h
 .rw[Yp hm];exact[0:1:[_:0:.inr (.inl rfl)]]
def O6 (U:Q0 qs)(h:g0D m (qH qs m)=u_ g):jv (qH qs m)= .non:=by
 erw[j7 U ((yY qs).gn m g h),hn,k,e,hd,h1,h2];rw[hd] at h⊢;unfold g0D at h;simp only at h;by_cases c:k="leaf"
 .rw[A6 c,0] at h
 .unfold jv;simp only;exact A4 c
def Ab2 (h:GI g)(hf:g.en.isSome=v_):MC ((ke g).map u_) (YN (g.en.getD .non)):=by
 cases Z:g.en with
 |none=>rw[Z,0] at hf|some d=>
  unfold ke;rw[Z];show MC ((Y5 d).map u_) (YN d);rcases h.en d Z with⟨z,rfl⟩|⟨x,rfl,hx⟩|⟨z,rfl⟩
  .let U:Y5 (flt z)=none:=by unfold Y5 flt;dsimp only;exact A4 ()
   let e2:YN (flt z)=flt z:=by unfold YN flt;dsimp only;exact A4 ()
   rw[U,e2];exact("fault",[!z],1,(),())
  .let U:Y5 (-[-"said",x])=u_ x:=by unfold Y5;dsimp only;exact A6 rfl
   let e2:YN (-[-"said",x])=-[-"value",x]:=by unfold YN;dsimp only;exact A6 rfl
   rw[U,e2];exact rfl
  .let U:Y5 (-[-"stuck",!z])=none:=by unfold Y5;dsimp only;exact A4 ()
   let e2:YN (-[-"stuck",!z])=-[-"stuck",!z]:=by unfold YN;dsimp only;exact A4 ()
   rw[U,e2];exact("stuck",[!z],1,(),())
def SV (h:GI g)(U:g.en.isSome=v_):nrg (YN (g.en.getD .non)):=by
 cases Z:g.en with
 |none=>rw[Z,0] at U|some d=>
  show nrg (YN d);rcases h.en d Z with⟨z,rfl⟩|⟨x,rfl,hx⟩|⟨z,rfl⟩
  .let e2:YN (flt z)=flt z:=by unfold YN flt;dsimp only;exact A4 ()
   rw[e2];exact[_:0:.inr (.inr (.inl rfl))]
  .let e2:YN (-[-"said",x])=-[-"value",x]:=by unfold YN;dsimp only;exact A6 rfl
   rw[e2];exact[_:0:.inl rfl]
  .let e2:YN (-[-"stuck",!z])=-[-"stuck",!z]:=by unfold YN;dsimp only;exact A4 ()
   rw[e2];exact[_:0:.inr (.inr (.inr rfl))]
section
variable {P:o9}{w:og}{K:o0}{mg:Str->om o6}{base:o8}{a:Ad}{g:Ga}
def LJ:#[T,1,a.ju,a.jw,["self","going"],Le]:=by
 rw[9,T.lD,Xs,U]
 erw[h,x,y,rfl,q];rw[3,%[|OX]]
 exact q
def PR:#[T,1,a.yZ,a.yU,["self","project"],(Dy a.qv)]:=by
 rw[9,T.iT,jW]
 erw[h,x,dx,px,rfl,hx,q];let hs:=uB;rw[3,%[#[Qn,pv 1],#[Qn,#[QE,qd]],#[Qn,Jd],#[Qn,Jd]|#[Qn,Jd]]]
 rw[0,0,x,_,dx,0,hx,T.qD,T.Ql,()]
 rw[_,(sml rfl),λZ h1=>?_];let n1:x≠Z:=ql qg h1
 rw[5]
 refine(0,x,_,dx,0,(qk n1).trans qg,T.qD,T.QJ,by show 1<1000;decide,?_)
 intro l2 h2;let n2:x≠l2:=ql qg h2
 rw[5]
 refine(0,x,_,dx,0,(qk n2).trans qg,T.qD,T.QG,by show 2<1000;decide,?_)
 intro l3 h3;let n3:x≠l3:=ql qg h3
 rw[5]
 refine(0,x,_,dx,0,(qk n3).trans qg,T.qD,T.Qm,by show 3<1000;decide,?_)
 intro l4 h4;let n4:x≠l4:=ql qg h4
 rw[5]
 refine(0,x,_,dx,0,(qk n4).trans qg,T.qD,T.QL,by show 4<1000;decide,?_)
 rw[qk n1.symm] at h1;let U:l2≠Z:=λz=>by rw[z,qk n1.symm,qg,0] at h2
 let k2:H l2=none:=by rwa[qk n2.symm,qk U,qk n2.symm] at h2
 let aa:l3≠l2:=λz=>by rw[z,qk n2.symm,qg,0] at h3
 let ac:l3≠Z:=λz=>by rw[z,qk n1.symm,qk U.symm,qk n1.symm,qg,0] at h3
 let k3:H l3=none:=by rwa[qk n3.symm,qk aa,qk n3.symm,qk ac,qk n3.symm] at h3
 let ad:l4≠l3:=λz=>by rw[z,qk n3.symm,qg,0] at h4
 let ae:l4≠l2:=λz=>by rw[z,qk n2.symm,qk aa.symm,qk n2.symm,qg,0] at h4
 let af:l4≠Z:=λz=>by rw[z,qk n1.symm,qk ac.symm,qk n1.symm,qk U.symm,qk n1.symm,qg,0] at h4
 let k4:H l4=none:=by rwa[qk n4.symm,qk ad,qk n4.symm,qk ae,qk n4.symm,qk af,qk n4.symm] at h4
 let kp:∀b ob,H b=u_ ob->b≠x->(upd (upd (upd (upd (upd (upd (upd (upd (upd H x (.ins a.qv dx (iN "given_project" (V.ref px) []))) Z (.lst [])) x (.ins a.qv dx (iN "stack" (V.ref Z) (iN "given_project" (V.ref px) [])))) l2 (.dK [])) x (.ins a.qv dx (iN "under_way" (V.ref l2) (iN "stack" (V.ref Z) (iN "given_project" (V.ref px) []))))) l3 (.dK [])) x (.ins a.qv dx (iN "full_runs" (V.ref l3) (iN "under_way" (V.ref l2) (iN "stack" (V.ref Z) (iN "given_project" (V.ref px) [])))))) l4 (.dK [])) x (.ins a.qv dx (iN "found" (V.ref l4) (iN "full_runs" (V.ref l3) (iN "under_way" (V.ref l2) (iN "stack" (V.ref Z) (iN "given_project" (V.ref px) []))))))) b=u_ ob:=λb ob h nb=>by
  rwa[qk nb,qk (ql h k4),qk nb,qk (ql h k3),qk nb,qk (ql h k2),qk nb,qk (ql h h1),qk nb]
 refine q (x,dx,px,Z,l2,l3,l4) _ rfl rfl rfl kp ?_ h1 k2 k3 k4 ?_ ?_ ?_ ?_ ?_ ?_
 .rw[5]
  refine[λb xs e=>kp b _ e (λz=>?_):λb xs e=>[xs:kp b _ e (λz=>?_)]:λb xs e=>[xs:kp b _ e (λz=>?_)]]<;>(rw[z,hx,0] at e)
 .simp![UF,uF,uI,uR,Vb,V7,vZ,and_true];exact[[U.symm:ac.symm:af.symm]:[aa.symm:ae.symm]:ad.symm]
 .exact qg
 .rw[qk n1.symm,qk af.symm,qk n1.symm,qk ac.symm,qk n1.symm,qk U.symm,qk n1.symm];exact qg
 .rw[qk n2.symm,qk ae.symm,qk n2.symm,qk aa.symm,qk n2.symm];exact qg
 .rw[qk n3.symm,qk ad.symm,qk n3.symm];exact qg
 .rw[qk n4.symm];exact qg
def LE:#[T,2,a.y8,a.j3,["self","project"],(Dy a.qv)]:=by
 let Z:=#[PR,T];rw[9,T.lU,zS]
 erw[h,x,dx,px,rfl,U,q];rw[3,%[|#[qY,#[Qh,pv 0,T.qD,T.iT,Z,#v[pv 1]]]]]
 exact(0,x,dx,0,U,1,0,x,dx,px,1,U,q)
def M9:#[T,2,a.yI,a.yV,["self","name"],(AaM a.qv a.qK)]:=by
 let qM:=#[yD,T];let YJ:=#[Ec,T];rw[9,T.iG,yH]
 erw[h,o,m,qs,S,uk,fk,rfl,hO,hq,hG,ad,hU,ac,hF,hl,aa,k];let hs:=uB;rw[3,%[#[qI,#[kK,#[pc_din,pv 1,#[qQ,5,pv 0,rfl]]],%[|#[qo,#[qA,#v[qi]]]],qp],#[qF,(2),yH.nd,#[qt,YJ,T.iZ,#v[#[Qh,#[qQ,5,pv 0,rfl],T.Qt,T.ii,qM,#v[pv 1]]]]],#[qI,#[qm,Zq,pv 2,qR],%[|#[Jm,#[qQ,5,pv 0,rfl],pv 1,pv 2]],qp]|#[qo,#[wD,7,QU hr,#[qQ,5,pv 0,rfl],pv 1,(1,1,1,1)]]]]
 rw[0,0,o.x,_,o.dx,_,0,hO.e,T.qD,T.QG,PU o,o.du,0,mT.k (k:=Vf m) ad,0];rw[hU m];by_cases c:m>S.stk.map (·.1)
 .let ey:Sy.yet S m=u_ none:=by unfold Sy.yet;rw[A6 c]
  refine iO (u8 c) [(sml rfl):λt ht=>?_];let s1:=qf ht (-[V.str "ring"]);refine k _ _ fk (Kp.of s1) (s1 _ _ ac) (hF.mono s1.tk) (Ue _) (λ_=>rfl) ?_;unfold CZ;rw[ey];exact(_,Is.new (ds:= [-"ring"]) (_,0,Qi (),1) ht,("ring",[],1,(),()),λz=>A8 c z)
 refine iI (ud c) ?_
 rw[0,o.x,_,o.dx,_,0,hO.e,T.qD,T.Ql,PX o];erw[id hO.p,ae,dp,op,ak,hx,hd,hk,hv]
 rw[_,o.px,ae,0,hx,yj,0,o.px,m,qs,1,hO.p,λv h1 h2=>?_];let af:Is H (qH qs m) v:=by
  by_cases cm:m>qs.map (·.1)
  .exact h1 cm
  .rw[h2 cm,Yp cm];exact rfl
 rw[_,v,qH qs m,1,af,?_,λu H1 s1 hu=>?_]
 .by_cases cm:m>qs.map (·.1)
  .erw[j7 hq cm,_,k,e,hd,_,<-.inr [k:e:hd]]
  .exact .inl (Yp cm)
 let U:=s1 _ _ ac
 rw[0,1,0];cases hg:g0D m (qH qs m) with
 |none=>
  erw[LA hq hg,l,e1,e2,e3];rw[e1] at hu;let ag:u≠ .non:=Ju hu (by intro z;rw[z,0])
  let ey:Sy.yet S m=u_ (u_ (qaN (qH qs m))):=by have Z:=hg;unfold Sy.yet;rw[A4 c,show(SyP qs).g0 m=_ from Z];rfl
  refine iO (by simp[ag]) ?_
  let kp:Kp [o.df] H (upd H1 o.df (.dK (lV fk (Vf m) u))):=(Kp.of s1).trans (Kp.updD U ug)
  rw[0,0,o.x,_,o.dx,_,0,s1 _ _ hO.e,T.qD,T.QL,L3 o,0,o.df,0,C4.k (k:=Vf m) U ()]
  let ah:=hO.kp kp (by intro p hp;rw[Ac.mp hp,0];exact .inr (.inl [_:ac]))
  rw[0,o.x,_,o.dx,_,0,ah.e,T.qD,T.QL,L3 o,o.df,1,.inl [_:.inl qg],0,_,mT.k (k:=Vf m) qg];rw[zR,A6 rfl];refine k _ _ _ kp qg ?_ (yA _ _ _) (λz=>by rw[ey,0] at z) ?_
  .intro m' g' Z;rw[zR,A4 (λz=>by injection z with z;rw[z,hg,0] at Z)]
   exact(hF.mono kp.tk) m' g' Z
  .unfold CZ;rw[ey];exact(_,(hu.mono (Tk.updD U)),e2,λ_=>⟨e3,by unfold Adu;rw[hg];exact e1.symm⟩)
 |some g=>
  rw[O6 hq hg] at hu;rw[show u= .non from hu,0]
  refine iI (by simp) ?_
  rw[0,o.x,_,o.dx,_,0,s1 _ _ hO.e,T.qD,T.QL,L3 o,o.df,1,.inl [_:.inl U],0,_,mT.k (k:=Vf m) U];refine k _ _ fk (Kp.of s1) U (hF.mono s1.tk) (Ue _) (λ_=>rfl) ?_;let ey:Sy.yet S m=(Sy.JO S.don m).map λg=>(ke g).map some:=by have Z:=hg;unfold Sy.yet;rw[A4 c,show(SyP qs).g0 m=_ from Z];rfl
  erw[hF m g hg,f1,f2];unfold CZ;rw[ey];cases hd:Sy.JO S.don m with
  |none=>
   rw[f2 hd];exact rfl
  |some g'=>
   erw[f1 g' hd,y,e1,e2];rw[e1];exact(_,e2.mono s1.tk,Ab2 (hG (m,g') (.inr (Sy.Kw hd))).1 (aa (m,g') (Sy.Kw hd)),λ_=>⟨SV (hG (m,g') (.inr (Sy.Kw hd))).1 (aa (m,g') (Sy.Kw hd)),by unfold Adu;rw[hg,hd];rfl⟩)
structure nJ (g:Gc)(s:Gs)(p:Gp):Prop where
 n:g.n=p.n
 mb:s.mb=p.mb
 ra:s.ra=p.ra
 run:(s.run.map λq=>(q.1.rs,q.2))=p.run
 own:∀mc r,s.run=u_ (mc,r)->mc.own=g.n
 en:s.en=p.en.getD .non
abbrev Aag:om (Mc×Rn)->oj o3
 |none=> []|some (mc,_)=> [mc.x,mc.db,mc.dg]
abbrev plc (g:Gc)(s:Gs):oj o3:=g.x::Aag s.run
def nJ.none {g:Gc}{s:Gs}{p:Gp}(h:nJ g s p)(e:p.run=U_):s.run=none:=by
 have:=h.run;rw[e] at this;cases U:s.run with
 |none=>rfl|some q=>rw[U,0] at this
def nJ.some {g:Gc}{s:Gs}{p:Gp}(h:nJ g s p){rs:oj Rw}{r:Rn}(e:p.run=u_ (rs,r)):∃mc:Mc,s.run=u_ (mc,r)/\mc.rs=rs/\mc.own=g.n:=by
 have:=h.run;rw[e] at this;cases U:s.run with
 |none=>rw[U,0] at this|some q=>
  erw[q,mc,r'];rw[U,0] at this;exact(mc,1,1,h.own mc r' U)
variable {CM:o3}
def mo.frame {g:Gc}{s:Gs}(h:mo C CM H g s)(U:∀b>plc g s,∀ob,H b=u_ ob->H' b=u_ ob)(t:Tk H H'):mo C CM H' g s:=by
 erw[h,dx,fs,mv,av,rv,ev,e,f,i,j,k,l];rw[_,dx,fs,mv,av,rv,ev,U _ ug _ e,f,i.mono t,j.mono t,?_,l.mono t];cases Z:s.run with
 |none=>rwa[Z] at k|some q=>
  erw[q,mc,r];let hp:plc g s= [g.x,mc.x,mc.db,mc.dg]:=by unfold plc Aag;rw[Z]
  rw[hp] at U;rw[Z] at k;erw[k,k1,k2,dm,fm,aa,ru,tv,gv,em,ac,i1,i2,[bf,ib,jb],i4,i5,i6,<-(k1,k2,dm,fm,aa,ru,tv,gv,U _ (by simp) _ em,ac,i1.mono t,i2.mono t,⟨bf,U _ (by simp) _ ib,λz hz=>(jb z hz).mono t⟩,U _ (by simp) _ i4,i5.mono t,i6.mono t)]
def mo.there {g:Gc}{s:Gs}(h:mo C CM H g s):∀b>plc g s,∃ob,H b=u_ ob:=by
 erw[h,dx,fs,mv,av,rv,ev,e,f,i,j,k,l];intro b U;rcases Ab.mp U with rfl|U
 .exact[_:e]
 .cases Z:s.run with
  |none=>rw[Z,0] at U|some q=>
   erw[q,mc,r];rw[Z] at U k;erw[k,k1,k2,dm,fm,aa,ru,tv,gv,em,ac,i1,i2,[bf,ib,jb],i4,i5,i6];simp![Aag,uF,uI,uR] at U;rcases U with rfl|rfl|rfl
   .exact[_:em]
   .exact[_:ib]
   .exact[_:i4]
def IE {g:Gc}{d:D}{s s':Gs}{p:Gp}(b:MF H g d s s')(h:nJ g s p)(Z:p.run=U_)(he:p.en=U_):nJ g s' (AT p d)/\∀c>plc g s',c=g.x\/H c=none:=by
 let hr:=h.none Z;let aa:s.en= .non:=by rw[h.en,he];rfl
 let nil:s'.run=U_->∀c>plc g s',c=g.x\/H c=none:=λe c U=>by
  unfold plc at U;rw[e] at U;rcases Ab.mp U with z|z
  .exact .inl z
  .rw[z,0]
 unfold AT;by_cases c:d= .non
 .erw[b.lack c,b1,b2];rw[A6 (by rw[c];rfl)]
  exact⟨(h.n,b.mb.trans h.mb,b.ra.trans h.ra,(by show _=p.run;rw[b1,Z];rfl),(λmc r e=>by rw[b1,0] at e),b2),nil b1⟩
 .rw[A4 (λz=>c (by cases d with|non=>rfl|_=>rw[z,0]))]
  cases hd:ye d with
  |none=>
   erw[b.rule c hd,b1,b2,<-⟨(h.n,b.mb.trans h.mb,b.ra.trans h.ra,(by show _=p.run;rw[b1,Z];rfl),(λmc r e=>by rw[b1,0] at e),b2),nil b1⟩]
  |some rs=>
   erw[b.go rs hd,mc,c1,c2,c3,c4,c5,c6,c7];rw[_,(h.n,b.mb.trans h.mb,b.ra.trans h.ra,?_,λac r e=>?_,?_),λc U=>?_]
   .rw[c6];show u_ (mc.rs,R0 rs g.n)=u_ (rs,R0 rs p.n);rw[c4,h.n]
   .rw[c6,0] at e;exact c5
   .rw[c7,h.n,aa];show _=(BY (R0 rs p.n)).getD .non;unfold BY;split<;>rfl
   .unfold plc at U;rw[c6] at U;simp![Aag,uF,uI,uR] at U;rcases U with z|rfl|rfl|rfl
    .exact .inl z
    .exact .inr c1
    .exact .inr c2
    .exact .inr c3
abbrev oy:om (oj Rw×Rn)->oj D
 |none=> []|some (_,r)=>r.gs
abbrev Xc (p:Gp):D:=-[.tup (p.ra++oy p.run),p.en.getD .non]
def BQ {g:Gc}{s:Gs}{p:Gp}(h:nJ g s p):Ms s=Xc p:=by
 unfold Ms Xc;rw[h.ra,h.en];let e:AaW s.run=oy p.run:=by
  rw[<-h.run];cases s.run with
  |none=>rfl|some q=>rfl
 rw[e]
def Mq {p:Gp}(h:GI p):↑p.ra+↑(oy p.run)<=1000:=by
 let h1:=h.ra.2.2;cases U:p.run with
 |none=>show _+0<=1000;omega|some q=>
  erw[q,rs,r];let h2:=(h.run rs r U).2.1;let h3:=h2.gs.2.2;let h4:=h2.n;show _+↑r.gs<=1000;omega
inductive Lj (CO CP CG CM:Addr):Sp
 |mk (o:Oc)(m:Str)(qs:List (Str×D))(xs:List V)(uk:List (Key×V))(p:Gp)(_:vs= [-o.x,!m])(_:OAt CO CP H o qs)(_:Q0 qs)(_:H o.ls=u_ (.lst xs))(_:↑xs<=100000)(_:H o.du=u_ (.dK uk))(_:↑uk<=100000)(_:g0D m (qH qs m)=u_ p)(_:∀(g:Gc)(s:Gs)(H':Hp),Kp [o.ls,o.du] H H'->H' o.ls=u_ (.lst (xs++ [-g.x]))->H' o.du=u_ (.dK (lV uk (Vf m) (.bl v_)))->mo CG CM H' g s->nJ g s p->g.o=o.x->(∀b>plc g s,H b=U_)->Q .non H')
inductive Do (CO CP CG CM:Addr):Sp
 |mk (o:Oc)(qs:List (Str×D))(g:Gc)(s:Gs)(p:Gp)(rk fk:List (Key×V))(_:vs= [-o.x,-g.x])(_:OAt CO CP H o qs)(_:mo CG CM H g s)(_:nJ g s p)(_:GI p)(_:p.en.isSome=v_)(_:H o.dr=u_ (.dK rk))(_:↑rk<=100000)(_:H o.df=u_ (.dK fk))(_:↑fk<=100000)(_:o.dr≠o.df)(_:o.dr∉plc g s)(_:o.df∉plc g s)(_:∀(v1 v2:V)(H':Hp),Kp [o.dr,o.df] H H'->H' o.dr=u_ (.dK (lV rk (Vf g.n) v1))->Is H' (Xc p) v1->H' o.df=u_ (.dK (lV fk (Vf g.n) v2))->Is H' (YN (p.en.getD .non)) v2->Q .non H')
set_option tactic.hygienic true in
def LS:#[C,12,a.jo,a.jl,["self","name"],(Lj a.qv a.qK a.qO a.qq)]:=by
 let qM:=#[yD,T];let U:=#[LM,T,C];rw[9,T.iQ,XC]
 erw[h,o,m,qs,xs,uk,p,rfl,hO,hq,Z,aq,aa,au,hp,k];let hs:=uB;rw[3,%[#[qY,#[YS,uM,vK,vL,Y7,#[qQ,5,pv 0,rfl],#v[#[xD,T.M_Going,U,T.m_Going,T.mI,qC,#v[pv 1,#[Qh,#[qQ,5,pv 0,rfl],T.Qt,T.ii,qM,#v[pv 1]],pv 0]]]]]|#[Jm,#[qQ,5,pv 0,rfl],pv 1,Yx]]]
 rw[0,o.x,_,o.dx,_,0,hO.e,T.qD,T.QJ,LY o,.inl [1:_:SqL.of Z]]
 rw[0,0,o.x,_,o.dx,_,0,hO.e,T.qD,T.Ql,PX o];erw[id hO.p,al,dp,op,aw,hx,hd,hk,hv]
 rw[_,o.px,al,0,hx,yj,0,o.px,m,qs,1,hO.p,λsv h1 h2=>?_];let hm:m>qs.map (·.1):=(yY qs).gn m p hp;let ag:=h1 hm;erw[j7 hq hm,hn,kk,e,am,g1,g2];rw[am] at ag hp
 rw[0,λx dx ac ah nx=>?_];let s0:ic H (upd (upd H dx (.own x)) x (.ins a.qO dx [])):=λb o h=>by rwa[qk (ql h ac),qk (ql h ah)]
 let nox:o.x≠x:=ql hO.e ac
 rw[_,x,dx,o.x,m,kk,sv,e,1,qg,ag.mono s0.tk,hn,nox,(_,_,s0 _ _ hO.e,kn o _ ()),λH1 s1 ao ax G1 b1 b2=>[1:?_]]
 let ad:ic H H1:=λb ob h=>ao b ob (s0 b ob h) (ql h ac);let rel:nJ ⟨x,o.x,m⟩ s1 p/\∀c>plc ⟨x,o.x,m⟩ s1,H c=none:=by
  unfold g0D at hp;simp only at hp;split at hp
  .rw[hp,0]
  .split at hp
   .rename_i c
    rw[hp,0];let e1:=b1 c;rw[e1]
    rw[_,(1,1,1,1,(λ_ _ z=>by rw[z,0]),1),λc hc=>?_]
    rcases Ab.mp hc with rfl|hc
    .exact ac
    .rw[hc,0]
   .rename_i c
    rw[hp,0];obtain⟨r1,r2⟩:=IE (p:=(m,.non,[],U_,U_)) (b2 c) (1,1,1,1,(λ_ _ z=>by rw[z,0]),1) rfl rfl
    rw[_,r1,λc hc=>?_];rcases r2 c hc with rfl|hc
    .exact ac
    .exact s0.free hc
 rw[_,o.ls,xs,0,1,ad _ _ Z,()]
 let ak:Kp [o.ls,o.du] H1 (upd H1 o.ls (.lst (xs++ [-x]))):=⟨λb ob h n=>by rw[qk (λz=>n (by rw[z];exact ug))];exact h,iK.tk (p:=o.ls) (λb ob h n=>by rwa[qk n]) (ad _ _ Z) qg⟩
 let n1:o.du≠o.ls:=λz=>by rw[z,Z,0] at aa
 let ae:upd H1 o.ls (.lst (xs++ [-x])) o.du=u_ (.dK uk):=by rw[qk n1];exact ad _ _ aa
 let n2:o.x≠o.ls:=λz=>by have:=hO.e;rw[z,Z,0] at this
 let n3:o.x≠o.du:=λz=>by have:=hO.e;rw[z,aa,0] at this
 rw[0,o.x,_,o.dx,_,0,(by rw[qk n2];exact ad _ _ hO.e),T.qD,T.QG,PU o,0,o.du,0,C4.k (k:=Vf m) ae ()]
 let ap:=((Kp.of (L:= [o.ls,o.du]) ad).trans ak).trans (Kp.updD (ys:=lV uk (Vf m) (.bl v_)) ae (uf _ ug));refine k [x:o.x:m] s1 _ ap (by rw[qk n1.symm];exact qg) qg (G1.frame (λb hb ob h=>?_) ((ak.trans (Kp.updD (ys:=lV uk (Vf m) (.bl v_)) ae (uf _ ug)))).tk) rel.1 rfl rel.2
 let af:=rel.2 b hb;let m1:b≠o.ls:=λz=>by rw[z,Z,0] at af
 let m2:b≠o.du:=λz=>by rw[z,aa,0] at af
 rw[qk m2,qk m1];exact h
def D5:#[T,3,a.ja,a.YX,["self","going"],(Do a.qv a.qK a.qO a.qq)]:=by
 let U:=#[PK,T];let Z:=#[LW,T];let X9:=#[LJ,T];rw[9,T.lh,xV]
 erw[h,o,qs,g,st,p,rk,fk,rfl,hO,hG,hR,hI,af,ad,aA,ag,aB,ah,nr,nf,k];let hs:=uB;rw[3,%[#[Jm,#[qQ,5,pv 0,rfl],#[qQ,5,pv 1,rfl],#[Qx,pv 1,T.qU,T.mJ,U]],#[Jm,#[qQ,5,pv 0,rfl],#[qQ,5,pv 1,rfl],#[qt,Z,T.nc,#v[#[qQ,5,pv 1,rfl]]]]|#[qY,#[Qh,pv 0,T.qD,T.lD,X9,#v[pv 1]]]]]
 erw[id hG,dx,fs,mv,av,rv,ev,e,f,i,j,aC,l];let ax:o.dr≠g.x:=λz=>nr (by rw[z];exact ug)
 let aD:o.df≠g.x:=λz=>nf (by rw[z];exact ug)
 let ak:o.x≠o.dr:=λz=>by have:=hO.e;rw[z,ad,0] at this
 let al:o.x≠o.df:=λz=>by have:=hO.e;rw[z,ag,0] at this
 let am:↑(AaW st.run)=↑(oy p.run):=by
  have:=BQ hR;unfold Ms Xc at this;simp![D.tup.injEq,UB] at this;have:=this.1;rw[hR.ra] at this;rw[List.append_cancel_left this]
 rw[0,g.x,dx,fs,1,e,f.meth _ (),g,st,1,hG,(by rw[hR.ra,am];exact Mq hI),λv1 H1 s1 i1=>?_]
 rw[BQ hR] at i1
 rw[0,o.x,_,o.dx,_,0,s1 _ _ hO.e,T.qD,T.Qm,LZ o,0,g.x,_,dx,fs,0,s1 _ _ e,T.qU,T.Yv,f.Z7,o.dr,0,C4.k (k:=Vf g.n) (s1 _ _ ad) ()]
 let ae:Kp [o.dr,o.df] H (upd H1 o.dr (.dK (lV rk (Vf g.n) v1))):=(Kp.of s1).trans (Kp.updD (s1 _ _ ad) ug);generalize aa:upd H1 o.dr (.dK (lV rk (Vf g.n) v1))=H2 at ae⊢;let ao:H2 o.dr=u_ (.dK (lV rk (Vf g.n) v1)):=by rw[<-aa];exact qg
 let e2:H2 g.x=u_ (.ins a.qO dx fs):=by rw[<-aa,qk ax.symm];exact s1 _ _ e
 let ap:H2 o.x=u_ (.ins a.qv o.dx (ofs o)):=by rw[<-aa,qk ak];exact s1 _ _ hO.e
 let ac:H2 o.df=u_ (.dK fk):=by rw[<-aa,qk ah.symm];exact s1 _ _ ag
 let i2:Is H2 (Xc p) v1:=i1.mono (by rw[<-aa];exact Tk.updD (s1 _ _ ad))
 let l2:Is H2 (p.en.getD .non) ev:=by rw[<-hR.en];exact l.mono ae.tk
 obtain⟨kk,ee,aq⟩:∃kk ee,p.en.getD .non=-[!kk,ee]:=by
  cases au:p.en with
  |none=>rw[au,0] at af|some d=>
   rcases hI.en d au with⟨z,rfl⟩|⟨x,rfl,_⟩|⟨z,rfl⟩
   .exact[_:0]
   .exact[_:0]
   .exact[_:0]
 rw[0,g.x,_,dx,fs,0,e2,T.qU,T.yh,f.f_end,ev,kk,ee,1,(by rwa[<-aq]),λv2 H3 s3 i3=>?_]
 rw[<-aq] at i3
 rw[0,o.x,_,o.dx,_,0,s3 _ _ ap,T.qD,T.QL,L3 o,0,g.x,_,dx,fs,0,s3 _ _ e2,T.qU,T.Yv,f.Z7,o.df,0,C4.k (k:=Vf g.n) (s3 _ _ ac) ()]
 let aw:Tk H3 (upd H3 o.df (.dK (lV fk (Vf g.n) v2))):=Tk.updD (s3 _ _ ac);let ay:Kp [o.dr,o.df] H (upd H3 o.df (.dK (lV fk (Vf g.n) v2))):=(ae.trans (Kp.of s3)).trans (Kp.updD (s3 _ _ ac) (uf _ ug))
 rw[0,o.x,o.dx,0,(by rw[qk al];exact s3 _ _ ap),kn o _ (),0,_,0]
 exact k v1 v2 _ ay (by rw[qk ah];exact s3 _ _ ao) (i2.mono (s3.tk.trans aw)) qg (i3.mono aw)
end
variable {v:V}
def zC:Vz ("looked_up":Str) [(("by_name":Str),v)]=none:=by rfl
def Acu (k:Str):inV (V.str k) [V.str "has",V.str "names"]=mP k:=by
 let h:=Jw k ["has","names"];refine h.trans ?_;unfold mP;rw[<-Bool.decide_or,vd];simp
section
variable {C CM CO:o3}{H:Hp}{g:Gc}{s:Gs}{p:Gp}{Q:VK}{E:XK}
def NJ (G:mo C CM H g s)(R:nJ g s p)(I:GI p)(U:p.en=U_)(Z:jH p=u_ m)(k:∀kd v H',ic H H'->mP kd=Vd->Is H' (-[!kd,!m]) v->Q v H'):X5 C CM [-g.x] H Q E:=by
 erw[Kg I U Z,hn,h];rw[_,g,s,1,G];rcases h with⟨h1,h2⟩|⟨rs,r,h1,h2⟩
 .exact .inl (R.none h1,m,by rw[R.mb,h2],λv H' s' i=>k _ v H' s' () i)
 .erw[R.some h1,mc,e1,e2,e3,<-.inr (mc,r,_,e1,h2,λv i=>k _ v H (ic.refl _) () i)]
def IO (G:mo C CM H g s)(R:nJ g s p)(I:GI p)(U:p.en=U_)(Z:jH p=U_)(k:∀rs r kd z v,p.run=u_ (rs,r)->r.th= .tup [-"asks",-[!kd,!z]]->mP kd=v_->isT (!z)=v_->Bw qs p=Y8 p (jR qs kd z)->Is H (-[!kd,!z]) v->Q v H):X5 C CM [-g.x] H Q E:=by
 erw[wJ (qs:=qs) I U Z,rs,r,kd,z,h1,h2,h3,h4,h5];erw[R.some h1,mc,e1,e2,e3,<-(g,s,1,G,.inr (mc,r,_,e1,h2,λv i=>k rs r kd z v h1 h2 h3 h4 h5 i))]
def Dd (G:mo C CM H g s)(R:nJ g s p)(I:GI p)(he:p.en=U_){d:D}{v:V}(hv:Is H d v)(Z:∀rs r,p.run=u_ (rs,r)->∃u q,r.th= .tup [-"asks",-[!u,q]]/\AU u d=v_)(aa:g.o≠g.x)(ho:∃dx fs,H g.o=u_ (.ins CO dx fs)/\fs.lookup ("runner":Str)=U_)
  (k:∀H' s',Gw g s.run H H'->mo C CM H' g s'->nJ g s' (Y8 p d)->(∀b>plc g s',b>plc g s\/H b=U_)->Q .non H'):X7 C CM CO [-g.x,v] H Q E:=by
 refine(g,s,v,d,1,G,by rw[R.n];exact I.n,hv,aa,ho,?_)
 cases U:p.run with
 |none=>
  erw[I.no U he,z,hz,_];let hr:=R.none U;refine .inl (hr,z,by rw[R.mb,hz],λH' s' w G' b=>?_)
  obtain⟨r1,r2⟩:=IE (p:=(p.n,p.mb,[-[-[-"rule",p.mb],d]],U_,U_)) b (R.n,R.mb,(by show _= [D.tup [-[-"rule",p.mb],d]];rw[hz]),(by show s.run.map _=U_;rw[hr];rfl),R.own,(by show s.en= .non;rw[R.en,he];rfl)) rfl rfl
  refine k H' s' w G' ?_ λc hc=>?_
  .have:Y8 p d=AT (p.n,p.mb,[-[-[-"rule",p.mb],d]],U_,U_) d:=by
    unfold Y8;rw[U];show AT (p.n,p.mb,_,U_,p.en) d=_;rw[he]
   rwa[this]
  .rcases r2 c hc with rfl|h
   .exact .inl ug
   .exact .inr h
 |some q=>
  erw[q,rs,r];erw[R.some U,mc,e1,e2,e3];erw[I.run rs r U,k1,k2,k3,k4];erw[Z rs r U,u,q,h1,h2];subst e2;refine .inr (mc,r,u,q,e1,e3,k1,k2,h1,h2,λH' w G'=>?_);let ee:Y8 p d={p with run:=u_ (mc.rs,mO mc.rs p.n r d),en:=BY (mO mc.rs p.n r d)}:=by unfold Y8;rw[U]
  refine k H' _ w G' ?_ ?_
  .rw[ee,e3,R.n];unfold oQ BY;by_cases c:QQ (mO mc.rs p.n r d).th=v_
   .rw[A6 c,A6 c];exact(R.n,R.mb,R.ra,1,(λac r' z=>by rw[z,0];exact e3),(by show s.en= .non;rw[R.en,he];rfl))
   .rw[A4 c,A4 c];exact(R.n,R.mb,R.ra,1,(λac r' z=>by rw[z,0];exact e3),1)
  .intro b hb;left;unfold plc at hb⊢;rw[e1];unfold oQ at hb;split at hb<;>exact hb
end
abbrev LO (o:Oc):oj o3:= [o.ls,o.du,o.dr,o.df]
structure Bs (CO CP:o3)(H0:Hp)(o:Oc)(qs:oj (Str×D)):Prop where
 oa:OAt CO CP H0 o qs
 ls:∃xs,H0 o.ls=u_ (.lst xs)
 du:∃xs,H0 o.du=u_ (.dK xs)
 dr:∃xs,H0 o.dr=u_ (.dK xs)
 df:∃xs,H0 o.df=u_ (.dK xs)
 nd:(LO o).Nodup
 q:Q0 qs
section
variable {CO CP:o3}{H0 H H':Hp}{o:Oc}{qs:oj (Str×D)}
def Bs.at (b:Bs CO CP H0 o qs)(k:Kp (LO o) H0 H):OAt CO CP H o qs:=b.oa.kp k (by
 intro p U;simp![LO,uF,uI,uR] at U;rcases U with rfl|rfl|rfl|rfl
 .exact .inl b.ls
 .exact .inr (.inl b.du)
 .exact .inr (.inl b.dr)
 .exact .inr (.inl b.df))
def Bs.new (b:Bs CO CP H0 o qs){c:o3}(h:H0 c=U_):c≠o.x/\c≠o.ls/\c≠o.du/\c≠o.dr/\c≠o.df:=by
 erw[b.ls,_,h1];erw[b.du,_,h2];erw[b.dr,_,h3];erw[b.df,_,h4,<-((ql b.oa.e h).symm,(ql h1 h).symm,(ql h2 h).symm,(ql h3 h).symm,(ql h4 h).symm)]
def Bs.nlo (b:Bs CO CP H0 o qs){c:o3}(h:H0 c=U_):c∉LO o:=by
 erw[b.new h,_,h1,h2,h3,h4];simp![LO,uF,uI,uR,Vb];exact(h1,h2,h3,h4)
def AA (b:Bs CO CP H0 o qs)(k:Kp (LO o) H0 H)(h:∀c ob,H c=u_ ob->c∉o.df::L->H' c=u_ ob)(t:Tk H H')(U:∀c>L,H0 c=U_):Kp (LO o) H0 H':=⟨λc ob e n=>h c ob (k.kept c ob e n) (λz=>by
 rcases Ab.mp z with rfl|z
 .exact n (by simp[LO])
 .rw[U c z,0] at e),k.tk.trans t⟩
end
section
variable {qs:oj (Str×D)}{n:Str}{p:Gp}{r don:oj (Str×Gp)}
def Sb (Z:p.en=U_)(hw:jH p=U_):Sy.nxt #[Y,(n,p)::r,don]=[(n,Bw qs p)::r:don]:=by
 let hf:(SyP qs).fin p=false:=by show p.en.isSome=Vd;rw[Z];rfl
 let U:(SyP qs).want p=none:=hw;unfold Sy.nxt;simp only;rw[hf,A4 uc,U]
 rfl
def Abq (Z:p.en=U_)(hw:jH p=u_ m){a:om D}(hy:Sy.yet #[Y,(n,p)::r,don] m=u_ (u_ a)):Sy.nxt #[Y,(n,p)::r,don]=[(n,Y8 p (a.getD .non))::r:don]:=by
 let hf:(SyP qs).fin p=false:=by show p.en.isSome=Vd;rw[Z];rfl
 let U:(SyP qs).want p=u_ m:=hw;unfold Sy.nxt;simp only;rw[hf,A4 uc,U];simp only;rw[hy]
 rfl
def PZ (Z:p.en=U_)(hw:jH p=u_ m)(hy:Sy.yet #[Y,(n,p)::r,don] m=u_ U_):Sy.nxt #[Y,(n,p)::r,don]=[(n,Aad p m)::r:don]:=by
 let hf:(SyP qs).fin p=false:=by show p.en.isSome=Vd;rw[Z];rfl
 let U:(SyP qs).want p=u_ m:=hw;unfold Sy.nxt;simp only;rw[hf,A4 uc,U];simp only;rw[hy]
 rfl
def L4 (he:p.en=U_)(hw:jH p=u_ m)(Z:Sy.yet #[Y,(n,p)::r,don] m=U_):∃p',g0D m (qH qs m)=u_ p'/\Sy.nxt #[Y,(n,p)::r,don]=[(m,p')::(n,p)::r:don]:=by
 let hf:(SyP qs).fin p=false:=by show p.en.isSome=Vd;rw[he];rfl
 let U:(SyP qs).want p=u_ m:=hw;erw[Sy.zo Z,_,[p',e],_];rw[_,p',e];unfold Sy.nxt;simp only;rw[hf,A4 uc,U];simp only;rw[Z];simp only;rw[e]
def Sa {d:D}(U:p.en=u_ d):Sy.nxt #[Y,(n,p)::r,don]=[r:don++ [(n,p)]]:=by
 let Z:(SyP qs).fin p=true:=by show p.en.isSome=v_;rw[U];rfl
 unfold Sy.nxt;simp only;rw[Z,A6 rfl]
 rfl
end
def CW {d:D}(h:Zu d):AU "thing" d=true:=by
 unfold AU;rcases h with rfl|h
 .rfl
 .cases hn:jh d with
  |true=>rfl|false=>
   rw[A4 uc,A6 h,A4 ()]
   rfl
structure Rnd {qs:oj (Str×D)}(CG CM:o3)(H0 H H1:Hp)(o:Oc)(S:Sy.Ss (SyP qs))(L0:oj o3)(g:Gc)(s1:Gs)(n:Str)(p1:Gp)(r:oj (Str×Gp))(fk1:oj (Key×V))(top:Nat):Prop where
 st:∃j,#[Y,(n,p1)::r,S.don]=Sy.nx S j
 len:↑fk1+Sy.mu #[Y,(n,p1)::r,S.don]<=top
 kp:∀b ob,H b=u_ ob->b∉o.df::L0->H1 b=u_ ob
 tk:Tk H H1
 df:H1 o.df=u_ (.dK fk1)
 fd:C3 H1 S fk1
 go:mo CG CM H1 g s1
 rel:nJ g s1 p1
 pl:∀b>plc g s1,b>L0\/H b=U_/\H0 b=U_
 gi:SGI #[Y,(n,p1)::r,S.don]
inductive AaP (CO CP CG CM:Addr):Sp
 |mk (H0:Hp)(o:Oc)(qs:List (Str×D))(g:Gc)(s:Gs)(n:Str)(p:Gp)(r don:List (Str×Gp))(uk fk:List (Key×V))(top:Nat)(_:vs= [-o.x,-g.x])(_:Bs CO CP H0 o qs)(_:Kp (LO o) H0 H)(_:H o.du=u_ (.dK uk))(_:SY #[Y,(n,p)::r,don] uk)(_:(∀q>don,q.2.en.isSome=v_))(_:top<=100000)(_:g.o=o.x)(_:(∀b>plc g s,H0 b=U_))(_:Rnd CG CM H0 H H o #[Y,(n,p)::r,don] (plc g s) g s n p r fk top)(_:∀(v:V)(H':Hp)(s':Gs)(p':Gp)(fk':List (Key×V)),Rnd CG CM H0 H H' o #[Y,(n,p)::r,don] (plc g s) g s' n p' r fk' top->((v= .non/\p'.en.isSome=v_)\/∃m,v= .str m/\p'.en=U_/\jH p'=u_ m/\Sy.yet #[Y,(n,p')::r,don] m=U_)->Q v H')
def Rnd.more {qs:oj (Str×D)}{CG CM CO CP:o3}{H0 H H1 H2 H3:Hp}{o:Oc}{S:Sy.Ss (SyP qs)}{L0:oj o3}{g:Gc}{s1 s3:Gs}{n:Str}{p1 p3:Gp}{r:oj (Str×Gp)}{fk1 Z:oj (Key×V)}{top:Nat}(b:Bs CO CP H0 o qs)(k0:Kp (LO o) H0 H)(hL:∀b>L0,H0 b=U_)(h:Rnd CG CM H0 H H1 o S L0 g s1 n p1 r fk1 top)(k2:Kp [o.df] H1 H2)(f2:H2 o.df=u_ (.dK Z))(d2:C3 H2 S Z)(l2:↑Z<=↑fk1+1)
  (ac:∀b ob,H2 b=u_ ob->b∉plc g s1->H3 b=u_ ob) (t3:Tk H2 H3) (G3:mo CG CM H3 g s3) (R3:nJ g s3 p3) (ae:∀b>plc g s3,b>plc g s1\/H2 b=U_) (e:Sy.nxt #[Y,(n,p1)::r,S.don]=[(n,p3)::r:S.don]):
  Rnd CG CM H0 H H3 o S L0 g s3 n p3 r Z top/\Sy.mu #[Y,(n,p3)::r,S.don]<Sy.mu #[Y,(n,p1)::r,S.don]:=by
 let ad:=Sy.nxt_mu (yY qs) (S:=#[Y,(n,p1)::r,S.don]) (by intro z;rw[z,0])
 rw[e] at ad;let af:∀b>plc g s1,H0 b=none:=λb hb=>(h.pl b hb).elim (hL b) (·.2);let nf:o.df∉plc g s1:=λz=>(b.new (af _ z)).2.2.2.2 rfl;let ag:∀b ob,H1 b=u_ ob->b∉o.df::plc g s1->H3 b=u_ ob:=λc ob q z=>ac c ob (k2.kept c ob q (λy=>z (by rw[Ac.mp y];exact ug))) (λy=>z (uf _ y))
 refine⟨(?_,by have:=h.len;omega,λc ob q z=>?_,(h.tk.trans k2.tk).trans t3,ac _ _ f2 nf,d2.mono t3,G3,R3,λc hc=>?_,?_),ad⟩
 .erw[h.st,j,hj,<-⟨j+1,by show _=Sy.nxt (Sy.nx S j);rw[<-hj,e]⟩]
 .refine ag c ob (h.kp c ob q z) λy=>?_;rcases Ab.mp y with rfl|y
  .exact z ug
  .rcases h.pl c y with y|⟨y,_⟩
   .exact z (uf _ y)
   .rw[q,0] at y
 .rcases ae c hc with hc|hc
  .exact h.pl c hc
  .let U:H1 c=none:=by
    cases hq:H1 c with
    |none=>rfl|some ob=>
     by_cases y:c=o.df
     .rw[y,f2,0] at hc
     .rw[k2.kept c ob hq (λz=>y (Ac.mp z)),0] at hc
   by_cases c0:c>L0
   .exact .inl c0
   .right;let aa:H c=none:=by
     cases hq:H c with
     |none=>rfl|some ob=>
      by_cases y:c=o.df
      .rw[y,h.df,0] at U
      .rw[h.kp c ob hq (λz=>by rcases Ab.mp z with z|z;exact y z;exact c0 z),0] at U
    rw[_,aa];cases hq:H0 c with
    |none=>rfl|some ob=>
     by_cases y:c>LO o
     .have:=AA b k0 h.kp h.tk hL;simp![LO,uF,uI,uR] at y;let keep:∀x,(∃xs,H0 x=u_ (.lst xs))\/(∃xs,H0 x=u_ (.dK xs))->H1 x≠none:=λx hx hn=>by
       rcases hx with⟨xs,hx⟩|⟨xs,hx⟩
       .erw[this.tk.lst x xs hx,ys,hy];rw[hy,0] at hn
       .erw[this.tk.dct x xs hx,ys,hy];rw[hy,0] at hn
      rcases y with rfl|rfl|rfl|rfl
      .exact A8 U (keep _ (.inl b.ls))
      .exact A8 U (keep _ (.inr b.du))
      .exact A8 U (keep _ (.inr b.dr))
      .exact A8 U (keep _ (.inr b.df))
     .rw[k0.kept c ob hq y,0] at aa
 .have:=Eo b.q h.gi;rwa[e] at this
section
variable {P:o9}{w:og}{K:o0}{mg:Str->om o6}{base:o8}{a:Ad}{g:Ga}
def Abn:#[C,11,a.jr,a.js,["self","going"],(AaP a.qv a.qK a.qO a.qq)]:=by
 let kg:=#[D0,T];let xi:=#[LL,T,C];let Qp:=#[W2,T];let Q4:=#[M9,T];rw[9,T.lG,yw]
 erw[h,H0,o,qs,gc,st,n,p,r,don,uk,fk,top,rfl,hB,hK,aK,hU,ap,aX,aq,hL,h0,k];let hs:=uB;rw[3,%[#[wG,6,uP,#[qm,yk,#[qQ,5,pv 1,rfl],qR],%[#[qF,(2),yw.nd,#[Qx,pv 1,T.qU,T.mt,kg]],#[qI,#[qm,8,QV,#[qE,qB,pv 2,qh],#[qA,#v[qi,qi]],#[w]],%[#[qY,#[Qh,pv 1,T.qU,T.lq,xi,#v[#[Qh,#[qQ,5,pv 0,rfl],T.Qt,T.io,Qp,#v[pv 2]]]]]|Al],qp],#[qF,(3),yw.nd,#[Qh,pv 0,T.qD,T.iG,Q4,#v[#[qE,qB,pv 2,qh]]]],#[qI,#[qm,yk,pv 3,qR],%[|#[qo,#[qE,qB,pv 2,qh]]],qp]|#[qI,#[qm,Qd,#[qE,qB,pv 3,qh],qi],%[|#[qY,#[Qh,pv 1,T.qU,T.lq,xi,#v[#[qE,qB,pv 3,qh]]]]],%[|#[qI,#[qm,Qd,#[qE,qB,pv 3,qh],qi],%[|#[qY,#[Qh,pv 1,T.qU,T.lq,xi,#v[qR]]]],%[|#[Qn,8,pv 1,#[qA,#v[qi,#[qE,qB,pv 2,qh]]],rfl]]]]]]]|#[qo,qR]]]
 refine_lift let J_:Nat->L2.St->Hp->Prop:=λmm σ H1=>∃(s1:Gs) (p1:Gp) (fk1:oj (Key×V)) (u3 u4:om V),σ= [u_ (-o.x),u_ (-gc.x),u3,u4]/\mm=Sy.mu #[Y,(n,p1)::r,don]/\Rnd a.qO a.qq H0 H H1 o #[Y,(n,p)::r,don] (plc gc st) gc s1 n p1 r fk1 top;?_
 rw[_,J_,(_,st,p,fk,U_,U_,1,1,h0)];rintro mm σ H1 ⟨s1,p1,fk1,u3,u4,rfl,rfl,U⟩;let aL:=AA hB hK U.kp U.tk hL;let aa:=hB.at aL;let au:∀b>plc gc s1,H0 b=none:=λb hb=>(U.pl b hb).elim (hL b) (·.2);erw[U.gi (n,p1) (.inl ug),hI,aZ];let hI:GI p1:=hI;let aw:H1 o.du=u_ (.dK uk):=U.kp _ _ aK (λz=>by
  rcases Ab.mp z with z|z
  .have:=hB.nd;simp[LO] at this;exact this.2.1.2 z
  .exact(hB.new (hL _ z)).2.2.1 rfl)
 erw[id U.go,dx,fs,mv,av,rv,ev,e,f,i,j,a1,l];let a2:↑fs<1000:=by have:=f.len;omega
 rw[0,gc.x,_,dx,fs,0,e,T.qU,T.yh,f.f_end,1,0];cases he:p1.en with
 |some d=>
  let l':Is H1 d ev:=by have:=l;rwa[U.rel.en,he] at this
  let aM:d≠ .non:=by rcases hI.en d he with⟨z,rfl⟩|⟨x,rfl,_⟩|⟨z,rfl⟩<;>(intro z;rw[z,0])
  refine iI (ud (Ju l' aM)) ?_;exact k _ H1 s1 p1 fk1 U (.inl ⟨1,by rw[he];rfl⟩)
 |none=>
  let l':Is H1 .non ev:=by have:=l;rwa[U.rel.en,he] at this
  rw[show ev= .non from l',0]
  refine iO (u8 rfl) ?_
  rw[_,λσ' H'=>∃m',m'<Sy.mu #[Y,(n,p1)::r,don]/\J_ m' σ' H',λ_ _ h=>h];rw[8,B1,b1];let ax:gc.o≠gc.x:=by rw[aq];exact(hB.new (hL _ ug)).1.symm
  let ak:∀H2:Hp,(∀b ob,H1 b=u_ ob->b∉o.df::plc gc s1->H2 b=u_ ob)->∃dx fs,H2 gc.o=u_ (.ins a.qv dx fs)/\fs.lookup ("runner":Str)=none:=λH2 h2=>(_,_,(by rw[aq];exact h2 _ _ aa.e (λz=>by
   rcases Ab.mp z with z|z
   .have:=aa.e;rw[z,U.df,0] at this
   .exact(hB.new (au _ z)).1 rfl)),kn o _ ())
  cases hw:jH p1 with
  |none=>
   rw[0,gc.x,dx,fs,1,e,f.meth _ ()]
   refine IO (E:=E0) (qs:=qs) U.go U.rel hI he hw λrs rr kd z v ay al ac hz aA hv=>b1 _ _ ?_;rw[8,B2,b2];erw[id hv,q,ws,rfl,hq,w1,r1,rfl,[rfl,aN],w2,r2,rfl,[rfl,aB],h3];rw[show r2= [] from h3,0]
   rw[0,q,_,_,0,1,SqT.of hq,1,(sml rfl),λt ht=>?_];let s2:=qf ht (-[V.str "has",V.str "names"])
   rw[_,t,0,.inr (SqT.of qg),1,1,0];refine iO ((Acu kd).trans ac) ?_;erw[id aa.p,aO,dp,op,a3,hx,hd,hk,a4];let a5:↑z<=300:=by
    have:=yg hz;simp![good,QH,uE,vm] at this;exact this.1
   erw[XV hB.q z ac,a6,aP];generalize a7:upd H1 t (-[V.str "has",V.str "names"])=H2 at s2⊢;let fin:∀(u:V) (H3:Hp),ic H2 H3->Is H3 (jR qs kd z) u->X7 a.qO a.qq a.qv [-gc.x,u] H3 (λ_ H4=>∃m',m'<Sy.mu #[Y,(n,p1)::r,don]/\J_ m' [u_ (-o.x),u_ (-gc.x),u_ (-q),u4] H4) E0:=λu H3 s3 hu=>by
    let Z:=s2.trans s3;refine Dd (U.go.same Z) U.rel hI he hu (λaQ r' e'=>?_) ax (ak H3 λb ob h _=>Z b ob h) λH4 s4 w4 G4 R4 aR=>?_
    .rw[ay] at e';rw[e',0];exact(kd,_,al,aP)
    .rw[<-aA] at R4;let kq:∀b ob,H3 b=u_ ob->b∉plc gc s1->H4 b=u_ ob:=λb ob h n=>w4.kept b ob h (λy=>n (by rw[y];exact ug)) (λmc r' y=>by
      unfold plc at n;rw[y] at n;simp![Aag,uF,uI,uR,Vb] at n;exact[n.2.1:n.2.2.1:n.2.2.2])
     erw[U.more hB hK hL (Kp.of Z) (Z _ _ U.df) (U.fd.mono Z.tk) (Ue _) kq w4.tk G4 R4 aR (Sb he hw),m1,m2,<-(_,m2,s4,_,fk1,_,0,1,m1)]
   rw[0,gc.x,dx,fs,1,s2 _ _ e,f.meth _ ()]
   rw[0,o.x,_,o.dx,_,0,s2 _ _ aa.e,T.qD,T.Ql,PX o]
   rw[_,o.px,aO,0,s2 _ _ hx,zC,0,o.px,q,kd,z,qs,1,aa.p.same s2,hB.q,s2 _ _ hq,()]
   let aC:kd="has"\/kd≠"has"/\kd="names":=by
    unfold mP at ac;by_cases c:kd="has"
    .exact .inl c
    .rw[ud c,tL] at ac;exact .inr [c:ui ac]
   rcases aC with c|⟨c',c⟩
   .refine .inl [c:fin _ H2 (ic.refl _) ?_];unfold jR;rw[A6 c];exact Qi (by split<;>decide)
   .refine .inr [c:λu H3 s3 hu=>fin u H3 s3 ?_];unfold jR;rwa[A4 c']
  |some m=>
   erw[Kg hI he hw,a8,al]
   rw[0,gc.x,dx,fs,1,e,f.meth _ ()]
   refine NJ (E:=E0) U.go U.rel hI he hw λkd v H2 s2 ac hv=>b1 _ _ ?_;rw[8,B2,b2];erw[id hv,q,ws,rfl,hq,w1,r1,rfl,[rfl,aN],w2,r2,rfl,[rfl,aB],h3];rw[show r2= [] from h3,0]
   rw[0,q,_,_,0,1,SqT.of hq,1,(sml rfl),λt ht=>?_];let s3:=qf ht (-[V.str "has",V.str "names"])
   rw[_,t,0,.inr (SqT.of qg),1,1,0];refine iI ((Acu kd).trans ac) (b2 _ _ ?_);rw[8,B3,b3];generalize upd H2 t (-[V.str "has",V.str "names"])=H3 at s3⊢;let Z:=s2.trans s3;let aD:=s3 _ _ hq;let aE:SGI #[Y,(n,p1)::r,don]:=U.gi
   rw[0,o.x,o.dx,0,Z _ _ aa.e,kn o _ ()]
   rw[0,q,_,_,0,1,SqT.of aD,1,o,m,qs,#[Y,(n,p1)::r,don],uk,fk1,1,[Z _ _ aa.e:aa.p.same Z],hB.q,aE,Z _ _ aw,hU,Z _ _ U.df,U.fd.mono Z.tk,(by have:=U.len;omega),ap,λu H4 am k4 f4 d4 l4 aS y4=>?_]
   let ad:Kp [o.df] H1 H4:=(Kp.of Z).trans k4;let aF:H4 q=u_ (-[V.str kd,V.str m]):=k4.tk.tup _ _ aD;let aT:o.df∉plc gc s1:=λz=>(hB.new (au _ z)).2.2.2.2 rfl;let G4:mo a.qO a.qq H4 gc s1:=U.go.frame (λb hb ob h=>ad.kept b ob h (λz=>aT (by rwa[<-Ac.mp z]))) ad.tk
   erw[id G4,ao,ae,a9,bb,bc,bd,e4,af,i4,j4,aG,bf];refine b3 _ _ ?_;rw[8,B4,b4]
   rw[0,1,0];unfold CZ at y4;cases hy:Sy.yet #[Y,(n,p1)::r,don] m with
   |none=>
    rw[hy] at y4;rw[show u= .non from y4,0]
    refine iO (u8 rfl) (0,q,_,_,0,1,SqT.of aF,1,?_);refine k _ H4 s1 p1 am (U.st,(by rw[aS hy];exact U.len),λb ob h z=>ad.kept b ob (U.kp b ob h z) (λy=>z (by rw[Ac.mp y];exact ug)),U.tk.trans ad.tk,f4,d4,G4,U.rel,U.pl,U.gi) (.inr (m,1,he,hw,hy))
   |some oa=>
    rw[hy] at y4;erw[y4,d,hd,ha,_];let sh:∃kk rr,d= .tup (.str kk::rr):=by
     cases oa with
     |none=>erw[ha,kk,rr,h,_,<-[kk:rr:h]]|some x=>cases x with
      |none=>exact[_:_:ha]|some y=>exact[_:_:ha]
    erw[sh,kk,rr,rfl];erw[id hd,qa,wa,rfl,ag,w1,r1,rfl,[rfl,aY],h3];refine iI (ud (λz=>by rw[z,0])) (b4 _ _ ?_)
    rw[0,qa,_,_,0,1,SqT.of ag,qy (j:=0) rfl,1,0];let fin:∀(dd:D) (u:V),Is H4 dd u->Zu dd->Sy.nxt #[Y,(n,p1)::r,don]=⟨(n,Y8 p1 dd)::r,don⟩->X7 a.qO a.qq a.qv [-gc.x,u] H4 (λ_ H5=>∃m',m'<Sy.mu #[Y,(n,p1)::r,don]/\J_ m' [u_ (-o.x),u_ (-gc.x),u_ (-q),u_ (-qa)] H5) E0:=λdd u hu hok ah=>by
     refine Dd G4 U.rel hI he hu (λaQ r' e'=>?_) ax (ak H4 λb ob h n=>ad.kept b ob h (λz=>n (by rw[Ac.mp z];exact ug))) λH5 s5 w5 G5 R5 aU=>?_
     .rcases al with⟨h1,_⟩|⟨rs,rr,h1,h2⟩
      .rw[h1] at e';rw[e',0]
      .rw[h1] at e';rw[e',0];exact("thing",_,h2,CW hok)
     .have kq:∀b ob,H4 b=u_ ob->b∉plc gc s1->H5 b=u_ ob:=λb ob h n=>w5.kept b ob h (λy=>n (by rw[y];exact ug)) (λmc r' y=>by
       unfold plc at n;rw[y] at n;simp![Aag,uF,uI,uR,Vb] at n;exact[n.2.1:n.2.2.1:n.2.2.2])
      erw[U.more hB hK hL ad f4 d4 l4 kq w5.tk G5 R5 aU ah,m1,m2,<-(_,m2,s5,_,am,_,0,1,m1)]
    cases oa with
    |some x=>
     let hok:=MG hB.q aE hy;let ah:=Abq he hw hy;cases x with
     |some y=>
      rw[show D.tup (.str kk::rr)= .tup [-"value",y] from ha,0]
      erw[h3,w5,r5,rfl,h5,h6];rw[show r5= [] from h6,0]
      refine iO (u8 rfl) ?_;exact(0,gc.x,ao,ae,1,e4,af.meth _ (),0,qa,_,_,0,1,SqT.of ag,1,fin y w5 h5 hok ah)
     |none=>
      rw[show D.tup (.str kk::rr)= .tup [-"lack"] from ha,0]
      refine iI () ?_
      rw[0,qa,_,_,0,1,SqT.of ag,qy (j:=0) rfl,1,0];refine iO (u8 rfl) ?_;exact(0,gc.x,ao,ae,1,e4,af.meth _ (),fin .non .non rfl hok ah)
    |none=>
     erw[ha,k2,r2,e5,c1,c2];rw[e5,0];refine iI (ud (λz=>c1 (V.str.inj z))) ?_
     rw[0,qa,_,_,0,1,SqT.of ag,qy (j:=0) rfl,1,0];refine iI (ud (λz=>c2 (V.str.inj z))) ?_
     rw[0,q,_,_,0,1,SqT.of aF,1,(sml rfl),λt5 aH=>?_];let s5:=qf aH (-[V.str "stuck",V.str m]);let aI:↑ae<1000:=by have:=af.len;omega
     rw[0,gc.x,_,ao,ae,1,s5 _ _ e4,T.qU,T.yh,aI];let aV:=Is.new (H:=H4) (ds:= [-"stuck",!m]) (p:=t5) (_,0,Qi (),_,0,[1:aB],1) aH
     erw[Kx (C:=a.qO) (CM:=a.qq) (g:=gc) (s:={s1 with en:= .tup [-"stuck",!m]}) (s5 _ _ e4) (af.set_end (u:=-t5)) (i4.mono s5.tk) (j4.mono s5.tk) (aG.same s5) aV,g1,g2]
     let aJ:nJ gc {s1 with en:= .tup [-"stuck",!m]} (Aad p1 m):=(U.rel.n,U.rel.mb,U.rel.ra,U.rel.run,U.rel.own,1)
     let aW:Kp [o.df] H1 (upd H4 t5 (-[V.str "stuck",V.str m])):=ad.trans (Kp.of s5);obtain⟨m1,m2⟩:=U.more hB hK hL aW (s5 _ _ f4) (d4.mono s5.tk) l4 (λb ob h n=>g2.kept b ob h (λy=>n (by rw[y];exact ug))) g2.tk g1 aJ (λb hb=> .inl hb) (PZ he hw hy)
     exact(_,m2,_,_,am,_,0,1,m1)
abbrev Xy (CG CM:o3)(H:Hp)(ox:o3):oj (Gc×Gs)->oj (Str×Gp)->Prop
 | [],[]=>True|q::t,p::l=>mo CG CM H q.1 q.2/\nJ q.1 q.2 p.2/\q.1.o=ox/\Xy CG CM H ox t l|_,_=>False
abbrev OZ:oj (Gc×Gs)->oj o3
 | []=> []|q::t=>plc q.1 q.2++OZ t
abbrev Sep:oj (Gc×Gs)->Prop
 | []=>True|q::t=>(∀b>plc q.1 q.2,b∉OZ t)/\Sep t
def Xy.frame {CG CM ox:o3}{H H':Hp}:∀{st:oj (Gc×Gs)}{l:oj (Str×Gp)},Xy CG CM H ox st l->(∀b>OZ st,∀ob,H b=u_ ob->H' b=u_ ob)->Tk H H'->Xy CG CM H' ox st l
 | [],[],_,_,_=>trivial| [],_::_,h,_,_=>h.elim|_::_,[],h,_,_=>h.elim|q::t,p::l,⟨h1,h2,h3,h4⟩,hk,tk=>(h1.frame (λb U=>hk b (vO _ U)) tk,h2,h3,Xy.frame h4 (λb U=>hk b (uT _ U)) tk)
def Xy.there {CG CM ox:o3}{H:Hp}:∀{st:oj (Gc×Gs)}{l:oj (Str×Gp)},Xy CG CM H ox st l->∀b>OZ st,∃ob,H b=u_ ob
 | [],[],_=>λb U=>by rw[U,0]| [],_::_,h=>h.elim|_::_,[],h=>h.elim|q::t,p::l,⟨h1,h2,h3,h4⟩=>λb U=>by
  rcases Ae.mp U with U|U
  .exact h1.there b U
  .exact Xy.there h4 b U
def Xy.len {CG CM ox:o3}{H:Hp}:∀{st:oj (Gc×Gs)}{l:oj (Str×Gp)},Xy CG CM H ox st l->↑st=↑l
 | [],[],_=>rfl| [],_::_,h=>h.elim|_::_,[],h=>h.elim|q::t,p::l,⟨h1,h2,h3,h4⟩=>by rw[um,um,Xy.len h4]
def BG {Y:Sy}:∀l:oj (Str×Y.G),↑l<=Sy.lfts l
 | []=>uh _|(_,g)::r=>by
  have:=BG r;show ↑r+1<=Y.lft g+1+Sy.lfts r;omega
def Ac9 (U:Q0 qs)(n:Str):Sy.mu (Sy.S0 (SyP qs) n)<=20000:=by
 let Z:=U.2.2;let hr:∀S:Sy.Ss (SyP qs),↑(Sy.rest S)<=60:=λS=>by
  let h1:↑(Sy.rest S)<=(qs.map (·.1)).length:=TB _ _;rw[u7] at h1;omega
 unfold Sy.mu;let h2:=hr (Sy.S0 (SyP qs) n);let h3:(SyP qs).M=302:=rfl;rw[h3];let h4:Sy.lfts (Sy.S0 (SyP qs) n).stk<=303:=by
  unfold Sy.S0;cases hg:(SyP qs).g0 n with
  |none=>exact uK _|some g=>
   have:=(yY qs).l0 n g hg;show(SyP qs).lft g+1+0<=303;let h3:(SyP qs).M=302:=rfl;omega
 omega
structure OI {qs:oj (Str×D)}(CG CM:o3)(H0 H:Hp)(o:Oc)(n0:Str)(S:Sy.Ss (SyP qs))(st:oj (Gc×Gs))(uk rk fk:oj (Key×V)):Prop where
 kp:Kp (LO o) H0 H
 nx:∃j,S=Sy.nx (Sy.S0 (SyP qs) n0) j
 ls:H o.ls=u_ (.lst (st.reverse.map λq=>V.ref q.1.x))
 du:H o.du=u_ (.dK uk)
 uo:SY S uk
 ul:↑uk+Sy.mu S<=20001
 dr:H o.dr=u_ (.dK rk)
 rks:rk.map (·.1)=S.don.map λp=>Vf p.1
 rv:L2.IsL H (S.don.map λp=>Xc p.2) (rk.map (·.2))
 rl:↑S.don+Sy.mu S<=20001
 df:H o.df=u_ (.dK fk)
 fd:C3 H S fk
 fl:↑fk+Sy.mu S<=20001
 stk:Xy CG CM H o.x st S.stk
 new:∀b>OZ st,H0 b=U_
 sep:Sep st
 gi:SGI S
 fin:∀q>S.don,(Gp.en q.2).isSome=v_
 nd:(S.stk.map (·.1)++S.don.map (·.1)).Nodup
def S1 (n:Str)(j:Nat):((Sy.nx (Sy.S0 (SyP qs) n) j).stk.map (·.1)++(Sy.nx (Sy.S0 (SyP qs) n) j).don.map (·.1)).Nodup:=by
 cases U:(SyP qs).g0 n with
 |some g=>exact(Sy.nx_ok (yY qs) (Sy.S0_ok U) j).nd|none=>
  let e:Sy.nx (Sy.S0 (SyP qs) n) j=⟨[],[]⟩:=by
   let e0:Sy.S0 (SyP qs) n=⟨[],[]⟩:=by unfold Sy.S0;rw[U]
   rw[e0]
   induction j with
   |zero=>rfl|succ j Z=>show Sy.nxt _=_;rw[Z];rfl
  rw[e];exact vZ
inductive NW (CO CP:Addr):Sp
 |mk (o:Oc)(qs:List (Str×D))(n:Str)(_:vs= [-o.x,!n])(_:Bs CO CP H o qs)(_:H o.ls=u_ (.lst []))(_:H o.du=u_ (.dK []))(_:H o.dr=u_ (.dK []))(_:H o.df=u_ (.dK []))(_:∀(H':Hp)(rk uk fk:List (Key×V))(don:List (Str×Gp))(j:Nat),H' o.du=u_ (.dK uk)->SY #[Y,[],don] uk->H' o.df=u_ (.dK fk)->C3 H' #[Y,[],don] fk->↑fk<=20001->SGI #[Y,[],don]->Kp (LO o) H H'->Sy.nx (Sy.S0 (SyP qs) n) j=⟨[],don⟩->H' o.dr=u_ (.dK rk)->(rk.map (·.1)=don.map λp=>Vf p.1)->L2.IsL H' (don.map λp=>Xc p.2) (rk.map (·.2))->(∀p>don,GI p.2/\p.2.en.isSome=v_)->↑don<=20001->Q .non H')
def qal {α:Type}{xs:oj α}{x:α}:atI (xs++ [x]) (-1)=u_ x:=by
 unfold atI ixN;let U:↑(xs++ [x])=↑xs+1:=by simp
 rw[A4 (),A6 ()]
 show(xs++ [x])[(-1+(↑(xs++ [x]):Int)).toNat]? =u_ x;rw[show(-1+(↑(xs++ [x]):Int)).toNat=↑xs by omega]
 simp
def Nc {Y:Sy}(S:Sy.Ss Y)(i:Nat):∀j,Sy.nx S (i+j)=Sy.nx (Sy.nx S i) j
 |0=>rfl|j+1=>by show Sy.nxt (Sy.nx S (i+j))=Sy.nxt (Sy.nx (Sy.nx S i) j);rw[Nc S i j]
def Abs {qs:oj (Str×D)}(S:Sy.Ss (SyP qs)):∀j,Sy.mu (Sy.nx S j)<=Sy.mu S
 |0=>uh _|j+1=>by
  let h:=Abs S j;show Sy.mu (Sy.nxt (Sy.nx S j))<=_;by_cases c:(Sy.nx S j).stk= []
  .let e:Sy.nxt (Sy.nx S j)=Sy.nx S j:=by unfold Sy.nxt;rw[c]
   rwa[e]
  .have:=Sy.nxt_mu (yY qs) c;omega
def O7:#[C,13,a.yT,a.yK,["self","name"],(NW a.qv a.qK)]:=by
 let Q4:=#[M9,T];let jk:=#[LS,T,C];let zc:=#[Abn,T,C];let XR:=#[D5,T];rw[9,T.iR,QS]
 erw[h,o,qs,n,rfl,hB,bF,bo,bG,bH,k];let hs:=uB;let hO:=hB.oa;rw[3,%[#[qI,#[qm,yk,#[Qh,pv 0,T.qD,T.iG,Q4,#v[pv 1]],qR],%[|#[qY,#[Qh,pv 0,T.qD,T.iQ,jk,#v[pv 1]]]],qp]|#[wG,6,uP,#[Br,3,#[qQ,5,pv 0,rfl],(λ_=>rfl)],%[#[qF,(2),QS.nd,#[qE,QP,#[qQ,5,pv 0,rfl],#[Aa8,6,MI,qh]]],#[qF,(3),QS.nd,#[Qh,pv 0,T.qD,T.lG,zc,#v[pv 2]]]|#[qI,#[qm,yk,pv 3,qR],%[#[qY,#[MY,9,uM,UC,UD,Ng,#[qQ,5,pv 0,rfl],_,_]],#[qY,#[Lx,7,#[qQ,5,pv 0,rfl],#[qQ,5,pv 2,rfl],(1,1,1,1)]]|#[qY,#[Qh,pv 0,T.qD,T.lh,XR,#v[pv 2]]]],%[|#[qY,#[Qh,pv 0,T.qD,T.iQ,jk,#v[pv 3]]]]]]]]]
 let bI:=Ac9 hB.q n;rw[8,N,hN];let bJ:∀(H1:Hp) (S:Sy.Ss (SyP qs)) (st:oj (Gc×Gs)) (uk rk fk:oj (Key×V)),OI a.qO a.qq H H1 o n S st uk rk fk->N [u_ (-o.x),u_ (!n),U_,U_] H1:=by
  intro H1 S st uk rk fk h1;refine hN _ _ ?_
  refine_lift let J_:Nat->L2.St->Hp->Prop:=λmm σ H2=>∃(S:Sy.Ss (SyP qs)) (st:oj (Gc×Gs)) (uk rk fk:oj (Key×V)) (u3 u4:om V),σ= [u_ (-o.x),u_ (!n),u3,u4]/\mm=Sy.mu S/\OI a.qO a.qq H H2 o n S st uk rk fk;?_
  rw[_,J_,(_,S,st,uk,rk,fk,U_,U_,1,1,h1)];clear h1 bo bG bH bF;rintro mm σ H2 ⟨S,st,uk,rk,fk,u3,u4,rfl,rfl,hI⟩;let bp:=hB.at hI.kp
  rw[0,o.x,_,o.dx,_,0,bp.e,T.qD,T.QJ,LY o,_,.inl [_:SqL.of hI.ls:1]];obtain⟨(stk:oj (Str×Gp)),(don:oj (Str×Gp))⟩:=S;let ax:Xy a.qO a.qq H2 o.x st stk:=hI.stk;cases st with
  |nil=>
   cases stk with
   |cons p l=>exact ax.elim|nil=>
    refine iI rfl ?_;erw[hI.nx,j,hj,<-k H2 rk uk fk don j hI.du hI.uo hI.df hI.fd (by have:=hI.fl;omega) hI.gi hI.kp hj.symm hI.dr hI.rks hI.rv (λp hp=>[(hI.gi p (.inr hp)).1:hI.fin p hp]) (by have:=hI.rl;let e:↑(#[Y,[],don].don)=↑don:=rfl;omega)]
  |cons q t=>
   erw[q,gc,gs];cases stk with
   |nil=>exact ax.elim|cons p l=>
    erw[p,U,p];erw[ax,hG,bq,bK,hT];let hG:mo a.qO a.qq H2 gc gs:=hG;let bq:nJ gc gs p:=bq;let am:H2 o.ls=u_ (.lst ((t.reverse.map λq=>V.ref q.1.x)++ [V.ref gc.x])):=by
     have:=hI.ls;rwa[V8,uj] at this
    refine iO (by rw[V8,uj];show(!((TV _ t.reverse)++ [V.ref gc.x]).isEmpty)=v_;simp) ?_
    rw[_,λσ' H'=>∃m',m'<Sy.mu #[Y,(U,p)::l,don]/\J_ m' σ' H',λ_ _ h=>h];rw[8,B1,b1]
    rw[0,o.x,_,o.dx,_,0,bp.e,T.qD,T.QJ,LY o,0,o.ls,_,_,0,1,SqL.of am,qal,b1 _ _ ?_];rw[8,B2,b2];let ao:∀b>plc gc gs,H b=none:=λb Z=>hI.new b (vO _ Z);let ac:∀b>OZ t,H b=none:=λb Z=>hI.new b (uT _ Z);let bL:∃j,#[Y,(U,p)::l,don]=Sy.nx #[Y,(U,p)::l,don] j:=[(0):1]
    rw[0,o.x,o.dx,0,bp.e,kn o _ (),0,H,o,qs,gc,gs,U,p,l,don,uk,fk,(20001),1,hB,hI.kp,hI.du,hI.uo,hI.fin,(),bK,ao,(bL,hI.fl,λ_ _ h _=>h,Tk.refl _,hI.df,hI.fd,hG,bq,λb Z=> .inl Z,hI.gi),λv H3 ak p3 ad hR hv=>?_]
    let aW:Sy.mu #[Y,(U,p3)::l,don]<=Sy.mu #[Y,(U,p)::l,don]:=by
     erw[hR.st,j,hj];let hj:#[Y,(U,p3)::l,don]=Sy.nx #[Y,(U,p)::l,don] j:=hj;rw[hj];exact Abs _ _
    let bM:∃j,#[Y,(U,p3)::l,don]=Sy.nx (Sy.S0 (SyP qs) n) j:=by
     erw[hR.st,j,hj];erw[hI.nx,i,hi];let hj:#[Y,(U,p3)::l,don]=Sy.nx #[Y,(U,p)::l,don] j:=hj;exact⟨i+j,by rwa[Nc,<-hi]⟩
    let ap:Kp (LO o) H H3:=AA hB hI.kp hR.kp hR.tk ao;let ay:=hB.at ap;let aq:∀b>plc gc ak,H b=none:=λb Z=>(hR.pl b Z).elim (ao b) (·.2);let out:∀b,b>LO o->b≠o.df->b∉o.df::plc gc gs:=λb Z hn z=>by
     rcases Ab.mp z with z|z
     .exact hn z
     .exact hB.nlo (ao b z) Z
    let b4:o.ls≠o.du/\o.ls≠o.dr/\o.ls≠o.df/\o.du≠o.dr/\o.du≠o.df/\o.dr≠o.df:=by
     let h:=hB.nd;simp![LO,UF,uF,uI,uR,Vb,vZ,and_true,V7] at h;exact(h.1.1,h.1.2.1,h.1.2.2,h.2.1.1,h.2.1.2,h.2.2)
    erw[b4,d1,d2,d3,d4,d5,d6];let af:=hR.kp _ _ am (out _ (by simp[LO]) d3)
    let aA:=hR.kp _ _ hI.du (out _ (by simp[LO]) d5)
    let aB:=hR.kp _ _ hI.dr (out _ (by simp[LO]) d6)
    let bt:Xy a.qO a.qq H3 o.x t l:=hT.frame (λb Z ob h=>hR.kp b ob h (λz=>by
     rcases Ab.mp z with z|z
     .exact(hB.new (ac b Z)).2.2.2.2 z
     .exact hI.sep.1 b z Z)) hR.tk
    let bu:∀b>plc gc ak,b∉OZ t:=λb Z z=>by
     rcases hR.pl b Z with Z|⟨Z,_⟩
     .exact hI.sep.1 b Z z
     .erw[hT.there b z,ob,e];rw[e,0] at Z
    let b5:GI p3:=(hR.gi (U,p3) (.inl ug)).1;let aX:p3.n=U:=(hR.gi (U,p3) (.inl ug)).2;let bN:=hI.ul;let bO:=hR.len;let b6:=hI.rl;let cp:↑don+Sy.mu #[Y,(U,p)::l,don]<=20001:=b6;let b7:↑ad+Sy.mu #[Y,(U,p3)::l,don]<=20001:=bO;let aC:=Sy.nxt_mu (yY qs) (S:=#[Y,(U,p3)::l,don]) (by intro z;rw[z,0])
    let cq:↑rk=↑don:=by
     have:=Aa Gm hI.rks;rwa[u7,u7] at this
    let aD:H3 o.df=u_ (.dK ad):=hR.df;let aO:mo a.qO a.qq H3 gc ak:=hR.go;let ag:nJ gc ak p3:=hR.rel;let aY:C3 H3 #[Y,(U,p3)::l,don] ad:=hR.fd;let aZ:SGI #[Y,(U,p3)::l,don]:=hR.gi;erw[bM,i3,aP];refine b2 _ _ ?_
    rw[0,1,0];rcases hv with⟨rfl,au⟩|⟨m,rfl,au,hw,hy⟩
    ·
     refine iO (u8 rfl) ?_;rw[8,C1,c1];obtain⟨d,hd⟩:∃d,p3.en=u_ d:=by
      cases h:p3.en with
      |none=>rw[h,0] at au|some d=>exact[d:1]
     let ae:=Sa (qs:=qs) (n:=U) (r:=l) (don:=don) hd
     rw[0,o.x,_,o.dx,_,0,ay.e,T.qD,T.QJ,LY o,.inl [1:_:SqL.of af]]
     rw[_,o.ls,_,V.ref gc.x,1,1,af,by simp]
     rw[List.dropLast_concat];let aa:Kp [o.ls,o.du] H3 (upd H3 o.ls (.lst (t.reverse.map λq=>V.ref q.1.x))):=⟨λb ob h n=>by rw[qk (λz=>n (by rw[z];exact ug))];exact h,iK.tk (p:=o.ls) (λb ob h n=>by rwa[qk n]) af qg⟩
     obtain⟨H4,aE⟩:∃H4,H4=upd H3 o.ls (.lst (t.reverse.map λq=>V.ref q.1.x)):=⟨0⟩;rw[<-aE] at aa⊢;refine c1 _ _ ?_;rw[8,C2,c2];let e4:H4 o.x=u_ (.ins a.qv o.dx (ofs o)):=by rw[aE,qk (λz=>by have:=ay.e;rw[z,af,0] at this)];exact ay.e
     let aF:H4 o.ls=u_ (.lst (t.reverse.map λq=>V.ref q.1.x)):=by rw[aE];exact qg
     let al:H4 o.du=u_ (.dK uk):=by rwa[aE,qk d1.symm]
     let bP:∀b,H b=U_->b≠o.ls:=λb Z=>(hB.new Z).2.1;let b8:mo a.qO a.qq H4 gc ak:=aO.frame (λb Z ob h=>by rwa[aE,qk (bP b (aq b Z))]) aa.tk
     erw[id b8,b9,ca,cr,cs,cu,cv,cb,f4,_];let aG:(iP uk (Vf gc.n)).isSome=true:=by
      rw[ag.n,aX];exact(hI.uo U).trans (u8 ug)
     obtain⟨uv,cc⟩:∃uv,iP uk (Vf gc.n)=u_ uv:=by
      cases h:iP uk (Vf gc.n) with
      |none=>rw[h,0] at aG|some uv=>exact[uv:1]
     rw[0,o.x,_,o.dx,_,0,e4,T.qD,T.QG,PU o,o.du,1,.inl [_:.inl al],0,gc.x,_,b9,ca,0,cb,T.qU,T.Yv,f4.Z7,uk,Vf gc.n,uv,al,1,cc];let ah:Kp [o.ls,o.du] H3 (upd H4 o.du (.dK (JS uk (Vf gc.n)))):=aa.trans (Kp.updD al (uf _ ug));obtain⟨H5,bv⟩:∃H5,H5=upd H4 o.du (.dK (JS uk (Vf gc.n))):=⟨0⟩;rw[<-bv] at ah⊢;refine c2 _ _ ?_;let bQ:H5 o.du=u_ (.dK (JS uk (Vf gc.n))):=by rw[bv];exact qg
     let bR:H5 o.ls=u_ (.lst (t.reverse.map λq=>V.ref q.1.x)):=by rwa[bv,qk d1]
     let aH:∀b,H b=U_->b∉ [o.ls,o.du]:=λb Z z=>by
      simp![uF,uI,uR] at z;rcases z with z|z
      .exact(hB.new Z).2.1 z
      .exact(hB.new Z).2.2.1 z
     let cd:mo a.qO a.qq H5 gc ak:=aO.frame (λb Z ob h=>ah.kept b ob h (aH b (aq b Z))) ah.tk;let bS:H5 o.dr=u_ (.dK rk):=ah.kept _ _ aB (by simp![uF,uI,uR,Vb];exact[d2.symm:d4.symm])
     let bT:H5 o.df=u_ (.dK ad):=ah.kept _ _ aD (by simp![uF,uI,uR,Vb];exact[d3.symm:d5.symm])
     let aQ:∀b,b∉LO o->b∉ [o.ls,o.du]:=λb Z z=>Z (by simp![LO,uF,uI,uR] at z⊢;rcases z with z|z;exact .inl z;exact .inr (.inl z))
     let bw:Kp (LO o) H H5:=[λb ob h n=>ah.kept b ob (ap.kept b ob h n) (aQ b n):ap.tk.trans ah.tk];let bU:=hB.at bw
     rw[0,o.x,o.dx,0,bU.e,kn o _ (),0,o,qs,gc,ak,p3,rk,ad,1,bU,cd,ag,b5,au,bS,(),bT,(),d6,λz=>(hB.new (aq _ z)).2.2.2.1 rfl,λz=>(hB.new (aq _ z)).2.2.2.2 rfl,λv1 v2 H6 aw aI i6 bb j6=>?_]
     let bV:∀b,b∉LO o->b∉ [o.dr,o.df]:=λb Z z=>Z (by simp![LO,uF,uI,uR] at z⊢;rcases z with z|z;exact .inr (.inr (.inl z));exact .inr (.inr (.inr z)))
     let ce:∀b,H b=U_->b∉ [o.dr,o.df]:=λb Z=>bV b (hB.nlo Z);let cf:Kp (LO o) H H6:=[λb ob h n=>aw.kept b ob (bw.kept b ob h n) (bV b n):bw.tk.trans aw.tk];let aJ:Tk H3 H6:=ah.tk.trans aw.tk;let bx:gc.n=U:=ag.n.trans aX;let aR:(#[Y,(U,p3)::l,don].stk.map (·.1)++#[Y,(U,p3)::l,don].don.map (·.1)).Nodup:=by
      rw[aP];exact S1 n i3
     let bc:(U::(l.map (·.1)++don.map (·.1))).Nodup:=aR;let aK:U∉don.map (·.1):=λz=>(List.nodup_cons.mp bc).1 (uT _ z);let bA:U∉l.map (·.1):=λz=>(List.nodup_cons.mp bc).1 (vO _ z);let cg:iP rk (Vf U)=none:=by
      cases h:iP rk (Vf U) with
      |none=>rfl|some v=>
       have h1:=NN h;rw[hI.rks] at h1;erw[Af.mp h1,q,hq,e];injection e with e
       exact A8 (Af.mpr [q:hq:e]) aK
     rw[bx] at aI bb;rw[wH v1 cg] at aI;let bW:↑uk+Sy.mu #[Y,(U,p)::l,don]<=20001:=bN;let cw:=BZ uk (Vf gc.n:Key);let ch:=yA ad (Vf U:Key) v2;let a1:SY #[Y,l,don++ [(U,p3)]] (JS uk (Vf gc.n)):=by
      intro m';rw[wY];by_cases c:m'=U
      .rw[A6 (by rw[c,bx]),c]
       exact(ud bA).symm
      .rw[A4 (by rw[bx];exact λz=>c (Uu z))]
       refine(hI.uo m').trans ?_;rw[vd];exact⟨λz=>by rcases Ab.mp z with z|z;exact A8 z c;exact z,λz=>uf _ z⟩
     let a2:(rk++ [((Vf U:Key),v1)]).map (·.1)=(don++ [(U,p3)]).map λq:Str×Gp=>(Vf q.1:Key):=by
      rw[uj,uj];have:=hI.rks;rw[this]
      rfl
     let a3:L2.IsL H6 ((don++ [(U,p3)]).map λq:Str×Gp=>Xc q.2) ((rk++ [((Vf U:Key),v1)]).map (·.2)):=by
      rw[uj,uj];exact((hI.rv.mono (hR.tk.trans aJ))).append (L2.IsL.one i6)
     let a4:↑(don++ [(U,p3)])=↑don+1:=by rw[uw];rfl
     let a5:∀(m':Str) (g':Gp),g0D m' (qH qs m')=u_ g'->(∀g2:Gp,Sy.JO (Y:=SyP qs) (don++ [(U,p3)]) m'=u_ g2->∃v,iP (lV ad (Vf U) v2) (Vf m')=u_ v/\Is H6 (YN (g2.en.getD .non)) v)/\(Sy.JO (Y:=SyP qs) (don++ [(U,p3)]) m'=U_->iP (lV ad (Vf U) v2) (Vf m')=U_):=by
      intro m' g' ci;rw[zR];by_cases c:m'=U
      .have aL:Sy.JO (Y:=SyP qs) (don++ [(U,p3)]) m'=(u_ p3:om Gp):=by
        have e1:(don.find? λq=>decide (q.1=m'))=none:=List.find?_eq_none.mpr λq hq e=>aK (by rw[<-c,<-ui e];exact List.mem_map_of_mem hq)
        have e2:((don++ [(U,p3)]).find? λq:Str×Gp=>decide (q.1=m'))=u_ (U,p3):=by rw[UJ,e1,c];simp
        show((don++ [(U,p3)]).find? λq:Str×Gp=>decide (q.1=m')).map (·.2)=u_ p3;rw[e2]
        rfl
       rw[_,λg2 e2=>?_,λz=>?_]
       .have e3:=aL.symm.trans e2;rw[e3,0];rw[A6 (by rw[c])]
        exact[v2:1:j6]
       .have e3:=aL.symm.trans z;rw[e3,0]
      .have aL:Sy.JO (Y:=SyP qs) (don++ [(U,p3)]) m'=Sy.JO (Y:=SyP qs) don m':=by
        have e2:((don++ [(U,p3)]).find? λq:Str×Gp=>decide (q.1=m'))=don.find? λq:Str×Gp=>decide (q.1=m'):=by
         rw[UJ];have:([(U,p3)].find? λq:Str×Gp=>decide (q.1=m'))=none:=by simp;exact λz=>c z.symm
         rw[this,Option.or_none]
        show((don++ [(U,p3)]).find? λq:Str×Gp=>decide (q.1=m')).map (·.2)=(don.find? λq:Str×Gp=>decide (q.1=m')).map (·.2);rw[e2]
       rw[A4 (λz=>c (Uu z))];let aM:(∀g2:Gp,Sy.JO (Y:=SyP qs) don m'=u_ g2->∃v,iP ad (Vf m')=u_ v/\Is H6 (YN (g2.en.getD .non)) v)/\(Sy.JO (Y:=SyP qs) don m'=U_->iP ad (Vf m')=U_):=(aY.mono aJ) m' g' ci;exact[λg2 e2=>aM.1 g2 (aL.symm.trans e2):λz=>aM.2 (aL.symm.trans z)]
     let a6:Xy a.qO a.qq H6 o.x t l:=bt.frame (λb Z ob h=>aw.kept b ob (ah.kept b ob h (aH b (ac b Z))) (ce b (ac b Z))) aJ;let a7:∀q>don++ [(U,p3)],q.2.en.isSome=true:=by
      intro q hq;rcases Ae.mp hq with hq|hq
      .exact hI.fin q hq
      .rw[Ac.mp hq,0];exact au
     let eN:Sy.nx (Sy.S0 (SyP qs) n) (i3+1)=Sy.nxt #[Y,(U,p3)::l,don]:=by show Sy.nxt (Sy.nx _ i3)=_;rw[<-aP]
     let a8:=S1 (qs:=qs) n (i3+1);rw[eN] at a8;let a9:=Eo hB.q aZ;let bB:OI a.qO a.qq H H6 o n (Sy.nxt #[Y,(U,p3)::l,don]) t (JS uk (Vf gc.n)) (rk++ [(Vf U,v1)]) (lV ad (Vf U) v2):=by
      rw[_,cf,[i3+1:eN.symm],aw.kept _ _ bR (by simp![uF,uI,uR,Vb];exact[d2:d3]),aw.kept _ _ bQ (by simp![uF,uI,uR,Vb];exact[d4:d5]),?_,(),aI,?_,?_,?_,bb,?_,(),?_,ac,hI.sep.2,a9,?_,a8]
      .rwa[ae]
      .rwa[ae]
      .rwa[ae]
      .have e:(Sy.nxt #[Y,(U,p3)::l,don]).don.length=↑don+1:=by rwa[ae]
       omega
      .rwa[ae]
      .rwa[ae]
      .rwa[ae]
     exact(_,Vr aC aW,_,t,_,_,_,_,0,1,bB)
    ·
     refine iI (ud (λz=>by rw[z,0])) ?_
     erw[L4 (qs:=qs) au hw hy,p',cj,ae];rw[ae] at aC;erw[Sy.zo hy,y1,_,y3];let bX:=BG (Y:=SyP qs) ((U,p3)::l);let aS:↑((U,p3)::l)<=Sy.mu #[Y,(U,p3)::l,don]:=uY bX (Fb _ _);let cx:↑t=↑l:=hT.len;let bW:↑uk+Sy.mu #[Y,(U,p)::l,don]<=20001:=bN
     rw[0,o.x,o.dx,0,ay.e,kn o _ (),0,o,m,qs,_,uk,p',1,ay,hB.q,af,?_,aA,(),cj,λgn sn H4 aa aF al bC bD bE aT=>?_]
     .rw[uw,u7,List.length_reverse,U8];rw[um] at aS;omega
     let aQ:∀b,b∉LO o->b∉ [o.ls,o.du]:=λb Z z=>Z (by simp![LO,uF,uI,uR] at z⊢;rcases z with z|z;exact .inl z;exact .inr (.inl z))
     let ck:Kp (LO o) H H4:=[λb ob h n=>aa.kept b ob (ap.kept b ob h n) (aQ b n):ap.tk.trans aa.tk];let aH:∀b,H b=U_->b∉ [o.ls,o.du]:=λb Z=>aQ b (hB.nlo Z);let aN:∀b>plc gn sn,H b=none:=λb Z=>by
      have h3:=aT b Z;cases h:H b with
      |none=>rfl|some ob=>
       by_cases c:b>LO o
       .simp![LO,uF,uI,uR] at c;rcases c with rfl|rfl|rfl|rfl
        .rw[af,0] at h3
        .rw[aA,0] at h3
        .rw[aB,0] at h3
        .rw[aD,0] at h3
       .rw[ap.kept b ob h c,0] at h3
     rw[_,_,Vr aC aW,[(m,p')::(U,p3)::l:don],(gn,sn)::(gc,ak)::t,lV uk (Vf m) (.bl v_),rk,ad,_,0,1];let ch:=yA uk (Vf m:Key) (.bl v_)
     rw[5]
     refine(ck,⟨i3+1,by show _=Sy.nxt (Sy.nx _ i3);rw[<-aP,ae]⟩,?_,al,?_,(),aa.kept _ _ aB (by simp![uF,uI,uR,Vb];exact[d2.symm:d4.symm]),hI.rks,hI.rv.mono (hR.tk.trans aa.tk),?_,aa.kept _ _ aD (by simp![uF,uI,uR,Vb];exact[d3.symm:d5.symm]),?_,(),?_,?_,?_,?_,hI.fin,?_)
     .rw[aF,V8,V8,uj,uj]
      rfl
     .intro m';rw[zR];by_cases c:m'=m
      .rw[A6 (by rw[c])]
       exact(u8 (by rw[c];exact ug)).symm
      .rw[A4 (λz=>c (Uu z))];refine(hI.uo m').trans ?_;rw[vd];exact⟨λz=>uf _ z,λz=>by rcases Ab.mp z with z|z;exact A8 z c;exact z⟩
     .show ↑don+_<=_;omega
     .exact aY.mono aa.tk
     .exact(bC,bD,bE,aO.frame (λb Z ob h=>aa.kept b ob h (aH b (aq b Z))) aa.tk,ag,bK,bt.frame (λb Z ob h=>aa.kept b ob h (aH b (ac b Z))) aa.tk)
     .intro b Z;rcases Ae.mp Z with Z|Z
      .exact aN b Z
      .rcases Ae.mp Z with Z|Z
       .exact aq b Z
       .exact ac b Z
     .rw[_,λb Z z=>?_,bu,hI.sep.2];let h3:=aT b Z;rcases Ae.mp z with z|z
      .erw[aO.there b z,ob,e];rw[e,0] at h3
      .erw[bt.there b z,ob,e];rw[e,0] at h3
     .have:=Eo hB.q aZ;rwa[ae] at this
     .have:=S1 (qs:=qs) n (i3+1);let e:Sy.nx (Sy.S0 (SyP qs) n) (i3+1)=⟨(m,p')::(U,p3)::l,don⟩:=by show Sy.nxt (Sy.nx _ i3)=_;rw[<-aP,ae]
      rwa[e] at this
 let u0:SY #[Y,[],[]] []:=λm=>by rw[KP];rfl
 let f0:C3 H #[Y,[],[]] []:=λm g hg=>⟨(λg' e=>by rw[e,0]),λ_=>KP⟩
 let g0:SGI #[Y,[],[]]:=λp hp=>by rcases hp with hp|hp<;>cases hp
 rw[0,o.x,o.dx,0,hO.e,kn o _ (),0,o,n,qs,#[Y,[],[]],[],[],1,hO,hB.q,g0,bo,u0,bH,f0,(),(λ_ z=>by rw[z,0]),λv H1 fk1 k1 f1 d1 l1 bY y1=>?_]
 let aR:=hB.nd;simp![LO,UF,uF,uI,uR,Vb,vZ,and_true,V7] at aR;erw[aR,[n1,n2,n3],[n4,n5],n6];let aU:∀b,b≠o.df->b∉ [o.df]:=λb Z z=>Z (Ac.mp z);let aV:Kp (LO o) H H1:=⟨λb ob h z=>k1.kept b ob h (λy=>z (by rw[Ac.mp y];simp[LO])),k1.tk⟩
 let bZ:=hB.at aV;let bd:=k1.kept _ _ bF (aU _ n3);let bf:=k1.kept _ _ bo (aU _ n5);let bg:=k1.kept _ _ bG (aU _ n6)
 rw[1,0];unfold CZ at y1;cases hg:(SyP qs).g0 n with
 |none=>
  let ey:Sy.yet #[Y,[],[]] n=u_ (u_ ((SyP qs).once n)):=by
   unfold Sy.yet;rw[A4 (by intro z;rw[z,0]),hg]
  rw[ey] at y1;erw[y1,d,i1,i2,_];let cm:d≠ .non:=by
   cases h:(SyP qs).once n with
   |none=>rw[h] at i2;intro z;rw[z,0] at i2|some x=>rw[h] at i2;intro z;rw[z,0] at i2
  refine iI (ud (Ju i1 cm)) ?_;let e0:Sy.S0 (SyP qs) n=⟨[],[]⟩:=by unfold Sy.S0;rw[hg]
  rw[e0] at bI;let l1:↑fk1<=0+1:=l1;exact bJ H1 [[]:[]] [] [] [] fk1 (aV,[(0):e0.symm],bd,bf,u0,(by show 0+_<=_;omega),bg,1,1,(by show 0+_<=_;omega),f1,d1,(),trivial,(λb Z=>by rw[Z,0]),trivial,g0,(λq hq=>by rw[hq,0]),vZ)
 |some p=>
  let ey:Sy.yet #[Y,[],[]] n=none:=by
   unfold Sy.yet;rw[A4 (by intro z;rw[z,0]),hg]
   rfl
  rw[ey] at y1;rw[show v= .non from y1,0]
  refine iO (u8 rfl) ?_;let e0:Sy.S0 (SyP qs) n=⟨[(n,p)],[]⟩:=by unfold Sy.S0;rw[hg]
  rw[e0] at bI;let bY:↑fk1=0:=bY ey
  rw[0,o.x,o.dx,0,bZ.e,kn o _ (),0,o,n,qs,[],[],p,1,bZ,hB.q,bd,(),bf,(),hg,λgn sn H2 k2 am b3 bC bD bE aT=>?_]
  let cn:Kp (LO o) H H2:=⟨λb ob h z=>k2.kept b ob (aV.kept b ob h z) (λy=>z (by simp![LO,uF,uI,uR] at y⊢;rcases y with y|y;exact .inl y;exact .inr (.inl y))),aV.tk.trans k2.tk⟩
  let aN:∀b>plc gn sn,H b=none:=λb Z=>by
   let h3:=aT b Z;cases h:H b with
   |none=>rfl|some ob=>
    by_cases c:b=o.df
    .rw[c,f1,0] at h3
    .rw[k1.kept b ob h (aU b c),0] at h3
  let bh:∀b,b≠o.ls->b≠o.du->b∉ [o.ls,o.du]:=λb h1 h2 z=>by
   simp![uF,uI,uR] at z;rcases z with z|z
   .exact h1 z
   .exact h2 z
  refine bJ H2 [[(n,p)]:[]] [(gn,sn)] (lV [] (Vf n) (.bl v_)) [] fk1 (cn,[(0):e0.symm],am,b3,?_,?_,k2.kept _ _ bg (bh _ (U1 n2) (U1 n4)),1,1,(by show 0+_<=_;omega),k2.kept _ _ f1 (bh _ (U1 n3) (U1 n5)),d1.mono k2.tk,(),(bC,bD,bE,trivial),?_,⟨λb Z z=>(by rw[z,0]),trivial⟩,?_,(λq hq=>by rw[hq,0]),?_)
  .intro m';rw[zR];by_cases c:m'=n
   .rw[A6 (by rw[c])]
    exact(u8 (by rw[c];exact ug)).symm
   .rw[A4 (λz=>c (Uu z)),KP];exact(ud (λz=>c (Ac.mp z))).symm
  .have:=yA [] (Vf n:Key) (.bl v_);rw[HW] at this;omega
  .intro b Z;rcases Ae.mp Z with Z|Z
   .exact aN b Z
   .rw[Z,0]
  .intro q hq;rcases hq with hq|hq
   .rw[Ac.mp hq,0];exact EZ hB.q hg
   .rw[hq,0]
  .exact List.nodup_cons.mpr ⟨(λz=>by rw[z,0]),vZ⟩
end
namespace Sy
variable {Y:Sy}
end Sy
section
variable {qs qs':oj (Str×D)}
nonrec abbrev FP (qs:oj (Str×D)):Sy.Orc:=Sy.F (SyP qs)
nonrec abbrev itP (qs:oj (Str×D)) (k:Nat) (g:Gp):Gp:=Sy.it (SyP qs) (FP qs) k g
def NR (g:Gp):Sy.step (SyP qs) (FP qs) g=if g.en.isSome=v_ then g else match jH g with
  |none=>Bw qs g|some m=>match FP qs m with
   |some a=>Y8 g (a.getD .non)|none=>Aad g m:=rfl
abbrev Yy (p:Gp):oj D:=p.ra++runPG' p.run
where runPG':om (oj Rw×Rn)->oj D
 |none=> []|some (_,r)=>r.gs
abbrev GA (g:Gp):Prop:=g.run=U_->g.en=U_->g.ra= []
def Ai {rs:oj Rw}{own:Str}{gs:oj D}:∀(f:Nat) (B:Str->D) (p:Int) (n:Nat),(mU rs own gs f B p n).gs=gs
 |0,B,p,n=>rfl|f+1,B,p,n=>by
  unfold mU;by_cases c:GT.gt p (↑rs)
  .rw[A6 c]
  .rw[A4 c];cases Z:mL own (JM rs p) B p with|go U p'=>exact Ai f U p' (n+1)|stop e=>rfl
def SX {r:Rn}{a:D}:(mO rs own r a).gs=r.gs++ [-[wu r.th,a]]:=by
 unfold mO;split
 .rfl
 .exact Ai _ _ _ _
def Cf (h:g.run=U_)(d:D):Yy (AT g d)=g.ra/\GA (AT g d):=by
 unfold AT;split
 .rw[_,?_,λ_ z=>by rw[z,0]]
  show g.ra++Yy.runPG' g.run=g.ra;rw[h];exact vH _
 .cases hd:ye d with
  |none=>
   rw[_,?_,λ_ z=>by rw[z,0]]
   show g.ra++Yy.runPG' g.run=g.ra;rw[h];exact vH _
  |some rs=>
   rw[_,?_,λz=>by rw[z,0]]
   show g.ra++(R0 rs g.n).gs=g.ra;rw[show(R0 rs g.n).gs= [] from Ai _ _ _ _]
   exact vH _
def Wl (ha:GA g)(he:g.en=U_)(d:D):Yy (Y8 g d)=Yy g++ [-[YQ g,d]]/\GA (Y8 g d):=by
 unfold Y8;cases U:g.run with
 |none=>
  let Z:=ha U he;erw[Cf (g:=(g.n,g.mb,[-[-[-"rule",g.mb],d]],U_,g.en)) rfl d,h1,h2];rw[_,h1.trans ?_,h2];let e1:Yy g= []:=by unfold Yy;rw[Z,U];rfl
  let e2:YQ g=-[-"rule",g.mb]:=by unfold YQ;rw[U]
  rw[e1,e2]
  rfl
 |some p=>
  erw[p,rs,r];rw[_,?_,λz=>by rw[z,0]]
  show g.ra++(mO rs g.n r d).gs=Yy g++_;let e2:YQ g=wu r.th:=by unfold YQ;rw[U]
  let e3:Yy g=g.ra++r.gs:=by unfold Yy;rw[U];rfl
  rw[SX,e2,e3,V6]
def Mp {d:D}(h:g0D m d=u_ g):GA g/\Yy g= []:=by
 unfold g0D at h;split at h
 .split at h
  .rw[h,0]
  .split at h
   .rw[h,0];exact[λ_ _=>rfl:1]
   .rw[h,0];erw[Cf (g:=(m,.non,[],U_,U_)) rfl _,h1,h2,<-[h2:h1]]
 .rw[h,0]
def DZ (Z:Q0 qs)(U:g0D m (qH qs m)=U_):Zu ((qaN (qH qs m)).getD .non):=by
 by_cases hm:m>qs.map (·.1)
 .erw[j7 Z hm,hn,k,e,hd,h1,h2];rw[hd] at U⊢;unfold g0D at U;simp only at U;by_cases c:k="leaf"
  .exact .inr (h2 (by rw[c];decide+kernel)).2
  .rw[A4 c] at U;split at U<;>cases U
 .rw[Yp hm];exact .inl rfl
def sX (hq:Q0 qs){f:Sy.Orc}(hf:∀m a,f m=u_ a->Zu (a.getD .non))(h:GI g)(ha:GA g):GI (Sy.step (SyP qs) f g)/\GA (Sy.step (SyP qs) f g):=by
 let e:Sy.step (SyP qs) f g=if g.en.isSome=v_ then g else match jH g with
  |none=>Bw qs g|some m=>match f m with
   |some a=>Y8 g (a.getD .non)|none=>Aad g m:=rfl
 rw[e];cases U:g.en with
 |some d=>exact[h:ha]|none=>
  simp![Tc,A4 uc];cases Z:jH g with
  |none=>
   erw[wJ (qs:=qs) h U Z,rs,r,k,z,_,_,hk,_,e];rw[_,Nq hq h U Z];show GA (Bw qs g);rw[e];exact(Wl ha U _).2
  |some m=>
   simp only;cases hm:f m with
   |some a=>exact[AH h U (hf m a hm):(Wl ha U _).2]|none=>exact⟨Np h m,λ_ z=>by rw[z,0]⟩
def Sq (U:Q0 qs){f:Sy.Orc}(Z:∀m a,f m=u_ a->Zu (a.getD .non)):∀(k:Nat) {g:Gp},GI g->GA g->GI (Sy.it (SyP qs) f k g)/\GA (Sy.it (SyP qs) f k g)
 |0,g,h,ha=>[h:ha]|k+1,g,h,ha=>Sq U Z k (sX U Z h ha).1 (sX U Z h ha).2
def Aco (Z:Q0 qs):∀(k:Nat) (m:Str) (a:om D),Sy.Fh (SyP qs) k m=u_ a->Zu (a.getD .non)
 |0,m,a,h=>by
  cases U:(SyP qs).g0 m with
  |none=>rw[Sy.WR U,0] at h;exact DZ Z U|some g=>rw[Sy.KQ U,0] at h
 |k+1,m,a,h=>by
  cases U:(SyP qs).g0 m with
  |none=>rw[Sy.WR U,0] at h;exact DZ Z U|some g=>
   rw[Sy.Fh_run U] at h;let aa:=Sq Z (Aco Z k) 302 (EZ Z U).1 (Mp U).1;cases hs:(SyP qs).said (Sy.it (SyP qs) (Sy.Fh (SyP qs) k) (SyP qs).M g) with
   |none=>rw[hs,0] at h|some v=>
    rw[hs,0] at h;exact .inr (DC aa.1 hs)
def AdK (U:Q0 qs)(m:Str)(a:om D)(h:FP qs m=u_ a):Zu (a.getD .non):=by
 erw[(Sy.F_iff (yY qs)).mp h,k,h,<-Aco U k m a h]
def AbK (U:Q0 qs)(Z:g0D m (qH qs m)=u_ g)(k:Nat):GI (itP qs k g)/\GA (itP qs k g):=Sq U (AdK U) k (EZ U Z).1 (Mp Z).1
end
abbrev Dn (qs:oj (Str×D))(n:Str)(don:oj (Str×Gp)):Prop:=∃j,Sy.nx (Sy.S0 (SyP qs) n) j=[[]:don]
section
variable {qs:oj (Str×D)}{n:Str}{don don':oj (Str×Gp)}
def AbW (h:Dn qs n don)(k:Dn qs n don'):don=don':=by
 erw[h,i,hi];erw[k,j,U];let e:=Sy.nx_one (S:=Sy.S0 (SyP qs) n) (k:=i) (j:=j) (by rw[hi]) (by rw[U])
 rw[hi,U] at e;exact Aa Sy.Ss.don e
def Im (U:g0D n (qH qs n)=U_)(h:Dn qs n don):don= []:=by
 let e0:Sy.S0 (SyP qs) n=⟨[],[]⟩:=by unfold Sy.S0;rw[show(SyP qs).g0 n=U_ from U]
 exact AbW h [(0):e0]
def SL (U:g0D n (qH qs n)=u_ g)(h:Dn qs n don):Sy.SOk (Y:=SyP qs) n [[]:don]:=by
 erw[h,j,Z];rw[<-Z];exact Sy.nx_ok (yY qs) (Sy.S0_ok U) j
def SM (U:g0D n (qH qs n)=u_ g)(h:Dn qs n don):(don.map (·.1)).getLast? =u_ n:=by
 rcases(SL U h).bot with b|⟨_,b⟩
 .rw[b,0]
 .exact b
def Io (h:Dn qs n don){p:Str×Gp}(U:p>don):∃s,g0D p.1 (qH qs p.1)=u_ s/\p.2=Sy.it (SyP qs) (Sy.F (SyP qs)) 302 s:=by
 cases Z:g0D n (qH qs n) with
 |none=>rw[Im Z h,0] at U|some g=>exact(SL Z h).don p U
def Adq (h:Dn qs n don):(don.map (·.1)).Nodup:=by
 cases U:g0D n (qH qs n) with
 |none=>rw[Im U h];exact vZ|some g=>exact(SL U h).nd
end
abbrev IF (p:Gp):D:= .tup (p.ra++oy p.run)
abbrev Mt (p:Gp):D:=p.en.getD .non
def Mr (p:Gp):Xc p=-[IF p,Mt p]:=rfl
def AaX:∀{rk:oj (Key×V)}{don:oj (Str×Gp)},(rk.map (·.1)=don.map λp=>Vf p.1)->∃vs:oj (Str×V),rk=iM vs/\vs.map (·.1)=don.map (·.1)/\vs.map (·.2)=rk.map (·.2)
 | [],[],_=>([],1,1,1)| [],_::_,h=>by rw[h,0]|_::_,[],h=>by rw[h,0]|(k,v)::r,p::l,h=>by
  injection h with h1 h2
  erw[AaX h2,vs,U,e2,e3];rw[_,(p.1,v)::vs,?_,?_,?_]
  .rw[zT,<-U];let h1:k=Vf p.1:=h1;rw[h1]
  .rw[uA,uA,e2]
  .rw[uA,uA,e3]
def Adj {p:Gp}(h:GI p)(U:p.en.isSome=v_):nD (IF p)=v_/\dp (IF p)<=31/\nD (Mt p)=v_/\dp (Mt p)<=20:=by
 let h1:nL (p.ra++oy p.run)=v_/\dpL (p.ra++oy p.run)<=30:=by
  cases hr:p.run with
  |none=>exact⟨BC h.ra.1 rfl,AK 30 h.ra.2.1 (by simp[dpL,oy])⟩|some q=>
   erw[q,rs,r];let h2:=(h.run rs r hr).2.1.gs;exact[BC h.ra.1 h2.1:AK 30 h.ra.2.1 h2.2.1]
 refine⟨h1.1,by show 1+_<=31;omega,?_⟩
 unfold Mt;cases Z:p.en with
 |none=>rw[Z,0] at U|some d=>
  show nD d=v_/\dp d<=20;rcases h.en d Z with⟨z,rfl⟩|⟨x,rfl,hx⟩|⟨z,rfl⟩
  .exact⟨1,by show dp (-[-"fault",!z])<=20;simp[dp,dpL]⟩
  .have:=JE hx;rw[_,?_,?_]
   .simp![nD,nL,jP (yg hx),U9]
   .simp![dp,dpL];omega
  .exact⟨1,by simp[dp,dpL]⟩
end K42
namespace K42
open PySem L2 PyProof.Rows
structure Ady (CO CP:o3)(H0 H:Hp)(qs:oj (Str×D))(n:Str)(o:Oc)(rk uk fk:oj (Key×V))(don:oj (Str×Gp)):Prop where
 sm:ic H0 H
 oa:OAt CO CP H o qs
 dr:H o.dr=u_ (.dK rk)
 ks:rk.map (·.1)=don.map λp=>Vf p.1
 vs:L2.IsL H (don.map λp=>Xc p.2) (rk.map (·.2))
 du:H o.du=u_ (.dK uk)
 uo:SY #[Y,[],don] uk
 df:H o.df=u_ (.dK fk)
 fd:C3 H #[Y,[],don] fk
 fl:↑fk<=20101
 dn:Dn qs n don
 sg:SGI #[Y,[],don]
 gi:∀p>don,GI p.2/\p.2.en.isSome=v_
 len:↑don<=20001
 new:H0 o.x=U_/\H0 o.dr=U_/\H0 o.du=U_/\H0 o.df=U_
 ne:o.dr≠o.df/\o.du≠o.df
inductive AaQ (bn:Addr):Sp
 |mk (z:Str)(_:vs= [!z])(hz:↑z<=1000)(_:nm z=v_->∀H',ic H H'->Q .non H')(_:nm z=Vd->∀(e:Addr)(H':Hp),ic H H'->E_ (-e) (u_ bn) H')
inductive Ox:Sp
 |mk (t:_)(z:_)(_:vs= [-t])(_:H t=u_ (-[!z]))(_:nm z=v_)(_:∀H',ic H H'->Q .non H')
inductive Oh (CO CP:Addr):Sp
 |mk (px t:Addr)(n:Str)(qs:List (Str×D))(_:vs= [-px,-t])(_:H t=u_ (-[!n]))(_:nm n=v_)(_:yn CP H px qs)(_:Q0 qs)(_:∀H' o rk uk fk don,o.px=px->Ady CO CP H H' qs n o rk uk fk don->↑fk<=20001->Q (-o.x) H')
inductive Ov (CO CP:Addr):Sp
 |mk (px:Addr)(n:Str)(qs:List (Str×D))(_:vs= [-px,!n])(_:nm n=v_)(_:yn CP H px qs)(_:Q0 qs)(_:∀H' o rk uk fk don,o.px=px->Ady CO CP H H' qs n o rk uk fk don->↑fk<=20001->Q (-o.x) H')
section
variable {P:o9}{w:og}{K:o0}{mg:Str->om o6}{base:o8}{a:Ad}{g:Ga}
def Abp (T:Tx K mg a)(C:Fx K w mg g a):FnOk P w K mg base (CX1 P w) 2 a.Z5 a.wc ["name"] (AaQ g.bn):=by
 let U:=#[xu,T];refine T.lp.F.okX KZ () (λ_ _ _ _ H _ Q E Z h=>?_)
 erw[h,z,rfl,aa,k1,k2];rw[3,%[|#[qI,#[Qo,#[Qe,#[qt,16,U,Z.mono (),_,T.iF.m,T.iF.F.kp,T.iF.b,.nil,qC,#v[pv 0],_,_,_]]],%[|#[qaB,22,C.x_BadName,_,C.m_BadName,qi,_,_]],qp]]]
 rw[0,!z,!z,1,Qi (),λH1 s1=>[0:?_]]
 let e:mM (!z)=nm z:=rfl;rw[e];cases hn:nm z with
 |false=>exact iY [1:λe=>k2 hn e H1 s1]|true=>exact iU (k1 hn H1 s1)
def PN:#[C,3,a.X6,a.zm,["names"],Ox]:=by
 let U:=#[Abp,T,C];rw[9,T.mB,Xg]
 erw[h,t,z,rfl,ht,hz,k];rw[3,%[|#[y7,#[wq,pv 0],#[qJ,(1),Xg.nd],%[|#[qY,#[qt,16,U,hr.mono (),_,T.lp.m,T.lp.F.kp,T.lp.b,.nil,DO,#v[pv 1],_,_,_]]]]]]
 rw[0,t,1,[_:SqT.of ht]];refine xB (xs:= [!z]) (λi σ H'=>(∃u,σ= [u_ (-t),u])/\ic H H') [⟨0⟩:ic.refl _] (λi σ H' _ h=>SqT.of (h.2 _ _ ht)) ?_ ?_
 .rintro i x σ H' hx ⟨⟨u,rfl⟩,s1⟩;let Z:x= !z:=by
   cases i with
   |zero=>exact(uL hx).symm|succ i=>rw[hx,0]
  subst Z;exact(0,z,1,by have:=zG hz;omega,λ_ H2 s2=>[⟨0⟩:s1.trans s2],λz=>A8 (hz.symm.trans z) Bool.noConfusion)
 .rintro σ H' ⟨_,s1⟩;exact k H' s1
def Pv:#[C,14,a.wn,a.wb,["project","names"],(Oh a.qv a.qK)]:=by
 let au:=#[PN,T,C];let Zw:=#[LE,T];let Jk:=#[O7,T,C];rw[9,T.ll,Jp]
 erw[h,px,t,n,qs,rfl,ht,hn,hP,hq,k1];rw[3,%[#[qY,#[qt,au,T.mB,#v[pv 1]]],#[qF,(2),Jp.nd,#[xD,T.M_PlainOrder,Zw,T.m_PlainOrder,T.lU,qC,#v[pv 0]]],#[y7,#[wq,pv 1],#[qJ,(3),Jp.nd],%[|#[qY,#[Qh,pv 2,T.qD,T.iR,Jk,#v[pv 3]]]]]|#[qo,pv 2]]]
 rw[8,N1,q1]
 rw[0,t,n,1,ht,hn,λH1 s1=>q1 _ _ ?_];rw[8,N2,q2]
 rw[0,λx dx hx aw nx=>?_];let s0:ic H1 (upd (upd H1 dx (.own x)) x (.ins a.qv dx [])):=λb o h=>by rwa[qk (ql h hx),qk (ql h aw)]
 rw[_,x,dx,px,1,qg,λo H2 eo ax ay kp tk f1 f2 f3 f4 nd ad ae af ag ah=>[1:q2 _ _ ?_]];rw[8,N3,q3];let aA:ic H1 H2:=λb ob h=>kp b ob (s0 b ob h) (ql h hx);let U:=s1.trans aA;let ak:=U _ _ ht;subst eo ax ay;let hB:Bs a.qv a.qK H2 o qs:=([ad:hP.same U],[_:ae],[_:af],[_:ag],[_:ah],nd,hq)
 rw[0,t,1,[_:SqT.of ak]];let fr:∀b,upd (upd H1 o.dx (.own o.x)) o.x (.ins a.qv o.dx []) b=U_->H b=none:=λb Z=>by
  cases e:H b with
  |none=>rfl|some ob=>rw[s0 b ob (s1 b ob e),0] at Z
 refine_lift let J_:Nat->L2.St->Hp->Prop:=λi σ H'=>(∃u,σ= [u_ (-o.px),u_ (-t),u_ (-o.x),u])/\((i=0/\H'=H2)\/(i=1/\∃rk uk fk don,Ady a.qv a.qK H H' qs n o rk uk fk don/\↑fk<=20001));?_
 refine xB (xs:= [!n]) J_ [⟨0⟩:.inl [1:1]] (λi σ H' _ h=>?_) ?_ ?_
 .rcases h.2 with⟨_,rfl⟩|⟨_,rk,uk,fk,don,h,_⟩
  .exact SqT.of ak
  .exact SqT.of (h.sm _ _ ht)
 .rintro i x' σ H' al ⟨⟨u,rfl⟩,h⟩;let aa:x'= .str n/\i=0:=by
   cases i with
   |zero=>exact[(uL al).symm:1]|succ i=>rw[al,0]
  erw[aa,rfl,rfl];rcases h with⟨_,rfl⟩|⟨z,_⟩
  .rw[0,o.x,o.dx,0,ad,kn o _ (),0,o,qs,n,1,hB,ae,af,ag,ah,λH3 rk uk fk don j am aB ao aC aD aE k3 aF ap aG aH aI aq=>?_]
   let out:∀b,H b≠U_->b∉LO o:=λb Z z=>by
    simp![LO,uF,uI,uR] at z;rcases z with rfl|rfl|rfl|rfl
    .exact Z (fr _ f1)
    .exact Z (fr _ f2)
    .exact Z (fr _ f3)
    .exact Z (fr _ f4)
   let ac:=nd;simp![UF,uF,uI,uR,Vb,vZ,and_true,V7] at ac;let aa:H o.x=none:=by
    cases e:H o.x with
    |none=>rfl|some ob=>rw[s1 _ _ e,0] at hx
   exact⟨⟨0⟩,.inr (1,rk,uk,fk,don,(λb ob e=>k3.kept b ob (U b ob e) (out b (by rw[e];intro z;rw[z,0])),hB.at k3,ap,aG,aH,am,aB,ao,aC,(),[j:aF],aE,aI,aq,(aa,fr _ f3,fr _ f2,fr _ f4),[ac.2.2:ac.2.1.2]),aD)⟩
  .rw[z,0]
 .rintro σ H' ⟨⟨u,rfl⟩,h⟩;rcases h with⟨z,_⟩|⟨_,rk,uk,fk,don,h,hl⟩
  .rw[z,0]
  .exact q3 _ _ [0:k1 H' o rk uk fk don rfl h hl]
def Ei:#[C,15,a.Z1,a.Z4,["project","name"],(Ov a.qv a.qK)]:=by
 let U:=#[Pv,T,C];rw[9,T.iV,qam,Z]
 erw[h,px,n,qs,rfl,hn,hP,hq,k1];let hs:=uB;rw[3,%[|#[qo,#[qt,16,U,Z.mono (),_,T.ll.m,T.ll.F.kp,T.ll.b,.nil,qC,#v[pv 0,#[qA,#v[pv 1]]],_,_,_]]]]
 rw[0,0,(sml rfl),λt ht=>?_];let s1:=qf ht (-[V.str n]);exact(px,t,n,qs,1,qg,hn,hP.same s1,hq,λH' o rk uk fk don e h hl=>k1 H' o rk uk fk don e (s1.trans h.sm,h.oa,h.dr,h.ks,h.vs,h.du,h.uo,h.df,h.fd,h.fl,h.dn,h.sg,h.gi,h.len,(s1.free h.new.1,s1.free h.new.2.1,s1.free h.new.2.2.1,s1.free h.new.2.2.2),h.ne) hl)
end
def MB (p:Gp):IF p= .tup (Yy p):=by
 unfold IF Yy;cases p.run with
 |none=>rfl|some q=>rfl
abbrev Aal (qs:oj (Str×D))(x:D):Prop:=∃kd z a,x= .tup [-[!kd,!z],a]/\↑z<=1000/\((mP kd=v_/\a=jR qs kd z)\/(mP kd=Vd/\(kd="thing"\/kd="rule")/\∃y,FP qs z=u_ y/\a=y.getD .non))
variable {g:Gp}{m:Str}
set_option tactic.hygienic true in
def NI (h:GI g)(U:jH g=u_ m):∃kd,YQ g= .tup [!kd,!m]/\mP kd=false:=by
 unfold jH at U;split at U
 .rename_i k z e
  by_cases c:mP k=v_
  .rw[A6 c,0] at U
  .rw[A4 c,0] at U;exact⟨k,e,by simpa using c⟩
 .rw[U,0]
variable {kd:Str}
def Aam (h:GI g)(he:g.en=U_)(Z:YQ g=-[!kd,!m]):↑m<=1000:=by
 unfold YQ at Z;cases hr:g.run with
 |none=>
  rw[hr] at Z;erw[h.no hr he,z,hz,hn];simp![hz] at Z;rw[Z,0];have:=zG hn;omega
 |some p=>
  erw[p,rs,r];rw[hr] at Z;erw[h.run rs r hr,_,_,ht,U];let U:=U he;rcases ht with⟨z,e⟩|⟨e1,e,_⟩|⟨u,z,e,hT,_⟩
  .rw[e] at U;exact A8 (show decide (("fault":Str)="asks")=v_ from U) ()
  .rw[e] at U;exact A8 (show decide (("said":Str)="asks")=v_ from U) ()
  .simp![e] at Z;let Z:(D.tup [!u,!z])=-[!kd,!m]:=Z;rw[Z,0];have:=Y2 hT;have:↑m<=600:=this;omega
def AcA (h:GI g)(he:g.en=U_)(U:YQ g=-[!kd,!m])(hk:mP kd=Vd):kd="thing"\/kd="rule":=by
 unfold YQ at U;cases hr:g.run with
 |none=>
  rw[hr] at U;let U:D.tup [-"rule",g.mb]=-[!kd,!m]:=U;injection U with U
  injection U with U _
  injection U with U
  exact .inr U.symm
 |some p=>
  erw[p,rs,r];rw[hr] at U;let U:wu r.th=-[!kd,!m]:=U;let aa:=(h.run rs r hr).2.2;let Z:=aa.2 he;rcases aa.1 with⟨z,e1⟩|⟨e0,e1,_⟩|⟨u,z,e1,_,hu⟩
  .rw[e1] at Z;exact A8 (show decide (("fault":Str)="asks")=v_ from Z) ()
  .rw[e1] at Z;exact A8 (show decide (("said":Str)="asks")=v_ from Z) ()
  .rw[e1] at U;let U:D.tup [!u,!z]=-[!kd,!m]:=U;rw[U,0];rcases hu with rfl|⟨rfl|rfl,_⟩
   .exact A8 hk ()
   .exact .inl rfl
   .exact A8 hk ()
section
variable {qs:oj (Str×D)}
def AaL (hq:Q0 qs)(h:GI g)(ha:GA g)(hF:∀x>Yy g,Aal qs x):∀x>Yy (Sy.step (SyP qs) (FP qs) g),Aal qs x:=by
 let aa:∀{d:D},g.en=U_->(∀kd z,YQ g= .tup [!kd,!z]->(mP kd=v_/\d=jR qs kd z)\/(mP kd=Vd/\(kd="thing"\/kd="rule")/\∃y,FP qs z=u_ y/\d=y.getD .non))->(∃kd z,YQ g=-[!kd,!z])->∀x>Yy (Y8 g d),Aal qs x:=by
  intro d U h1 ⟨kd,z,e⟩ x Z;rw[(Wl ha U d).1] at Z;rcases Ae.mp Z with Z|Z
  .exact hF x Z
  .rw[Ac.mp Z,0];exact(kd,z,d,by rw[e],Aam h U e,h1 kd z e)
 rw[NR];cases U:g.en with
 |some d=>exact hF|none=>
  simp![Tc,A4 uc];cases hw:jH g with
  |none=>
   erw[wJ (qs:=qs) h U hw,rs,r,k,z,ac,ad,hk,_,e];show∀x>Yy (Bw qs g),_;rw[e];let hp:YQ g=-[!k,!z]:=by
    unfold YQ;rw[ac];show wu r.th=_;rw[ad]
    rfl
   exact aa U (λkd y e2=>by rw[hp,0] at e2;exact .inl [hk:1]) [k:z:hp]
  |some m=>
   simp only;erw[NI h hw,kd,hp,hk];cases ae:FP qs m with
   |some a=>exact aa U (λaf y e2=>by rw[hp,0] at e2;exact .inr (hk,AcA h U hp hk,a,ae,1)) [kd:m:hp]|none=>exact hF
def Ad0 (U:Q0 qs):∀(k:Nat) {g:Gp},GI g->GA g->(∀x>Yy g,Aal qs x)->∀x>Yy (itP qs k g),Aal qs x
 |0,g,h,ha,t=>t|k+1,g,h,ha,t=>by
  erw[sX U (AdK U) h ha,h1,h2,<-Ad0 U k h1 h2 (AaL U h ha t)]
def AbZ (Z:Q0 qs)(U:g0D m (qH qs m)=u_ g)(k:Nat):∀x>Yy (itP qs k g),Aal qs x:=
 Ad0 Z k (EZ Z U).1 (Mp U).1 (λx hx=>by rw[(Mp U).2,0] at hx)
def EL {s:Gp}(U:g0D m (qH qs m)=u_ s):(itP qs 302 s).en.isSome=true:=Sy.it_end (Y:=SyP qs) (yY qs) 302 s ((yY qs).l0 m s U)
end
inductive Lh (CP:Addr):Sp
 |mk (px:Addr)(n:Str)(qs:List (Str×D))(gp:Gp)(_:vs= [-px,!n])(_:nm n=v_)(_:yn CP H px qs)(_:Q0 qs)(_:g0D n (qH qs n)=u_ gp)(_:∀v H',ic H H'->GI (itP qs 302 gp)->(itP qs 302 gp).en.isSome=v_->Is H' (Xc (itP qs 302 gp)) v->Q v H')
section
variable {P:o9}{w:og}{K:o0}{mg:Str->om o6}{base:o8}{a:Ad}{g:Ga}
def LN:#[C,16,a.Ko,a.k9,["project","name"],(Lh a.qK)]:=by
 let xq:=#[Ei,T,C];refine T.nz.F.ok Ws () (λ_ _ _ _ H vs Q E hr h=>?_)
 erw[h,px,n,qs,gp,rfl,hn,hP,hq,hg,k];rw[3,%[#[qF,(2),Ws.nd,#[qt,xq,T.iV,#v[pv 0,pv 1]]],#[qI,#[kK,#[oG,5,QU hr,pv 1,#[qQ,5,pv 2,rfl]]],%[|Jq],qp]|#[qo,#[QN,#[qQ,5,pv 2,rfl],pv 1]]]]
 rw[8,N1,q1]
 rw[0,0,px,n,qs,1,hn,hP,hq,λH' o rk uk fk don _ h _=>q1 _ _ ?_];erw[AaX h.ks,vs,e1,e2,e3];let hk:vs.map (·.1)=(don.map λq=>(q.1,Xc q.2)).map (·.1):=by rw[e2,uO];rfl
 let hi:L2.IsL H' ((don.map λq=>(q.1,Xc q.2)).map (·.2)) (vs.map (·.2)):=by rw[e3,uO];exact h.vs
 let aa:=h.dr;rw[e1] at aa;let he:=h.oa.e;rw[8,N2,q2]
 rw[0,0,o.x,_,o.dx,_,0,he,T.qD,T.Qm,LZ o,o.dr,0,mT.k (k:=Vf n) aa,0];let hl:=SM hg h.dn;let Z:=List.mem_of_getLast? hl;erw[Af.mp Z,[m,p],ac,rfl];let ad:m>(don.map λq=>(q.1,Xc q.2)).map (·.1):=by rwa[uO]
 erw[CJ hk hi ad,l1,l2];let hd:qH (don.map λq=>(q.1,Xc q.2)) m=Xc p:=NA (by rw[uO];exact Adq h.dn) (Af.mpr [(m,p):ac:1])
 rw[hd] at l2;erw[Io h.dn ac,s0,f1,f2];let f1:g0D m (qH qs m)=u_ s0:=f1;let hg:g0D m (qH qs m)=u_ gp:=hg;rw[hg,0] at f1;let f2:p=itP qs 302 gp:=f2;let U:=h.gi _ ac;let U:GI p/\p.en.isSome=true:=U;rw[l1];refine iI rfl (q2 _ _ ?_)
 rw[0,o.x,_,o.dx,_,0,he,T.qD,T.Qm,LZ o,0,o.dr,0,(by rw[<-l1];exact mT.k (k:=Vf m) aa)]
 rw[f2] at l2 U;exact k _ H' h.sm U.1 U.2 l2
inductive AaO (CP:Addr):Sp
 |mk (px:Addr)(n:Str)(qs:List (Str×D))(_:vs= [-px,!n])(_:nm n=v_)(_:yn CP H px qs)(_:Q0 qs)(_:∀t H' don,ic H H'->H' t=u_ (.tup (don.map λp=>V.str p.1))->Dn qs n don->↑don<=20001->(∀p>don,GI p.2/\p.2.en.isSome=v_)->Q (-t) H')
variable {qs:oj (Str×D)}{x:Str}
def AbV (U:Q0 qs){n:Str}{don:oj (Str×Gp)}(h:Dn qs n don)(Z:x>don.map (·.1)):nm x=true:=by
 erw[Af.mp Z,[m,p],hp,rfl];erw[Io h hp,s,e,_,<-U.1.1.1 _ ((yY qs).gn _ s e)]
def Abl:#[C,16,a.f_met_by,a.d_met_by,["project","name"],(AaO a.qK)]:=by
 let U:=#[Ei,T,C];rw[9,T.so,DA,Z]
 erw[h,px,n,qs,rfl,hn,hP,hq,k];rw[3,%[|#[qo,#[Qj,#[AR,1,rfl],T.QO,vx,#v[#[qQ,5,#[qt,16,U,Z.mono (),_,T.iV.m,T.iV.F.kp,T.iV.b,.nil,qC,#v[pv 0,pv 1],_,_,_],rfl]]]]]]
 rw[0,0,px,n,qs,1,hn,hP,hq,λH' o rk uk fk don _ h hl=>?_]
 rw[_,o.x,_,o.dx,_,0,h.oa.e,T.qD,T.Qm,LZ o,o.dr,rk,1,.inl h.dr,λt ht=>?_];refine k t _ don (h.sm.trans (qf ht _)) ?_ h.dn h.len h.gi;rw[qg];let e:(rk.map λp=>kV p.1)=don.map λp=>V.str p.1:=by
  have:=Aa (TV kV) h.ks;rwa[uO,uO] at this
 rw[e]
def qae {r:Rn}{u:Str}{d:D}(h:r.th=-[-"asks",-[!u,d]]):QQ r.th=true:=by
 rw[h];exact(show decide (("asks":Str)="asks")=v_ by decide+kernel)
abbrev Hs (src:D)(pre:oj D)(rl:D):Prop:=(src= .tup [-"rule",rl]/\pre= [])\/∃z:Str,src= .tup [-"made",!z]/\pre= [-[-[-"rule",!z],rl]]
abbrev Bf (z:Str):D:=-[-"stuck",!z]
abbrev Aeb (z:Str):D:=-[-"asks",-[-"thing",!z]]
inductive CG (rs:List Rw)(own:Str):Rn->List D->Rn->Prop
 |nil (r:Rn):CG rs own r [] r
 |cons {r r':Rn}{a:D}{gs:List D}(u z:Str)(h1:r.th=-[-"asks",-[!u,!z]])(h2:AU u a=v_)(h3:CG rs own (mO rs own r a) gs r'):CG rs own r (.tup [-[!u,!z],a]::gs) r'
abbrev AdL (r:Rn)(en:D):Prop:=(en=r.th/\QQ r.th=Vd/\∀z,en≠Bf z)\/∃z,en=Bf z/\r.th=Aeb z
inductive GoR (own:Str)(rl:D)(gs:List D)(en:D):Prop
 |lack (h0:jh rl=v_)(h1:gs= [])(h2:en=flt "lack"):GoR own rl gs en
 |bad (h0:jh rl=Vd)(h1:ye rl=U_)(h2:gs= [])(h3:en=flt "rule"):GoR own rl gs en
 |run (rs:List Rw)(r:Rn)(h0:jh rl=Vd)(h1:ye rl=u_ rs)(h3:CG rs own (R0 rs own) gs r)(h5:AdL r en):GoR own rl gs en
inductive Zx (src:D)(own:Str)(as:List D)(en:D):Prop
 |wait (z:Str)(h0:src=-[-"made",!z])(h1:as= [])(h2:en=Bf z):Zx src own as en
 |go (pre gs:List D)(rl:D)(h0:Hs src pre rl)(h1:as=pre++gs)(h2:GoR own rl gs en):Zx src own as en
abbrev C6 (qs ers:oj (Str×D))(kd z:Str)(an:D):Prop:=(kd≠"names"->nm z=v_)/\((mP kd=v_/\an=jR qs kd z)\/(mP kd=Vd/\(kd="thing"\/kd="rule")/\((g0D z (qH qs z)=U_/\an=(qaN (qH qs z)).getD .non)\/((∃s,g0D z (qH qs z)=u_ s)/\z>ers.map (·.1)/\qH ers z=-[-"said",an]))))
nonrec abbrev Pp:=oj (Str×oj D×D)
abbrev iX (ps:Pp):oj (Str×D):=ps.map λs=>(s.1,s.2.2)
variable {z:Str}
def Adn {ps:Pp}(h:z>(iX ps).map (·.1)):∃(j:Nat) (s:Str×oj D×D),ps[j]? =u_ s/\s.1=z/\qH (iX ps) z=s.2.2:=by
 unfold qH;cases U:(iX ps).find? (λp=>decide (p.1=z)) with
 |none=>
  erw[Af.mp h,p,Z,e,<-A8 (u8 e) (List.find?_eq_none.mp U p Z)]
 |some p=>
  erw[Af.mp (vX U),s,hs,e];erw[List.mem_iff_getElem?.mp hs,j,hj];have:=ui (V0 (p:=λp:Str×D=>decide (p.1=z)) U);subst e;exact(j,s,hj,this,1)
abbrev sND:D->Bool
 | .non=>v_| .str _=>v_| .tup xs=>nL xs|_=>Vd
def OH:∀{d:D},sND d=v_->nD d=v_
 | .non,_=>rfl| .str _,_=>rfl| .tup xs,h=>by
  let h:nL xs=true:=h;simp![nD,h]
inductive AdU (x:V)(y:V)(H:Hp)(Q:VK):Prop
 |mk (d e:D)(_:Is H d x)(_:Is H e y)(_:sND d=v_)(_:sND e=v_)(_:dp d<=60)(_:Q (.bl (eqD d e)) H)
variable {X:Cx}
def DX (hu:X.A.units+64<Vn):OpR X (Vm .Eq) AdU:=by
 rw[2,x,y,v,u,Q,I,rx,U,h];let Z:X.A.units<cLine:=by omega
 erw[h,d,e,h1,h2,n1,n2,hp,q];cases d with
 |non=>
  rw[show x= .non from h1,0]
  cases e with
  |non=>
   rw[show y= .non from h2,0]
   exact Qd ot s σ H .non .non v u Q I rx U ⟨1,by simpa [eqD] using q⟩
  |str w=>
   obtain⟨rfl,_⟩:=(show y= .str w/\_ from h2)
   rw[rx,0];erw[U,t2,rfl,<-pZ _ _ X.prog X.w X.xe _ (.bl _,H,I,1,q)]
  |tup ys=>
   erw[id h2,p,us,rfl,hp,hl];rw[rx,0];rw[U,0];erw[I.tuple (.inl (.of hp)),its,_,tq,_,<-pF tq Z X.prog X.w X.xe _ (.bl _,H,I,1,q)]
  |_=>rw[n2,0]
 |str z=>
  obtain⟨rfl,_⟩:=(show x= .str z/\_ from h1)
  erw[rx,t,rfl];cases e with
  |non=>
   rw[show y= .non from h2,0]
   rw[U,0];exact pN _ _ X.prog X.w X.xe _ (.bl _,H,I,1,q)
  |str w=>
   obtain⟨rfl,_⟩:=(show y= .str w/\_ from h2)
   erw[U,t2,rfl,<-pq _ _ _ _ X.prog X.w X.xe _ (.bl _,H,I,1,q)]
  |tup ys=>
   erw[id h2,p,us,rfl,hp,hl];rw[U,0];erw[I.tuple (.inl (.of hp)),its,_,tq,_,<-RM _ _ tq Z X.prog X.w X.xe _ (.bl _,H,I,1,q)]
  |_=>rw[n2,0]
 |tup xs=>
  cases e with
  |tup ys=>
   let hm:dpL xs<=60:=by
    have:dp (¬xs)=1+dpL xs:=by simp![dp]
    omega
   rw[show eqD (¬xs) (¬ys)=eqL xs ys by simp![eqD]] at q
   exact(Acr I h1 h2 n1 n2 hm rx U hu).1 X.prog X.w X.xe _ (.bl _,H,I,1,q)
  |non=>
   erw[id h1,p,vs,rfl,hp,hl];rw[rx,0];erw[I.tuple (.inl (.of hp)),its,rv,tq,_];rw[show y= .non from h2,0]
   rw[U,0];exact pU tq Z X.prog X.w X.xe _ (.bl _,H,I,1,q)
  |str w=>
   erw[id h1,p,vs,rfl,hp,hl];rw[rx,0];erw[I.tuple (.inl (.of hp)),its,rv,tq,_];obtain⟨rfl,_⟩:=(show y= .str w/\_ from h2)
   erw[U,t2,rfl,<-Ff _ _ tq Z X.prog X.w X.xe _ (.bl _,H,I,1,q)]
  |_=>rw[n2,0]
 |_=>rw[n1,0]
abbrev TbL (H:Hp)(d:o3)(es:oj (Str×D)):Prop:=∃vs:oj (Str×V),H d=u_ (.dK (iM vs))/\↑vs<=↑es/\(∀z,z>vs.map (·.1)↔z>es.map (·.1))/\∀z>es.map (·.1),∃v,iP (iM vs) (Vf z)=u_ v/\Is H (qH es z) v
variable {H H':Hp}{ps:oj (Str×D)}
def TbL.same {d:o3}(h:TbL H d ps)(s:ic H H'):TbL H' d ps:=by
 erw[h,vs,h1,h2,h3,h4,<-(vs,s _ _ h1,h2,h3,λz hz=>by erw[h4 z hz,v,e,i,<-[v:e:i.mono s.tk]])]
variable {es:oj (Str×D)}
def zr {r:oj (Str×D)}(h:z>es.map (·.1)):qH (es++r) z=qH es z:=by
 unfold qH;rw[UJ];cases U:es.find? (λp=>decide (p.1=z)) with
 |none=>
  erw[Af.mp h,p,Z,e,<-A8 (u8 e) (List.find?_eq_none.mp U p Z)]
 |some p=>rfl
variable {e:D}
def KU (h:z∉es.map (·.1)):qH (es++ [(z,e)]) z=e:=by
 unfold qH;rw[UJ,List.find?_eq_none.mpr λp U=>by simpa using λe=>h (Af.mpr [p:U:e])]
 simp
def TbL.skip {d:o3}(e:D)(h:TbL H d es)(hm:m>es.map (·.1)):TbL H d (es++ [(m,e)]):=by
 erw[h,vs,h1,h2,h3,h4];let U:∀z,z>(es++ [(m,e)]).map (·.1)->z>es.map (·.1):=λz hz=>by
  rw[uj] at hz;rcases Ae.mp hz with hz|hz
  .exact hz
  .rw[Ac.mp hz,0];exact hm
 refine(vs,h1,by rw[uw];omega,λz=>(h3 z).trans ⟨λk=>by rw[uj];exact vO _ k,U z⟩,λz hz=>?_)
 erw[h4 z (U z hz),v,Z,e2,<-⟨v,Z,by rwa[zr (U z hz)]⟩]
variable {v:V}
def AcD {vs:oj (Str×V)}:∀z,iP (iM (vs++ [(m,v)])) (Vf z)=(iP (iM vs) (Vf z)).or (if m=z then u_ v else U_):=λz=>by
  unfold iP iM;rw[uj,UJ];cases((vs.map λp=>((Vf p.1:Key),p.2)).find? λkv=>decide (kv.1=Vf z)) with
  |some p=>rfl|none=>
   by_cases c:m=z
   .simp[c]
   .simp[c]
def TbL.put {d:o3}{vs:oj (Str×V)}(h1:H d=u_ (.dK (iM vs)))(h2:↑vs<=↑es)(h3:∀z,z>vs.map (·.1)↔z>es.map (·.1))(h4:∀z>es.map (·.1),∃v,iP (iM vs) (Vf z)=u_ v/\Is H (qH es z) v)(hm:m∉es.map (·.1))(iv:Is H e v):TbL (upd H d (.dK (lV (iM vs) (Vf m) v))) d (es++ [(m,e)]):=by
 let U:m∉vs.map (·.1):=λz=>hm ((h3 m).mp z);let Z:lV (iM vs) (Vf m) v=iM (vs++ [(m,v)]):=by
  rw[wH _ (Zy U)];unfold iM;rw[uj]
  rfl
 let tk:=Tk.updD (ys:=lV (iM vs) (Vf m) v) h1;refine(vs++ [(m,v)],by rw[qg,Z],by rw[uw,uw];simpa using h2,λz=>?_,λz hz=>?_)
 .rw[uj,uj,UE,UE,h3 z];exact hV
 .rw[AcD];by_cases c:z>es.map (·.1)
  .erw[h4 z c,v',e1,e2,<-⟨v',by rw[e1];rfl,by rw[zr c];exact e2.mono tk⟩]
  .rw[uj] at hz;rcases Ae.mp hz with hz|hz
   .exact A8 hz c
   .rw[Ac.mp hz,0];rw[Zy U,A6 rfl];exact⟨v,1,by rw[KU hm];exact iv.mono tk⟩
def Nw {K:o0}{a:o3}{c:Int}{xs:oj V}{g:TG}{tb:TS}{D:nh}{σ:L2.St}{H:Hp}(U:Nat->L2.St->Hp->Prop)(h0:U 0 σ H)(hl:∀i σ H,i<=↑xs->U i σ H->SqT K H a xs)
  (hs:∀i x σ H p,xs[i]? =u_ x->U i σ H->H p=U_->g (-p) σ (upd H p (-[.int (c+i),x])) λσ2 H2=>tb {D with nx:=U (i+1),ct:=U (i+1),bk:=D.nx} σ2 H2) (hd:∀σ H,U ↑xs σ H->D.nx σ H):
  ∃W:Nat->Nat->L2.St->Hp->Prop,(∃m,W 0 m σ H)/\∀i m σ H,W i m σ H->
   ((Ite K a c).stop i H/\D.nx σ H)\/((Ite K a c).go i H/\∃N:L2.St->Hp->Prop,(∀σ' H',N σ' H'->∃m',m'<m/\W (i+1) m' σ' H')/\∀x H',(Ite K a c).yld i H x H'->g x σ H' λσ2 H2=>tb {D with nx:=N,ct:=N,bk:=D.nx} σ2 H2):=by
 rw[_,λi m σ H=>m=↑xs-i/\i<=↑xs/\U i σ H,(↑xs,by simp,uK _,h0)]
 rintro i m σ H ⟨rfl,hi,p⟩;let q:=hl i σ H hi p;by_cases Z:i<↑xs
 .refine .inr ((xs,xs[i],q,by simp[Z]),U (i+1),λσ' H' p'=>(↑xs-(i+1),(),1,Z,p'),λx H' y=>?_)
  erw[y,p2,y2,rfl,hp,rfl,y,<-hs i y2 σ _ p2 (y xs q) p hp]
 .let e:i=↑xs:=by omega
  subst e;exact .inl [[xs:q:1]:hd σ H p]
inductive Dw:Sp
 |mk (v:V)(d:D)(_:vs= [v])(_:Is H d v)(_:(d= .non\/∃k e,d=-[!k,e]))(_:∀H',ic H H'->Q (.bl (jh (jv d))) H')
inductive Go (rs:List Rw)(own:Str):Rn->List D->Nat->Rn->Prop
 |nil (r:Rn):Go rs own r [] 0 r
 |cons {r r':Rn}{a:D}{gs:List D}{n:Nat}(u z:Str)(h1:r.th=-[-"asks",-[!u,!z]])(h2:AU u a=v_)(h3:Go rs own (mO rs own r a) gs n r'):Go rs own r (.tup [-[!u,!z],a]::gs) (n+1) r'
 |stop {r:Rn}{a:D}{gs:List D}(u z:Str)(h1:r.th≠ -[-"asks",-[!u,!z]]):Go rs own r (.tup [-[!u,!z],a]::gs) 0 r
variable {rs:oj Rw}{own:Str}{gs:oj D}{n:Nat}{r':Rn}
def Mn {r:Rn}(h:Go rs own r gs n r'):n=↑gs->CG rs own r gs r':=by
 induction h with
 |nil r=>exact λ_=> .nil r|cons u z h1 h2 _ U=>exact λe=> .cons u z h1 h2 (U (by simpa using e))|stop u z h1=>exact λe=>by simp at e
def AQ {r U Z:Rn}(h:CG rs own r gs U):Go rs own r gs n Z->n=↑gs/\U=Z:=by
 induction h generalizing n with
 |nil r=>
  intro h;rw[h,0];exact[1:1]
 |cons u z h1 h2 _ ih=>
  intro h;cases h with
  |cons u' z' k1 k2 k3=>
   erw[ih k3,e1,e2,<-⟨by rw[e1];rfl,e2⟩]
  |stop u' z' k1=>exact A8 h1 k1
def SA {r:Rn}(h:Go rs own r gs n r'):n<=↑gs:=by
 induction h with
 |nil r=>exact uh _|cons u z h1 h2 _ U=>exact Va U|stop u z h1=>exact uK _
inductive NY (C:Addr):Sp
 |mk (m:Mc)(r r':Rn)(t:Addr)(us:List V)(gs:List D)(n:Nat)(_:vs= [-m.x,-t])(_:yx C H m r)(_:AV m.rs r)(_:QY m.rs)(_:↑m.own<=100)(_:H t=u_ (¬us))(_:L2.IsL H gs us)(_:Go m.rs m.own r gs n r')(_:∀H',Mv m H H'->yx C H' m r'->AV m.rs r'->Q (.int (n:Int)) H')
def oK:#[T,2,a.f_has_run,a.d_has_run,["source"],Dw]:=by
 let YJ:=#[Ec,T];rw[9,T.mS,Cq]
 erw[h,v,d,rfl,iv,hd,k];let hs:=uB;rw[3,%[|#[qo,#[Qb,yk,#[qt,YJ,T.iZ,#v[pv 0]],qR]]]]
 rw[0,v,d,1,iv,hd,λu H1 s1 U=>[1:?_]];let e:decide (u=V.non)=jh (jv d):=by
  cases hd:jh (jv d) with
  |true=>
   cases Z:jv d with
   |non=>rw[Z] at U;exact u8 U|_=>rw[Z,0] at hd
  |false=>exact ud (Ju U λz=>by rw[z,0] at hd)
 rw[e];exact k _ s1
def D2:#[C,8,a.j8,a.jZ,["machine","asks"],(NY a.qq)]:=by
 let Qa:=#[KG,T];let Q9:FnOk P w K mg base (CX1 P w) 6 a.YB a.YF ["self","tree"] (MO a.qq):=(Ek T C).up0;rw[9,T.iW,yO]
 erw[h,m,r0,r',t,us,gs,n,rfl,M0,aq,hR,au,ht,ac,aw,k];let hs:=uB;let ad:↑us=↑gs:=↑ac;rw[3,%[#[y7,#[Bv,8,_,T.W1,pv 1,_],#[JA,qT #[qJ,(2),yO.nd] (qT #[qJ,(3),yO.nd] yW)],%[#[qI,#[qm,#[Wu,1,hr.units],#[Qx,pv 0,T.qu,T.ik,Qa],#[qA,#v[qi,#[qE,qB,pv 3,qh]]]],%[|#[qo,pv 2]],qp]|#[OV,26,pv 0,T.qu,T.iH.h,Q9,hr.mono (),T.iH.b,#v[#[qE,qB,pv 3,qh]],[1:1],_,C.m_BadAnswer,C.e_BadAnswer,(λ_ _=>%[|#[qo,pv 2]]),_,_,_,_,_]]]|#[qo,#[qz,qG,T.QZ,uJ,#v[pv 1]]]]]
 rw[8,N1,q1]
 rw[0,t,us,1,SqT.of ht,λhsz=>?_]
 refine_lift let J_:Nat->L2.St->Hp->Prop:=λi σ H'=>∃(r:Rn) (x2 x3:om V),σ= [u_ (-m.x),u_ (-t),x2,x3]/\yx a.qq H' m r/\AV m.rs r/\(∃j,n=i+j/\Go m.rs m.own r (gs.drop i) j r')/\Mv m H H';?_
 refine Nw (c:=0) (xs:=us) J_ (r0,_,0,M0,aq,[n:():aw],Mv.refl _ _) (λi σ H' _ h=>by erw[h,_,_,_,_,_,_,_,mv,<-SqT.of (mv.tk.tup _ _ ht)]) ?_ ?_
 .rintro i y σ H' p hy ⟨r,x2,x3,rfl,M,hO,⟨jn,ae,hc⟩,mv⟩ hp;let af:i<↑gs:=by rw[<-ad];exact(Ag.mp hy).1
  let ax:gs.drop i=gs[i]::gs.drop (i+1):=vc af;rw[ax] at hc;generalize ay:gs[i]=gi at hc;obtain⟨y',ag,iy⟩:=ac.get (i:=i) (d:=gi) (by rw[ub af,ay])
  rw[hy,0] at ag;let s1:=qf hp (-[.int (0+(i:Int)),y]);let M1:=M.same s1;let aa:=mv.trans (Mv.of s1);let e1:(upd H' p (-[.int (0+(i:Int)),y])) p=u_ (-[.int (0+(i:Int)),y]):=qg;generalize upd H' p (-[.int (0+(i:Int)),y])=H1 at s1 M1 aa e1⊢;let ah:=iy.mono aa.tk;let aA:∃u z an,gi=-[-[!u,!z],an]:=by
   cases hc with
   |cons u z h1 h2 h3=>exact[u:z:0]|stop u z h1=>exact[u:z:0]
  erw[aA,u,z,an,ak];rw[ak] at hc ah;erw[ah,tp,up,rfl,al,v1,r1,rfl,i1,v2,r2,rfl,i2,aB];rw[show r2= [] from aB,0]
  rw[_,p,0,SqT.of e1,1,_,0,_,0,1];show nA _ _ _ _ H1;rw[8,B1,b1];erw[id M1,aC,aD,_,_,_,_,aE,aF,_]
  rw[0,m.x,aC,aD,1,aE,aF.meth _ (),m,r,1,M1,λv5 i5=>?_]
  erw[hO.two,wd,ed,U];rw[U] at i5
  rw[0,tp,_,_,0,1,SqT.of al,qy (j:=0) rfl,sml rfl,λl hl=>?_];let s2:=qf hl (-[-"asks",v1]);let Z:nL [!wd,ed]=true:=by
   have:=jP hO.gd.1;rw[U] at this
   simpa only [nD] using this
  let am:dpL [!wd,ed]<=60:=by
   have:=hO.gd.2;rw[U] at this;simp![dp] at this⊢;omega
  let ao:nL [-"asks",-[!u,!z]]=true:=rfl
  rw[_,[!wd,ed],[-"asks",-[!u,!z]],i5.mono s2.tk,Is.new (ds:= [-"asks",-[!u,!z]]) (_,0,Qi (),_,0,i1,1) hl,Z,ao,am,0]
  let M2:=M1.same s2;let ap:=aa.trans (Mv.of s2);cases hc with
  |cons u' z' h1 h2 h3=>
   rw[U] at h1;let e8: [D.str wd,ed]= [-"asks",-[!u,!z]]:=by injection h1
   rw[(Qy Z).mpr e8];refine iU (b1 _ _ ?_);erw[id M2,aG,aH,_,_,_,_,aI,aJ,_];rw[<-U] at h1
   rw[0,m.x,aG,aH,1,aI,aJ.meth _ (),0,tp,_,_,0,1,SqT.of (s2 _ _ al),qy (j:=1) rfl,m,r,v2,u,!z,an,1,M2,hO,h1,i2.mono s2.tk,hR,au,h2,λH3 aK M3=>?_]
   exact(mO m.rs m.own r an,_,0,M3,ka hR hO (qae h1) (wU h2),[_:():h3],ap.trans aK)
  |stop u' z' h1=>
   rw[U] at h1;let e8:¬ [D.str wd,ed]= [-"asks",-[!u,!z]]:=λz=>h1 (by rw[z])
   rw[Bool.eq_false_iff.mpr λz=>e8 ((Qy Z).mp z)];refine iY [0:?_];have:=k _ ap M2 hO
   rwa[show(n:Int)=0+(i:Int) by omega] at this
 .rintro σ H' ⟨r,x2,x3,rfl,M,hO,⟨jn,ae,hc⟩,mv⟩;rw[ad,Tz,0] at hc;refine q1 _ _ ?_
  rw[0,t,us,1,.inr (SqT.of (mv.tk.tup _ _ ht))];have:=k _ mv M hO
  rwa[ae] at this
abbrev mK (en:D):Prop:=∃(k:Str) (x:D),en= .tup [!k,x]/\nD x=v_/\dp x<=40/\(k="stuck"->∃z:Str,x= !z)
def mK.nl {k:Str}{x:D}(h:nD x=v_):nL [!k,x]=true:=by simp![nL,nD,h,Tq]
def nT {k:Str}{x:D}(h:D.tup [!k,x]=Bf z):k="stuck"/\x= !z:=by
 injection h with h
 injection h with h1 h2
 injection h1 with h1
 injection h2 with h2 _
 exact[h1:h2]
def IV {y:Str}(h:Bf y=Bf z):y=z:=by
 have:=(nT (k:="stuck") (x:= !y) h).2;injection this
abbrev NH (x:D):Prop:=∃(u z:Str) (an:D),x= .tup [-[!u,!z],an]/\(u>(["thing","has","names"]:oj Str)->AU u an=v_)
variable {C dx:o3}{Q:VK}
def Ew {br bn:o3}{E:XK}{x:o3}(hv:Is H (jY rs) v)(hR:QY rs)(U:nm own=v_)(hx:H x=U_)(aa:H dx=U_)(q:∀(db dg:o3) (H':Hp),H db=U_->H dg=U_->ic H H'->yx C H' (x,db,dg,rs,own) (R0 rs own)->Q .non H'):
  qaq C br bn [-x,v,!own] (upd (upd H dx (.own x)) x (.ins C dx [])) Q E:=by
 let Z:ic H (upd (upd H dx (.own x)) x (.ins C dx [])):=λb o h=>by rwa[qk (ql h hx),qk (ql h aa)]
 let hl:=zG U;rw[_,x,dx,v,!own,jY rs,!own,1,qg,hv.mono Z.tk,Qi (),λh=>?_,λ_ h=>?_,λac ag e1 ad e2 _ _ H1 db dg kept ae af M1=>?_]
 .rw[hR.read,0] at h
 .rw[show mM (!own)=nm own from rfl,U,0] at h
 .rw[e2,0];have:ac=rs:=by
   let h1:=ad.read;rw[<-e1,hR.read] at h1;exact(uL h1).symm
  subst this;exact q db dg H1 (Z.free ae) (Z.free af) (λb o h=>kept b o (Z b o h) (ql h hx)) M1
variable {H1 H2:Hp}
def qaP {m:Mc}(s:ic H H1)(v:Mv m H1 H2)(h1:H m.x=U_)(h2:H m.db=U_)(h3:H m.dg=U_):ic H H2:=λb o e=>v.kept b o (s b o e) (ql e h1) (ql e h2) (ql e h3)
def SB {rs:oj Rw}{own:Str}(U:QY rs):∀(gs:oj D) (r:Rn),AV rs r->(∀x>gs,NH x)->∃n r',Go rs own r gs n r'/\AV rs r'
 | [],r,h,_=>((0),r,.nil r,h)|x::gs,r,h,hx=>by
  erw[hx x ug,u,z,an,rfl,ha];by_cases c:r.th=-[-"asks",-[!u,!z]]
  .let Z:=qae c;erw[h.ask Z,_,_,_,u',d',e,hu,_];rw[c,0] at e;let hb:=ha hu;obtain⟨n,r',h1,h2⟩:=SB U gs (mO rs own r an) (ka U h Z (wU hb)) λy hy=>hx y (uf _ hy);exact(n+1,r',.cons u z c hb h1,h2)
  .exact((0),r,.stop u z c,h)
inductive Ow:Sp
 |mk (rv:V)(own:Str)(tr ta:Addr)(us:List V)(ev:V)(rs:List Rw)(r:Rn)(gs:List D)(n:Nat)(es:List D)(_:vs= [rv,!own,-tr])(_:Is H (jY rs) rv)(_:QY rs)(_:nm own=v_)(_:H tr=u_ (-[-ta,ev]))(_:H ta=u_ (¬us))(_:L2.IsL H gs us)(_:Go rs own (R0 rs own) gs n r)(_:Is H (¬es) ev)(_:nL es=v_)(_:∀(b:Bool)(H':Hp),ic H H'->(b=v_↔n=↑gs/\QQ r.th=Vd/\r.th=¬es)->Q (.bl b) H')
inductive La:Sp
 |mk (rv:V)(own:Str)(ta:Addr)(us:List V)(ev:V)(rs:List Rw)(gs:List D)(en:D)(_:vs= [rv,!own,-ta,ev])(_:Is H (jY rs) rv)(_:QY rs)(_:nm own=v_)(_:H ta=u_ (¬us))(_:L2.IsL H gs us)(_:∀x>gs,NH x)(_:Is H en ev)(_:mK en)(_:∀(b:Bool)(H':Hp),ic H H'->(b=v_↔∃r,CG rs own (R0 rs own) gs r/\AdL r en)->Q (.bl b) H')
inductive Dv:Sp
 |mk (sv:V)(own:Str)(ta:Addr)(us:List V)(ev:V)(kk:Str)(e0:D)(as:List D)(en:D)(_:vs= [sv,!own,-ta,ev])(_:Is H (-[!kk,e0]) sv)(_:kk="rule"\/kk="made"/\∃z:Str,e0= !z)(_:nm own=v_)(_:H ta=u_ (¬us))(_:L2.IsL H as us)(_:∀x>as,NH x)(_:Is H en ev)(_:mK en)(_:∀(b:Bool)(H':Hp),ic H H'->(b=v_↔Zx (-[!kk,e0]) own as en)->Q (.bl b) H')
def PL:#[C,9,a.f_does,a.d_does,["rule","own","run"],Ow]:=by
 let Yf:=#[D2,T,C];let QM:=#[wF,T,C];let Qa:=#[KG,T];let Qc:=#[qaO,T];rw[9,T.E5,DB]
 erw[h,rv,own,tr,ta,us,ev,rs,r,gs,n,es,rfl,hv,hR,ac,aa,ad,ae,af,ie,ao,k];let hs:=uB;let ax:=zG ac;let ay:=SA af;rw[3,%[#[qF,(3),DB.nd,#[xD,T.X4,QM,T.X2,T.iL,DO,#v[pv 0,pv 1]]],#[qI,#[qm,qaJ,#[qt,Yf,T.iW,#v[pv 3,#[qE,qB,pv 2,qh]]],#[qz,qG,T.QZ,uJ,#v[#[qE,qB,pv 2,qh]]]],%[|#[qo,Yx]],qp]|#[qo,#[JB,#[Aa9,4,#[Qx,pv 3,T.qu,T.im,Qc]],#[jN,#[Qb,#[Xp,1,hr.units],#[Qx,pv 3,T.qu,T.ik,Qa],#[qE,qB,pv 2,qh]]]]]]]
 rw[8,N1,q1]
 rw[0,0,λx dx hx ap nx=>Ew hv hR ac hx ap λdb dg H1 aq au s1 M1=>[1:q1 _ _ ?_]];rw[8,N2,q2]
 rw[5]
 refine(0,0,tr,_,_,0,1,SqT.of (s1 _ _ aa),qy (j:=0) rfl,(x,db,dg,rs,own),R0 rs own,r,ta,us,gs,n,1,M1,AW hR,hR,by show ↑own<=100;omega,s1 _ _ ad,ae.mono s1.tk,af,λH2 mv M2 hO=>?_)
 let s2:ic H H2:=qaP s1 mv hx aq au
 rw[0,tr,_,_,0,1,SqT.of (s2 _ _ aa),qy (j:=0) rfl,ta,us,1,.inr (SqT.of (s2 _ _ ad)),_,0,1,0];rw[↑ae];by_cases hn:n=↑gs
 .refine iI (ud ()) (q2 _ _ ?_)
  erw[id M2,ag,ah,_,_,_,_,ak,al,_];erw[hO.two,wd,ed,U]
  rw[0,x,ag,ah,1,ak,al.meth _ (),(x,db,dg,rs,own),r,1,M2,.inr [wd:ed:U]]
  cases hw:QQ r.th with
  |true=>
   rw[0,[0:iI rfl ?_]];exact k Vd _ s2 ⟨λz=>(by rw[z,0]),λz=>by rw[hw] at z;rw[z.2.1,0]⟩
  |false=>
   rw[0]
   rw[0,iO rfl ?_];let Z:nL [!wd,ed]=true:=by
    have:=jP hO.gd.1;rw[U] at this
    simpa only [nD] using this
   let am:dpL [!wd,ed]<=60:=by
    have:=hO.gd.2;rw[U] at this;simp![dp] at this⊢;omega
   rw[0,x,ag,ah,1,ak,al.meth _ (),(x,db,dg,rs,own),r,1,M2,λv5 i5=>?_]
   let aw:=ie.mono s2.tk;rw[U] at i5
   rw[0,tr,_,_,0,1,SqT.of (s2 _ _ aa),qy (j:=1) rfl,_,_,i5,aw,Z,ao,am];refine k _ _ s2 ?_;show AJ [!wd,ed] es=v_↔_;rw[Qy Z,U];exact⟨λz=>⟨hn,by rw[<-U];exact hw,by rw[z]⟩,λz=>by injection z.2.2⟩
 .refine iO (u8 ()) ?_
  exact k Vd _ s2 ⟨λz=>(by rw[z,0]),λz=>A8 z.1 hn⟩
def LC:#[C,10,a.WB,a.W5,["rule","own","asks","end"],La]:=by
 let aa:=#[PL,T,C];let Yf:=#[D2,T,C];let QM:=#[wF,T,C];let Qa:=#[KG,T];rw[9,T.mZ,ZV]
 erw[h,rv,own,ta,us,ev,rs,gs,en,rfl,hv,hR,ad,ae,af,hA,ie,[kk,ex,ee,al,aE,am],k];let hs:=uB;let aF:=zG ad;erw[SB hR gs (R0 rs own) (AW hR) hA,n,r,U,aG];let aH:=SA U;rw[ee] at ie;erw[id ie,te,ue,rfl,ag,w1,r1,rfl,[rfl,aI],w2,r2,rfl,ao,ap];rw[show r2= [] from ap,0]
 rw[3,%[#[qI,#[qm,Ao,#[qE,qB,pv 3,qh],qi],%[|#[qo,#[qt,aa,T.E5,#v[pv 0,pv 1,#[qA,#v[pv 2,pv 3]]]]]],qp],#[qF,(4),ZV.nd,#[xD,T.X4,QM,T.X2,T.iL,DO,#v[pv 0,pv 1]]]|#[qo,#[JB,#[Qb,Qd,#[qt,Yf,T.iW,#v[pv 4,pv 2]],#[qz,qG,T.QZ,uJ,#v[pv 2]]],#[jN,#[Qb,#[Xp,1,hr.units],#[Qx,pv 4,T.qu,T.ik,Qa],#[qA,#v[qi,#[qA,#v[qi,#[qE,qB,pv 3,qh]]]]]]]]]]]
 rw[8,N1,q1];by_cases ck:kk="stuck"
 .erw[am ck,z,hz];subst ck hz;erw[ao,rfl,aq]
  rw[0,te,_,_,0,1,SqT.of ag,qy (j:=0) rfl,1,0,iI (by simp) (q1 _ _ ?_)]
  rw[8,N2,q2]
  rw[0,0,λx dx hx au nx=>Ew hv hR ad hx au λdb dg H1 aw ax s1 M1=>[1:q2 _ _ ?_]]
  rw[5]
  refine(0,0,(x,db,dg,rs,own),R0 rs own,r,ta,us,gs,n,1,M1,AW hR,hR,by show ↑own<=100;omega,s1 _ _ ae,af.mono s1.tk,U,λH2 mv M2 hO=>?_)
  let s2:ic H H2:=qaP s1 mv hx aw ax
  rw[0,ta,us,1,.inr (SqT.of (s2 _ _ ae)),1,0];rw[↑af];by_cases hn:n=↑gs
  .refine iO (u8 (by rw[hn])) ?_
   erw[id M2,ay,aA,_,_,_,_,aB,aC,_]
   rw[0,x,ay,aA,1,aB,aC.meth _ (),(x,db,dg,rs,own),r,1,M2,λv5 i5=>?_]
   rw[0,te,_,_,0,1,SqT.of (s2 _ _ ag),qy (j:=1) rfl,sml rfl,λt1 h1=>[sml rfl:λt2 h2=>?_]];let n1:=qf h1 (-[V.str "thing",V.str z]);let n2:=qf h2 (-[V.str "asks",V.ref t1]);let j1:=Is.new (ds:= [-"thing",!z]) (_,0,Qi (),_,0,[1:aq],1) h1
   let j2:=Is.new (ds:= [-"asks",-[-"thing",!z]]) (_,0,Qi (),_,0,j1,1) h2
   erw[hO.two,wd,ed,Z];rw[Z] at i5;let ac:nL [!wd,ed]=true:=by
    have:=jP hO.gd.1;rw[Z] at this
    simpa only [nD] using this
   let ah:dpL [!wd,ed]<=60:=by
    have:=hO.gd.2;rw[Z] at this;simp![dp] at this⊢;omega
   rw[_,_,_,i5.mono (n1.trans n2).tk,j2,ac,1,ah];refine k _ _ ((s2.trans n1).trans n2) ?_;show AJ [!wd,ed] [-"asks",-[-"thing",!z]]=v_↔_;rw[Qy ac,ee]
   rw[5]
   refine⟨λq=>⟨r,Mn U hn,.inr ⟨z,1,by rw[Z,q];rfl⟩⟩,λ zq=>?_⟩;erw[zq,r0,hc,hE]
   erw[AQ hc U,_,rfl];rcases hE with⟨_,_,q⟩|⟨z',q,ak⟩
   .exact A8 rfl (q z)
   .rw[Z,<-IV (y:=z) q] at ak;exact D.tup.inj ak
  .refine iI (ud λq=>hn (by injection q with q;omega)) ?_
   refine k Vd _ s2 ⟨λq=>(by rw[q,0]),λ zq=>?_⟩;erw[zq,r0,hc,_]
   exact A8 (AQ hc U).1 hn
 .rw[0,te,_,_,0,1,SqT.of ag,qy (j:=0) rfl,1,0,iO (by simpa using ck) ?_]
  rw[0,0,0,0,sml rfl,λtr aD=>?_];let m1:=qf aD (-[-ta,-te])
  rw[_,rv,own,tr,ta,us,-te,rs,r,gs,n,[!kk,ex],1,hv.mono m1.tk,hR,ad,qg,m1 _ _ ae,af.mono m1.tk,U,ie.mono m1.tk,mK.nl al,λb H' s' hb=>k b H' (m1.trans s') (hb.trans ?_)];rw[ee]
  rw[_,λ⟨e1,e2,e3⟩=>[r:Mn U e1:.inl [e3.symm:e2:λz hz=>ck (nT hz).1]],λ zq=>?_];erw[zq,r0,hc,hE];erw[AQ hc U,e1,rfl];rcases hE with⟨e2,e3,_⟩|⟨z,q,_⟩
  .exact[e1:e3:e2.symm]
  .exact A8 (nT q).1 ck
def Ef:#[C,11,a.zK,a.zI,["source","name","asks","end"],Dv]:=by
 let ad:=#[LC,T,C];let J7:=#[wM,T,C];rw[9,T.my,Yo]
 erw[h,sv,own,ta,us,ev,kk,e0,as,en,rfl,aG,aH,aI,ah,aq,hA,ie,hE,k];let hs:=uB;erw[id hE,kx,ex,ee,aJ,aU,aV];let aa:nL [!kx,ex]=true:=mK.nl aJ;let am:dpL [!kx,ex]<=60:=by
  simp![dpL,dp];omega
 erw[aG,ts,uu,rfl,ap,w1,r1,rfl,[rfl,_],w2,r2,rfl,aA,aK];rw[show r2= [] from aK,0]
 rw[3,%[#[qF,(4),Yo.nd,#[qE,qB,pv 0,qh]],#[qI,#[qm,Qd,#[qE,qB,pv 0,qh],qi],%[#[qI,#[qm,#[zw,1,hr.units0],pv 2,#[qA,qd]],%[|#[qo,#[Qb,#[Xp,1,hr.units],pv 3,#[qA,#v[qi,#[qE,qB,pv 0,qh]]]]]],qp],#[qI,#[qm,#[Wu,1,hr.units],#[qE,qB,#[qE,qB,pv 2,qh],qh],#[qA,#v[qi,#[qE,qB,pv 0,qh]]]],%[|#[qo,Yx]],qp],#[qF,(4),Yo.nd,#[qE,qB,#[qE,qB,pv 2,qh],qh]]|#[qF,(2),Yo.nd,#[QK,Yj,pv 2,#[yf,qh],yi]]],qp],#[qI,#[qm,yk,pv 4,qR],%[|#[qo,#[JB,#[Qb,#[zw,1,hr.units0],pv 2,#[qA,qd]],#[jN,#[Qb,#[Xp,1,hr.units],pv 3,#[qA,#v[qi,qi]]]]]]],qp],#[qI,#[Qo,#[Qe,#[qt,J7,T.mw,#v[pv 4]]]],%[|#[qo,#[JB,#[Qb,#[zw,1,hr.units0],pv 2,#[qA,qd]],#[jN,#[Qb,#[Xp,1,hr.units],pv 3,#[qA,#v[qi,qi]]]]]]],qp]|#[qo,#[qt,ad,T.mZ,#v[pv 4,pv 1,pv 2,pv 3]]]]]
 rw[8,N1,q1]
 rw[0,ts,_,_,0,1,SqT.of ap,qy (j:=1) rfl,q1 _ _ ?_];rw[8,N2,q2];let aB:∀(ag:V) (rl:D) (gs:oj D) (ae:o3) (us':oj V) (H1:Hp),ic H H1->Is H1 rl ag->H1 ae=u_ (¬us')->L2.IsL H1 gs us'->(∀x>gs,NH x)->(GoR own rl gs en↔Zx (-[!kk,e0]) own as en)->N2 [u_ (-ts),u_ (!own),u_ (-ae),u_ ev,u_ ag] H1:=by
  intro ag rl gs ae us' H1 s1 ir U ac aL au;refine q2 _ _ ?_;rw[8,N3,q3]
  rw[0,1,0];let aC:∀v r,us'=v::r->¬gs= []:=λv r e z=>by
   have:=↑ac;rw[e,z,0] at this
  cases Z:jh rl with
  |true=>
   let aM:rl= .non:=by
    cases rl with
    |non=>rfl|_=>rw[Z,0]
   rw[aM] at ir;rw[show ag= .non from ir,0]
   refine iO (u8 rfl) ?_;let aw:GoR own rl gs en->gs= []/\en=flt "lack":=λq=>by
    cases q with
    |lack h0 h1 h2=>exact[h1:h2]|bad h0 _ _ _=>rw[Z,0] at h0|run _ _ h0 _ _ _=>rw[Z,0] at h0
   let ao:Zx (-[!kk,e0]) own as en↔gs= []/\en=flt "lack":=au.symm.trans [aw:λq=> .lack Z q.1 q.2];cases hu:us' with
   |nil=>
    rw[hu] at U ac;let ax:gs= []:=List.length_eq_zero_iff.mp ac.length.symm
    rw[0,uK _,λt0 h0=>(ae,t0,[],1,1,SqT.of (qf h0 _ _ _ U),SqT.of qg,0,iO rfl ?_)];let m0:=qf h0 (.tup ([]:oj V))
    rw[0,sml rfl,λt1 h1=>?_];let m1:=qf h1 (-[V.str "fault",V.str "lack"]);let i1:=Is.new (ds:= [-"fault",-"lack"]) (_,0,Qi (),_,0,Qi (),1) h1
    let af:=ie.mono ((s1.trans m0).trans m1).tk;rw[ee] at af
    rw[_,_,[-"fault",-"lack"],af,i1,aa,1,am];refine k _ _ ((s1.trans m0).trans m1) ?_;show AJ [!kx,ex] [-"fault",-"lack"]=v_↔_;rw[Qy aa,ao,ee];exact⟨λq=>⟨ax,by rw[q];rfl⟩,λq=>D.tup.inj q.2⟩
   |cons v r=>
    let ay:=aC v r hu;rw[hu] at U
    rw[0,uK _,λt0 h0=>(ae,t0,0,1,SqT.of (qf h0 _ _ _ U),SqT.of qg,0,iI rfl ?_)];exact k Vd _ (s1.trans (qf h0 _)) ⟨λq=>(by rw[q,0]),λq=>A8 (ao.mp q).1 ay⟩
  |false=>
   let aN:ag≠ .non:=Ju ir λz=>by rw[z,0] at Z
   refine iI (ud aN) (q3 _ _ ?_);rw[8,N4,q4]
   rw[0,ag,rl,1,ir,λH2 s2=>[0:?_]];cases ak:ye rl with
   |none=>
    refine iY ?_;let aw:GoR own rl gs en->gs= []/\en=flt "rule":=λq=>by
     cases q with
     |lack h0 _ _=>rw[Z,0] at h0|bad _ _ h1 h2=>exact[h1:h2]|run _ _ _ h0 _ _=>rw[ak,0] at h0
    let ao:Zx (-[!kk,e0]) own as en↔gs= []/\en=flt "rule":=au.symm.trans [aw:λq=> .bad Z ak q.1 q.2];cases hu:us' with
    |nil=>
     rw[hu] at U ac;let ax:gs= []:=List.length_eq_zero_iff.mp ac.length.symm
     rw[0,uK _,λt0 h0=>(ae,t0,[],1,1,SqT.of (qf h0 _ _ _ (s2 _ _ U)),SqT.of qg,0,iO rfl ?_)];let m0:=qf h0 (.tup ([]:oj V))
     rw[0,sml rfl,λt1 h1=>?_];let m1:=qf h1 (-[V.str "fault",V.str "rule"]);let i1:=Is.new (ds:= [-"fault",-"rule"]) (_,0,Qi (),_,0,Qi (),1) h1
     let sm:=((s1.trans s2).trans m0).trans m1;let af:=ie.mono sm.tk;rw[ee] at af
     rw[_,_,[-"fault",-"rule"],af,i1,aa,1,am];refine k _ _ sm ?_;show AJ [!kx,ex] [-"fault",-"rule"]=v_↔_;rw[Qy aa,ao,ee];exact⟨λq=>⟨ax,by rw[q];rfl⟩,λq=>D.tup.inj q.2⟩
    |cons v r=>
     let ay:=aC v r hu;rw[hu] at U
     rw[0,uK _,λt0 h0=>(ae,t0,0,1,SqT.of (qf h0 _ _ _ (s2 _ _ U)),SqT.of qg,0,iI rfl ?_)];exact k Vd _ ((s1.trans s2).trans (qf h0 _)) ⟨λq=>(by rw[q,0]),λq=>A8 (ao.mp q).1 ay⟩
   |some rs=>
    refine iU (q4 _ _ ?_);erw[qac ak,hR,aD];rw[aD] at ir
    rw[0,0,0,0,ag,own,ae,us',ev,rs,gs,en,1,ir.mono s2.tk,hR,aI,s2 _ _ U,ac.mono s2.tk,aL,ie.mono (s1.trans s2).tk,hE,λb H3 s3 hb=>k b _ ((s1.trans s2).trans s3) (hb.trans (HU ?_ au))]
    rw[_,λ⟨r,h1,h2⟩=> .run rs r Z ak h1 h2,λq=>?_];cases q with
    |lack h0 _ _=>rw[Z,0] at h0|bad _ h0 _ _=>rw[ak,0] at h0|run aW r h0 h1 h2 h3=>
     rw[ak,0] at h1;exact[r:h2:h3]
 rw[0,ts,_,_,0,1,SqT.of ap,qy (j:=0) rfl,1,0];rcases aH with rfl|⟨rfl,z,rfl⟩
 .refine iI (ud (λy=>by have:=V.str.inj y;revert this;decide+kernel)) (aB w2 e0 as ta us H (ic.refl _) aA ah aq hA [λq=> .go [] as e0 (.inl [1:1]) rfl q:λq=>?_])
  cases q with
  |wait z h0 _ _=>
   injection h0 with h0
   injection h0 with h0 _
   injection h0 with h0
   exact A8 h0 ()
  |go pre gs rl h0 h1 h2=>
   rcases h0 with⟨h0,rfl⟩|⟨z,h0,_⟩
   .rw[h0,0];rw[tW] at h1;rwa[h1]
   .injection h0 with h0
    injection h0 with h0 _
    injection h0 with h0
    exact A8 h0 ()
 .erw[aA,rfl,aE];refine iO (u8 rfl) ?_;let made:∀{pre:oj D}{rl:D},Hs (-[-"made",!z]) pre rl->pre= [-[-[-"rule",!z],rl]]:=λh0=>by
   rcases h0 with⟨h0,_⟩|⟨z',h0,e⟩
   .injection h0 with h0
    injection h0 with h0 _
    injection h0 with h0
    exact A8 h0 ()
   .rw[h0,0];exact e
  show nA _ _ _ _ H;rw[8,A1,a1];cases as with
  |nil=>
   rw[show us= [] from aq,0]
   rw[0,uK _,λt0 h0=>(ta,t0,[],1,1,SqT.of (qf h0 _ _ _ ah),SqT.of qg,0,iO rfl ?_)];let m0:=qf h0 (.tup ([]:oj V))
   rw[0,0,ts,_,_,0,1,SqT.of (m0 _ _ ap),qy (j:=1) rfl,sml rfl,λt1 h1=>?_];let m1:=qf h1 (-[V.str "stuck",V.str z]);let i1:=Is.new (ds:= [-"stuck",!z]) (_,0,Qi (),_,0,[1:aE],1) h1
   let af:=ie.mono (m0.trans m1).tk;rw[ee] at af
   rw[_,_,[-"stuck",!z],af,i1,aa,1,am];refine k _ _ (m0.trans m1) ?_;show AJ [!kx,ex] [-"stuck",!z]=v_↔_;rw[Qy aa,ee]
   rw[_,λq=> .wait z rfl rfl (by rw[q];rfl),λq=>?_]
   cases q with
   |wait z' h0 _ h2=>
    rw[h0,0];exact D.tup.inj h2
   |go pre gs rl h0 h1 h2=>
    rw[made h0,0] at h1
  |cons x1 gs=>
   erw[hA x1 ug,u,z',an,rfl,aX];obtain⟨v1,rr,rfl,i1,aO⟩:=(show∃v1 rr,us=v1::rr/\Is H (-[-[!u,!z'],an]) v1/\L2.IsL H gs rr from by
    erw[aq,v1,rr,e,h1,h2,<-(v1,rr,e,h1,h2)])
   erw[i1,tp,up,rfl,aF,x1,aY,rfl,aP,x2,aQ,rfl,aR,aS];rw[show aQ= [] from aS,0]
   rw[0,uK _,λt0 h0=>(ta,t0,0,1,SqT.of (qf h0 _ _ _ ah),SqT.of qg,0,iI rfl (a1 _ _ ?_))];let m0:=qf h0 (.tup ([]:oj V));generalize upd H t0 (-[])=H1 at m0⊢;rw[8,A2,a2]
   rw[0,ta,_,_,0,1,SqT.of (m0 _ _ ah),qy (j:=0) rfl,tp,_,_,0,1,SqT.of (m0 _ _ aF),qy (j:=0) rfl]
   rw[0,ts,_,_,0,1,SqT.of (m0 _ _ ap),qy (j:=1) rfl,sml rfl,λt1 h1=>?_];let m1:=qf h1 (-[V.str "rule",V.str z]);let j1:=Is.new (ds:= [-"rule",!z]) (_,0,Qi (),_,0,[1:aE],1) h1
   rw[_,[!u,!z'],[-"rule",!z],aP.mono (m0.trans m1).tk,j1,1,1,by simp[dpL,dp],0]
   let al:=m0.trans m1;by_cases cu:AJ [!u,!z'] [-"rule",!z]=v_
   .rw[cu];refine iU (a2 _ _ ?_);let cu:=(Qy (show nL [!u,!z']=v_ from rfl)).mp cu
    rw[cu,0];generalize upd H1 t1 (-[V.str "rule",V.str z])=H2 at al⊢;rw[8,A3,a3]
    rw[0,ta,_,_,0,1,SqT.of (al _ _ ah),qy (j:=0) rfl,tp,_,_,0,1,SqT.of (al _ _ aF),qy (j:=1) rfl,a3 _ _ ?_]
    rw[0,0,ta,0,SqT.of (al _ _ ah),λhw=>?_,λ_ pp hp=>?_]
    .exfalso;let h1:=hw.1;let h1:HT.sIx ↑(_::rr) 0 (u_ ((1:Nat):Int))=0:=h1;rw[HT.sIx_nat] at h1;rw[um] at h1;omega
    .let hc:nE (V.ref tp::rr) (u_ 1) U_=rr:=by
      rw[show(u_ (1:Int))=u_ ((1:Nat):Int) from rfl,J6 (by rw[um];omega)]
      rfl
     rw[hc];let mp:=al.trans (qf hp (¬rr));refine aB x2 an gs pp rr _ mp (aR.mono mp.tk) qg (aO.mono mp.tk) (λx hx=>hA x (uf _ hx)) [λq=> .go [-[-[-"rule",!z],an]] gs an (.inr [z:1:1]) rfl q:λq=>?_];cases q with
     |wait _ _ h0 _=>rw[h0,0]|go pre aT rl h0 h1 h2=>
      rw[made h0,0] at h1;exact h2
   .rw[Bool.eq_false_iff.mpr cu];refine iY (k Vd _ al ⟨λq=>(by rw[q,0]),λq=>?_⟩)
    exfalso;cases q with
    |wait _ _ h0 _=>rw[h0,0]|go pre aT rl h0 h1 h2=>
     rw[made h0,0] at h1;exact cu ((Qy (show nL [-"rule",!z]=v_ from rfl)).mpr rfl)
def Aby {K:o0}{b A:o3}{H1:Hp}{tg:TG}{tc:TT}{te:TE}{tl:L2.St}{Q:VK}{xs:oj V}(C:Nat->oj V->Hp->Prop)(hb:H1 b=u_ (¬xs))(hn:↑xs<=Vg)(h0:C 0 [] (upd H1 A (.lst [])))(hC:∀i ys H,C i ys H->ic H1 H)
  (aa:∀i x ys H U Z,xs[i]? =u_ x->C i ys H->H A=u_ (.lst ys)->tg x (U::Z::tl) H λσ2 H2=>tc σ2 H2 λc H3=>if c=v_ then te σ2 H3 λy H4=>H4 A=u_ (.lst ys)/\(∃u0 u1,σ2=u0::u1::tl)/\C (i+1) (ys++ [y]) (upd H4 A (.lst (ys++ [y]))) else H3 A=u_ (.lst ys)/\(∃u0 u1,σ2=u0::u1::tl)/\C (i+1) ys H3)
  (hQ:∀ys H,C ↑xs ys H->H A=u_ (.lst ys)->Q (-A) H):Az A (Itt K b) tg tc te (U_::U_::tl) H1 Q:=by
 rw[_,↑xs,λi σ ys H=>(∃U Z,σ=U::Z::tl)/\C i ys H,hn,[[U_:U_:1]:h0],?_,?_]
 .rintro i σ ys H hi ⟨⟨U,Z,rfl⟩,hc⟩ hl hy;let sm:=hC _ _ _ hc;let e0:xs[i]? =u_ xs[i]:=ub hi;rw[_,(_,_,SqT.of (sm _ _ hb),e0)];rintro x H' ⟨rfl,hx⟩;let e:=hx _ (SqT.of (sm _ _ hb));exact aa i x ys H' U Z e hc hl
 .rintro σ ys H ⟨_,hc⟩ hl;exact[[_:SqT.of (hC _ _ _ hc _ _ hb):uh _]:hQ ys H hc hl]
def Dh (Z:Q0 qs){n:Str}{sv:V}(h1:n>qs.map (·.1)->Is H (qH qs n) sv)(h2:n∉qs.map (·.1)->sv= .non):∃d,Is H d sv/\(d= .non\/∃k e,d=-[!k,e])/\d=qH qs n/\jh (jv d)=(g0D n (qH qs n)).isSome:=by
 by_cases c:n>qs.map (·.1)
 .erw[j7 Z c,_,kk,e,hd,_];rw[_,_,h1 c,.inr [kk:e:hd],1];rw[hd];unfold jv g0D
  try dsimp only
  by_cases U:kk="leaf"
  .rw[A6 U,A6 U];rfl
  .rw[A4 U,A4 U];split<;>rfl
 .rw[_,.non,h2 c,.inl rfl,(Yp c).symm];cases hg:g0D n (qH qs n) with|none=>rfl|some s=>exact A8 ((yY qs).gn n s hg) c
def Cr {d:D}(h:d= .non\/isT d=v_):sND d=v_/\dp d<=12:=by
 rcases h with rfl|h
 .exact⟨1,by simp[dp]⟩
 .rw[_,?_,JE h];have:=jP (yg h);cases d<;>simp_all [sND,nD,isT,good]
inductive Kc (CP:Addr):Sp
 |mk (px ed t:Addr)(av:V)(kd z:Str)(an:D)(qs ers:List (Str×D))(_:vs= [-px,-ed,-t,av])(_:H t=u_ (-[!kd,!z]))(_:yn CP H px qs)(_:Q0 qs)(_:TbL H ed ers)(_:Is H an av)(_:↑z<=1000)(_:an= .non\/isT an=v_)(_:∀x>ers.map (·.1),mK (qH ers x))(_:∀(b:Bool)(H':Hp),ic H H'->(b=v_↔C6 qs ers kd z an)->Q (.bl b) H')
def CB:#[C,5,a.jL,a.jQ,["project","earlier","ask","answer"],(Kc a.qK)]:=by
 let QD:=#[xu,T];let W6:=#[oK,T];let qM:=#[yD,T];let Qp:=#[W2,T];refine T.lQ.F.ok jm () (λ_ _ _ s H vs Q E hr h=>?_)
 erw[h,px,ed,t,av,kd,z,an,qs,ers,rfl,ht,hP,hq,hT,ia,a1,aL,aM,k];let hs:=uB;erw[Cr aL,aa,a2];let ac:=OH aa;rw[3,%[@qI _ _ _ _ _ _ _ _ #[JR,#[qm,Ao,#[qE,qB,pv 2,qh],qi],#[Y3,#[Qo,#[Qe,#[qt,QD,T.iF,#v[#[qE,qB,pv 2,qh]]]]]]].pt %[|#[qo,Yx]] qp,#[qI,#[qm,8,QV,#[qE,qB,pv 2,qh],#[qA,#v[qi,qi]],#[w]],%[|#[qo,#[Qb,DX hr.units,pv 3,#[Qh,pv 0,T.Qt,T.io,Qp,#v[pv 2]]]]],qp],#[qI,#[qm,8,xg,#[qE,qB,pv 2,qh],#[qA,#v[qi,qi]],#[w]],%[|#[qo,Yx]],qp],#[qF,(4),jm.nd,#[Qh,pv 0,T.Qt,T.ii,qM,#v[#[qE,qB,pv 2,qh]]]],#[qI,#[Qe,#[qt,W6,T.mS,#v[pv 4]]],%[|#[qo,#[Qb,DX hr.units,#[wD,7,QU hr,pv 1,#[qE,qB,pv 2,qh],(1,1,1,1)],#[qA,#v[qi,pv 3]]]]],qp]|#[qo,#[Qb,DX hr.units,pv 3,#[ym,#[qm,yk,pv 4,qR],qR,#[qE,qB,pv 4,qh]]]]]]
 rw[8,N1,q1];let ap:(kd≠"names"->nm z=v_)->∀H1,ic H H1->N1 [u_ (-px),u_ (-ed),u_ (-t),u_ av,U_] H1:=by
  intro aq H1 s1;refine q1 _ _ ?_;let au:=s1 _ _ ht;let aw:=hP.same s1;let aN:=hT.same s1;let aO:=ia.mono s1.tk;erw[id aw,ax,a3,op,a4,hx,_];rw[8,N2,q2]
  rw[0,t,_,_,0,1,SqT.of au,qy (j:=0) rfl,sml rfl,λl hl=>?_];let m2:=qf hl (-[V.str "has",V.str "names"])
  rw[_,l,0,.inr (SqT.of qg),1,1,0];let s2:=s1.trans m2;let ad:=m2 _ _ au;let ah:=aw.same m2;let ay:=aN.same m2;let ak:=aO.mono m2.tk;let al:=m2 _ _ hx;generalize upd H1 l (-[V.str "has",V.str "names"])=H2 at s2 ad ah ay ak al⊢;cases hk:mP kd with
  |true=>
   refine iO ((Acu kd).trans hk) ?_
   rw[0,0,px,ax,0,al,zC,0,px,t,kd,z,qs,1,ah,hq,ad,()]
   let aP:=(XV hq z hk).1;let fin:∀(v6:V) (H6:Hp),ic H2 H6->Is H6 (jR qs kd z) v6->AdU av v6 H6 (λv H'=>Q v H'):=λv6 H6 s6 i6=> .mk an (jR qs kd z) (ak.mono s6.tk) i6 aa (Cr (.inr aP)).1 () (k _ _ (s2.trans s6) ((JZ ac).trans ⟨λq=>[aq:.inl [hk:q]],λq=>by
    rcases q.2 with q|⟨q,_⟩
    .exact q.2
    .rw[hk,0] at q⟩))
   let aA:kd="has"\/kd≠"has"/\kd="names":=by
    unfold mP at hk;by_cases c:kd="has"
    .exact .inl c
    .rw[ud c,tL] at hk;exact .inr [c:ui hk]
   rcases aA with c|⟨c',c⟩
   .refine .inl [c:fin _ H2 (ic.refl _) ?_];unfold jR;rw[A6 c];exact Qi (by split<;>decide)
   .refine .inr [c:λv6 H6 s6 i6=>fin v6 H6 s6 ?_];unfold jR;rwa[A4 c']
  |false=>
   refine iI ((Acu kd).trans hk) (q2 _ _ ?_);let U:C6 qs ers kd z an↔(kd="thing"\/kd="rule")/\((g0D z (qH qs z)=U_/\an=(qaN (qH qs z)).getD .non)\/((∃s,g0D z (qH qs z)=u_ s)/\z>ers.map (·.1)/\qH ers z=-[-"said",an])):=by
    rw[_,λq=>?_,λq=>[aq:.inr [hk:q]]];rcases q.2 with⟨q,_⟩|q
    .rw[hk,0] at q
    .exact q.2
   rw[8,N3,q3]
   rw[0,t,_,_,0,1,SqT.of ad,qy (j:=0) rfl,sml rfl,λl2 aQ=>?_];let m3:=qf aQ (-[V.str "thing",V.str "rule"])
   rw[_,l2,0,.inr (SqT.of qg),1,1,0];let aB:inV (V.str kd) [V.str "thing",V.str "rule"]=decide (kd>(["thing","rule"]:oj Str)):=Jw kd ["thing","rule"];let s3:=s2.trans m3;let am:=m3 _ _ ad;let aC:=ah.same m3;let aD:=ay.same m3;let aE:=ak.mono m3.tk;let aF:=m3 _ _ al;generalize upd H2 l2 (-[V.str "thing",V.str "rule"])=H3 at s3 am aC aD aE aF⊢;by_cases Z:kd="thing"\/kd="rule"
   .refine iI (by rw[aB,u8 (by rcases Z with rfl|rfl<;>simp)];rfl) (q3 _ _ ?_)
    rw[8,N4,q4]
    rw[0,px,ax,0,aF,yj,0,t,_,_,0,1,SqT.of am,qy (j:=1) rfl,px,z,qs,1,aC,λsv h1 h2=>q4 _ _ ?_];rw[8,N5,q5];erw[Dh hq h1 h2,d,aG,hd,aR,aS]
    rw[0,sv,d,1,aG,hd,λH4 s4=>[0:?_]];rw[aS];let ae:=s3.trans s4;let aT:=s4 _ _ am;let af:=aE.mono s4.tk;cases hg:g0D z (qH qs z) with
    |some sz=>
     refine iO rfl ?_;rw[hg] at U;erw[aD.same s4,vs,aH,a5,aU,aV]
     rw[0,ed,1,.inl [_:.inl aH],0,t,_,_,0,1,SqT.of aT,qy (j:=1) rfl,_,mT.k (k:=Vf z) aH];let aI:sND (-[-"said",an])=true:=mK.nl ac;by_cases cz:z>ers.map (·.1)
     .erw[aV z cz,v,l1,l2];erw[aM z cz,k1,x1,e1,n1,n2,_];rw[l1]
      rw[0,sml rfl,λt5 h5=>?_];let m5:=qf h5 (-[V.str "said",av]);refine .mk (qH ers z) (-[-"said",an]) (l2.mono m5.tk) (Is.new (ds:= [-"said",an]) (_,0,Qi (),_,0,af,1) h5) (by rw[e1];exact mK.nl n1) aI (by rw[e1];simp![dp,dpL];omega) (k _ _ (ae.trans m5) ?_)
      rw[JZ (by rw[e1];exact mK.nl n1),U]
      rw[_,λq=>[Z:.inr [⟨0⟩:cz:q]],λq=>?_];rcases q.2 with⟨q,_⟩|q
      .rw[q,0]
      .exact q.2.2
     .rw[Zy (λy=>cz ((aU z).mp y))]
      rw[0,sml rfl,λt5 h5=>?_];let m5:=qf h5 (-[V.str "said",av]);refine .mk .non (-[-"said",an]) rfl (Is.new (ds:= [-"said",an]) (_,0,Qi (),_,0,af,1) h5) rfl aI (by simp[dp]) (k _ _ (ae.trans m5) ?_)
      rw[U]
      rw[_,λq=>by simp[eqD] at q,λq=>?_]
      rcases q.2 with⟨q,_⟩|q
      .rw[q,0]
      .exact A8 q.2.1 cz
    |none=>
     refine iI rfl (q5 _ _ ?_);rw[hg] at U;let aJ:C6 qs ers kd z an↔an=(qaN (qH qs z)).getD .non:=by
      refine U.trans [λq=>?_:λq=>[Z:.inl [1:q]]];rcases q.2 with q|⟨⟨_,q⟩,_⟩
      .exact q.2
      .rw[q,0]
     let ag:=aG.mono s4.tk
     rw[0,0,1,0];by_cases c:z>qs.map (·.1)
     .erw[j7 hq c,_,kk,e,ao,_,aW];rw[ao] at hg;let aK:kk="leaf":=by
       by_cases ck:kk="leaf"
       .exact ck
       .unfold g0D at hg
        try dsimp only at hg
        rw[A4 ck] at hg;split at hg<;>cases hg
      have hT:=(aW (by rw[aK];decide+kernel)).2
      rw[aR,ao] at ag;erw[ag,ts,us,rfl,aX,w1,r1,rfl,_,w2,r2,rfl,aY,aZ];rw[show r2= [] from aZ,0]
      refine iI (ud (λz=>by rw[z,0])) ?_
      rw[0,ts,_,_,0,1,SqT.of aX,qy (j:=1) rfl];refine .mk an e af aY aa (Cr (.inr hT)).1 () (k _ _ ae ((JZ ac).trans (HU ?_ aJ.symm)))
      rw[ao,aK];exact hV
     .rw[h2 c,0];refine iO (u8 rfl) ?_;refine .mk an .non af rfl aa rfl () (k _ _ ae ((JZ ac).trans (HU ?_ aJ.symm)))
      rw[Yp c];exact hV
   .refine iO (by rw[aB,ud (by simpa using Z)];rfl) ?_
    exact(k Vd _ s3 ⟨λq=>(by rw[q,0]),λq=>A8 (U.mp q).1 Z⟩)
 rw[0,t,_,_,0,1,SqT.of ht,qy (j:=0) rfl,1,0];by_cases ck:kd="names"
 .exact iI (by simp[ck]) (iI rfl (ap (λq=>A8 ck q) H (ic.refl _)))
 .refine iO (by simpa using ck) ?_
  rw[0,t,_,_,0,1,SqT.of ht,qy (j:=1) rfl,!z,!z,1,Qi (),λH1 s1=>[0:?_]]
  rw[show mM (!z)=nm z from rfl]
  cases hn:nm z with
  |true=>exact iU (ap (λ_=>hn) H1 s1)|false=>
   refine iY (k Vd _ s1 ⟨λq=>(by rw[q,0]),λq=>?_⟩)
   have:=q.1 ck;rw[hn,0] at this
abbrev RtA (qs ers:oj (Str×D))(x:D):Prop:=∃kd z an,x= .tup [-[!kd,!z],an]/\C6 qs ers kd z an
abbrev rtB (qs ers:oj (Str×D)) (x:D):Bool:= @decide (RtA qs ers x) (FT _)
variable {ers:oj (Str×D)}
def Aj {x:D}:rtB qs ers x=v_↔RtA qs ers x:= @decide_eq_true_iff _ (FT _)
def Bk {an:D}:C6 qs ers kd z an↔RtA qs ers (-[-[!kd,!z],an]):=⟨λh=>(kd,z,an,1,h),λ⟨_,_,_,e,h⟩=>by rw[e,0];exact h⟩
abbrev C5 (x:D):Prop:=∃(kd z:Str) (an:D),x= .tup [-[!kd,!z],an]/\↑z<=1000/\(an= .non\/isT an=v_)
def Ab3 (hq:Q0 qs){x:D}(h:C5 x)(h2:RtA qs ers x):NH x:=by
 erw[h,kd,z,an,rfl,_,ha];let hr:=Bk.mpr h2;rw[_,kd,z,an,1,λhu=>?_];rcases hr.2 with⟨hh,e⟩|⟨hh,U,_⟩
 .rw[e];exact(XV hq z hh).2
 .let Z:kd="thing":=by
   rcases U with U|U
   .exact U
   .rw[U] at hu;exact A8 hu ()
  subst Z;rcases ha with rfl|ha
  .rfl
  .unfold AU;cases jh an with|true=>rw[A6 rfl];exact u8 rfl|false=>rw[A4 uc,A6 ha,A4 (),u8 rfl,Rx]
inductive WdS (qs ers es:List (Str×D))(s:Str×List D×D):Option Str->Prop
 |name (h:s.1>ers.map (·.1)\/g0D s.1 (qH qs s.1)=U_):WdS qs ers es s (u_ "name")
 |ans (h1:s.1∉ers.map (·.1))(h2:∃g,g0D s.1 (qH qs s.1)=u_ g)(h3:¬∀x>s.2.1,RtA qs ers x):WdS qs ers es s (u_ "answer")
 |run (h1:s.1∉ers.map (·.1))(h2:∃g,g0D s.1 (qH qs s.1)=u_ g)(h3:∀x>s.2.1,RtA qs ers x)(h4:¬Zx (qH qs s.1) s.1 s.2.1 s.2.2):WdS qs ers es s (u_ "run")
 |stk (h1:s.1∉ers.map (·.1))(h2:∃g,g0D s.1 (qH qs s.1)=u_ g)(h3:∀x>s.2.1,RtA qs ers x)(h4:Zx (qH qs s.1) s.1 s.2.1 s.2.2)(h5:¬∀z,s.2.2=Bf z->z>es.map (·.1)/\Y5 (qH es z)=U_):WdS qs ers es s (u_ "stuck")
 |good (h1:s.1∉ers.map (·.1))(h2:∃g,g0D s.1 (qH qs s.1)=u_ g)(h3:∀x>s.2.1,RtA qs ers x)(h4:Zx (qH qs s.1) s.1 s.2.1 s.2.2)(h5:∀z,s.2.2=Bf z->z>es.map (·.1)/\Y5 (qH es z)=U_):WdS qs ers es s U_
def Abu {d:D}(h:∃g,g0D m d=u_ g):¬g0D m d=none:=λq=>by
 erw[h,g,e];rw[q,0] at e
def WdS.one {s:Str×oj D×D}{o o':om Str}(h:WdS qs ers es s o)(h':WdS qs ers es s o'):o=o':=by
 let no:∀{P:Prop},(s.1>ers.map (·.1)\/g0D s.1 (qH qs s.1)=U_)->s.1∉ers.map (·.1)->(∃g,g0D s.1 (qH qs s.1)=u_ g)->P:=λh1 h2 h3=>A8 h1 (not_or.mpr [h2:Abu h3]);cases h with
 |name a=>
  cases h' with
  |name _=>rfl|ans b c _=>exact no a b c|run b c _ _=>exact no a b c|stk b c _ _ _=>exact no a b c|good b c _ _ _=>exact no a b c
 |ans a b c=>
  cases h' with
  |name d=>exact no d a b|ans _ _ _=>rfl|run _ _ d _=>exact A8 d c|stk _ _ d _ _=>exact A8 d c|good _ _ d _ _=>exact A8 d c
 |run a b c d=>
  cases h' with
  |name e=>exact no e a b|ans _ _ e=>exact A8 c e|run _ _ _ _=>rfl|stk _ _ _ e _=>exact A8 e d|good _ _ _ e _=>exact A8 e d
 |stk a b c d e=>
  cases h' with
  |name f=>exact no f a b|ans _ _ f=>exact A8 c f|run _ _ _ f=>exact A8 d f|stk _ _ _ _ _=>rfl|good _ _ _ _ f=>exact A8 f e
 |good a b c d e=>
  cases h' with
  |name f=>exact no f a b|ans _ _ f=>exact A8 c f|run _ _ _ f=>exact A8 d f|stk _ _ _ _ f=>exact A8 e f|good _ _ _ _ _=>rfl
inductive Jf (CP:Addr):Sp
 |mk (px sd ed ts ta:Addr)(us:List V)(ev:V)(m:Str)(as:List D)(en:D)(qs ers es:List (Str×D))(_:vs= [-px,-sd,-ed,-ts])(_:H ts=u_ (-[!m,-ta,ev]))(_:H ta=u_ (¬us))(_:L2.IsL H as us)(_:Is H en ev)(_:yn CP H px qs)(_:Q0 qs)(_:TbL H sd es)(_:TbL H ed ers)(_:∀x>as,C5 x)(_:mK en)(_:∀x>ers.map (·.1),mK (qH ers x))(_:∀x>es.map (·.1),mK (qH es x))(_:∀(o:Option Str)(H':Hp),ic H H'->WdS qs ers es (m,as,en) o->(∀w,o=u_ w->↑w<=10)->Q (match o with|none=> .non|some w=> !w) H')
def LB:#[C,12,a.ZS,a.wp,["project","ends","earlier","step"],(Jf a.qK)]:=by
 let Zp:=#[CB,T,C];let W6:=#[oK,T];let qM:=#[yD,T];let aN:=#[Ef,T,C];refine T.mF.F.ok YR () (λ_ _ _ s H vs Q E hr h=>?_)
 erw[h,px,sd,ed,ts,ta,us,ev,m,as,en,qs,ers,es,rfl,ah,aA,ap,ie,hP,hq,hS,hT,aB,aC,aO,aP,k];let hs:=uB;erw[id hP,aQ,bt,op,bu,hx,_];let aD:↑us=↑as:=↑ap;let bad:∀{w:Str}{H':Hp},ic H H'->WdS qs ers es (m,as,en) (u_ w)->↑w<=10->Q (!w) H':=λ{w H'} s' hb hw=>k (u_ w) _ s' hb λw' e=>by rw[e,0];exact hw
 rw[3,%[#[qF,(4),YR.nd,#[qE,qB,pv 3,qh]],#[qF,(5),YR.nd,#[qE,qB,pv 3,qh]],#[qF,(6),YR.nd,#[Qh,pv 0,T.Qt,T.ii,qM,#v[pv 4]]],@qI _ _ _ _ _ _ _ _ #[jI,#[kK,#[pc_din,pv 4,pv 2]],#[Yu,#[Qo,#[Qe,#[qt,W6,T.mS,#v[pv 6]]]]]].pt %[|#[qo,qi]] qp,#[qI,#[Qo,#[Qe,#[qz,#[zh,1,rfl],T.z_all,tE,#v[#[Xw,2,["ask","answer","project","earlier"],(2),[0,2],9,Md (qj jp) ["project","ends","earlier","step","name","end","source"],rfl,#[Zb,#[qE,qB,pv 3,qh]],(λ_ _ _ _ _ _=>#[DN,1,K,3,(2),1,rfl,rfl,qT #[qJ,(0),(show Vu (["ask","answer","project","earlier"]:oj Str) by decide+kernel)] (qT #[qJ,(1),(show Vu (["ask","answer","project","earlier"]:oj Str) by decide+kernel)] yW),_,_]),(λ_ _ _ _ _ _=> @yB _),(λ_ _ _ _ _ _=>#[qt,Zp,T.lQ,#v[pv 2,pv 3,pv 0,pv 1]]),_]]]]],%[|#[qo,qi]],qp],#[qI,#[Qo,#[Qe,#[qt,aN,T.my,#v[pv 6,pv 4,#[qE,qB,pv 3,qh],pv 5]]]],%[|#[qo,qi]],qp],@qI _ _ _ _ _ _ _ _ #[JR,#[qm,Qd,#[qE,qB,pv 5,qh],qi],@Y3 _ _ _ _ #[jI,#[kK,#[oG,5,QU hr,#[qE,qB,pv 5,qh],pv 1]],#[Yu,#[qm,Qd,#[qE,qB,#[QN,pv 1,#[qE,qB,pv 5,qh]],qh],qi]]].pt].pt %[|#[qo,qi]] qp|#[qo,qR]]]
 rw[8,N1,q1]
 rw[0,ts,_,_,0,1,SqT.of ah,qy (j:=0) rfl,q1 _ _ ?_];rw[8,N2,q2]
 rw[0,ts,_,_,0,1,SqT.of ah,qy (j:=2) rfl,q2 _ _ ?_];rw[8,N3,q3]
 rw[0,px,aQ,0,hx,yj,0,px,m,qs,1,hP,λsv h1 h2=>q3 _ _ ?_];rw[8,N4,q4];erw[Dh hq h1 h2,d,aq,hd,aR,aS];erw[id hT,vs,aT,bv,aU,aV]
 rw[0,0,ed,0,mT.k (k:=Vf m) aT,0];by_cases U:m>ers.map (·.1)
 .erw[aV m U,v,l1,_];rw[l1];exact iO rfl (bad (ic.refl _) (.name (.inl U)) ())
 rw[Zy (λy=>U ((aU m).mp y))];refine iI rfl ?_
 rw[0,sv,d,1,aq,hd,λH1 s1=>[0:?_]];rw[aS];cases hg:g0D m (qH qs m) with
 |none=>
  exact iY (bad s1 (.name (.inr hg)) ())
 |some sm=>
 refine iU (q4 _ _ ?_);let aW:=(yY qs).gn m sm hg;erw[j7 hq aW,aX,kk,e0,ae,au,ak];let aY:kk="rule"\/kk="made"/\∃z:Str,e0= !z:=by
  by_cases c:kk="made"
  .erw[au c,z,e,_,<-.inr [c:z:e]]
  .rcases(ak c).1 with c'|c'
   .rw[ae,c'] at hg;unfold g0D at hg
    try dsimp only at hg
    rw[A6 rfl,0] at hg
   .exact .inl c'
 rw[8,N5,q5];let aE:=s1 _ _ ah;let am:=s1 _ _ aA
 rw[0,ts,_,_,0,1,SqT.of aE,qy (j:=1) rfl,ta,us,1,SqT.of am,λaZ A0 aF=>?_];refine Aby (tl:= [u_ (-px),u_ (-ed)]) (λi ys H'=>ys=((as.take i).map (rtB qs ers)).map V.bl/\ic H1 H') am aZ [1:qf aF _] (λi ys H' h=>h.2) ?_ ?_
 .rintro i x ys H' w0 w1 hx ⟨rfl,s'⟩ a1;let hi:i<↑as:=by rw[<-aD];exact(Ag.mp hx).1
  erw[ap.get (i:=i) (d:=as[i]) (ub hi),x',aG,ix];rw[hx,0] at aG;erw[aB _ (uN hi),kd,z,an,e,aH,a2];let aw:=s1.trans s';rw[e] at ix;erw[ix.mono aw.tk,t6,w6,rfl,a3,x7,r7,rfl,i7,x8,r8,rfl,i8,a4];rw[show r8= [] from a4,0]
  erw[i7,t7,w7,rfl,a5,x9,r9,rfl,[rfl,bw],xa,ra,rfl,[rfl,bq],a6];rw[show ra= [] from a6,0]
  rw[_,t6,0,SqT.of a3,1]
  rw[_,_,0,_,0,1]
  try dsimp![YG,nK,Gx]
  rw[A6 rfl]
  rw[0,0,0,0,px,ed,t7,x8,kd,z,an,qs,ers,1,a5,hP.same aw,hq,hT.same aw,i8,aH,a2,aO,λb H3 s3 hb=>?_];let a7:b=rtB qs ers as[i]:=Bool.eq_iff_iff.mpr (hb.trans (Bk.trans (by rw[e];exact Aj.symm)))
  subst a7
  rw[5]
  refine(s3 _ _ a1,[_:0],?_,λb o e=>by rw[qk (ql e aF)];exact s3 _ _ (s' _ _ e))
  rw[uV,ub hi,uj,uj]
  rfl
 rintro ys H2 ⟨rfl,s2⟩ a8
 rw[_,A0,0,SqL.of a8];rw[aD,vT];let aa:=s1.trans s2;by_cases Z:∀x>as,RtA qs ers x
 .let ax:(as.map (rtB qs ers)).all id=true:=List.all_eq_true.mpr λb hb=>by
   erw[Af.mp hb,x,hx,rfl,<-Aj.mpr (Z x hx)]
  rw[ax]
  rw[0,iU (q5 _ _ ?_)];rw[8,N6,q6];let aI:=aa _ _ aA;let aJ:=aa _ _ ah;rw[aR,ae] at aq
  rw[0,0,0,ts,_,_,0,1,SqT.of aJ,qy (j:=1) rfl,0,sv,m,ta,us,ev,kk,e0,as,en,1,aq.mono aa.tk,aY,aX,aI,ap.mono aa.tk,λx hx=>Ab3 hq (aB x hx) (Z x hx),ie.mono aa.tk,aC,λb H3 s3 hb=>[0:?_]];let ac:=aa.trans s3;cases b with
  |false=>
   refine iY (bad ac (.run U [sm:hg] Z λq=>?_) ())
   rw[show qH qs (m,as,en).1=_ from ae] at q
   have:=hb.mpr q;rw[this,0]
  |true=>
  refine iU (q6 _ _ ?_);let ad:=hb.mp rfl;rw[<-ae] at ad;rw[8,N7,q7];let a9:=ie.mono ac.tk;erw[id aC,bb,ex,af,_,_,bc];let aK:=a9;rw[af] at aK;erw[aK,te,ue,rfl,ay,v1,r1,rfl,[rfl,_],v2,r2,rfl,bd,bf];rw[show r2= [] from bf,0]
  let fin:∀H',ic H H'->(∀z,en=Bf z->z>es.map (·.1)/\Y5 (qH es z)=U_)->Q .non H':=λH' s' hb=>k U_ _ s' (.good U [sm:hg] Z ad hb) λw e=>by rw[e,0]
  let ao:∀H',ic H H'->(¬∀z,en=Bf z->z>es.map (·.1)/\Y5 (qH es z)=U_)->Q (-"stuck") H':=λH' s' hb=>bad s' (.stk U [sm:hg] Z ad hb) ()
  rw[0,te,_,_,0,1,SqT.of ay,qy (j:=0) rfl,1,0];by_cases ck:bb="stuck"
  .refine iO (u8 (by rw[ck])) ?_
   erw[bc ck,z,hz];subst ck hz;erw[bd,rfl,aH];erw[hS.same ac,bx,aL,bA,bg,bh]
   rw[0,te,_,_,0,1,SqT.of ay,qy (j:=1) rfl,0,sd,0,mT.k (k:=Vf z) aL,0];by_cases cz:z>es.map (·.1)
   .erw[bh z cz,lv,l1,l2];erw[aP z cz,k',x',aM,_,_,_];rw[aM] at l2;erw[l2,tz,uz,ez,bo,y1,z1,rfl,[rfl,_],_];rw[ez] at l1;rw[l1];refine iI rfl ?_
    rw[0,0,te,_,_,0,1,SqT.of ay,qy (j:=1) rfl,sd,0,(by rw[<-l1];exact mT.k (k:=Vf z) aL),tz,_,_,0,1,SqT.of bo,qy (j:=0) rfl,1,0]
    let ag:Y5 (qH es z)=if k'="said" then u_ x' else none:=by rw[aM];rfl
    by_cases al:k'="said"
    .refine iO (u8 (by rw[al])) (ao _ ac λq=>?_)
     have:=(q z af).2;rw[ag,A6 al,0] at this
    .refine iI (ud (λy=>al (V.str.inj y))) (q7 _ _ (fin _ ac λz' bp=>?_));have:z=z':=IV (af.symm.trans bp);subst this;exact⟨cz,by rw[ag,A4 al]⟩
   .rw[Zy (λy=>cz ((bg z).mp y))];exact iO rfl (ao _ ac λq=>cz (q z af).1)
  .refine iI (ud (λy=>ck (V.str.inj y))) (iI rfl (q7 _ _ (fin _ ac λz hz=>?_)));exact A8 (nT (af.symm.trans hz)).1 ck
 .let ax:(as.map (rtB qs ers)).all id=false:=Bool.eq_false_iff.mpr λq=>Z λx hx=>Aj.mp (List.all_eq_true.mp q _ (Af.mpr [x:hx:1]));rw[ax];exact[0:iY (bad aa (.ans U [sm:hg] Z) ())]
abbrev stD (s:Str×oj D×D):D:=-[.str s.1,.tup s.2.1,s.2.2]
structure ShS (n:Nat)(s:Str×oj D×D):Prop where
 nl:↑s.1<=1000
 an:∀x>s.2.1,C5 x
 few:↑s.2.1<=400+n
 en:mK s.2.2
def BV (ps:Pp):↑(iX ps)=↑ps:=by unfold iX;rw[u7]
variable {i:Nat}
def SK {ps:Pp}(hi:i<↑ps):(iX ps)[i]? =u_ (ps[i].1,ps[i].2.2):=by
 unfold iX;rw[uH,ub hi]
 rfl
def Aau (ps:Pp)(i:Nat):(iX ps).take i=iX (ps.take i):=by unfold iX;rw[<-Hw]
def BW {ps:Pp}(h:∀s>ps,ShS n s):∀x>(iX ps).map (·.1),mK (qH (iX ps) x):=λx U=>by
 erw[Adn U,j,s,Z,_,e];rw[e];exact(h s (uW Z)).en
inductive Li:Sp
 |mk (t:Addr)(us:List V)(ps:Pp)(_:vs= [-t])(_:H t=u_ (¬us))(_:L2.IsL H (ps.map stD) us)(_:↑ps<=1000)(_:∀d H',H d=U_->ic H H'->TbL H' d (iX ps)->Q (-d) H')
abbrev FwR (qs:oj (Str×D))(ps:Pp):om (Nat×Str)->Prop
 |none=>∀j s,ps[j]? =u_ s->WdS qs (iX (ps.take j)) (iX ps) s U_|some (i,w)=>(∀j s,j<i->ps[j]? =u_ s->WdS qs (iX (ps.take j)) (iX ps) s U_)/\∃s,ps[i]? =u_ s/\WdS qs (iX (ps.take i)) (iX ps) s (u_ w)
def FwR.one {ps:Pp}{o o':om (Nat×Str)}(h:FwR qs ps o)(h':FwR qs ps o'):o=o':=by
 let nn:∀{i:Nat}{w:Str},FwR qs ps U_->FwR qs ps (u_ (i,w))->False:=λ{i w} a b=>by
  erw[b,_,s,U,Z];rw[(a i s U).one Z,0]
 let le:∀{i i':Nat}{w w':Str},FwR qs ps (u_ (i,w))->FwR qs ps (u_ (i',w'))->¬i<i':=λ{i i' w w'} a b ac=>by
  erw[a,_,s,U,Z];rw[(b.1 i s ac U).one Z,0]
 match o,o',h,h' with
 |none,U_,_,_=>rfl|none,u_ (i,w),a,b=>exact(nn a b).elim|some (i,w),U_,a,b=>exact(nn b a).elim|some (i,w),u_ (i',w'),a,b=>
  let e:i=i':=by
   have:=le a b;have:=le b a;omega
  subst e;erw[a,_,s,U,Z];erw[b,_,s',aa,ad];rw[U,0] at aa;rw[Z.one ad,0]
  rfl
abbrev fwD:om (Nat×Str)->D
 |none=> .non|some (i,w)=>-[.int (i:Int),!w]
inductive Dx (CP:Addr):Sp
 |mk (px t:Addr)(us:List V)(qs:List (Str×D))(ps:Pp)(n:Nat)(_:vs= [-px,-t])(_:H t=u_ (¬us))(_:L2.IsL H (ps.map stD) us)(_:yn CP H px qs)(_:Q0 qs)(_:∀s>ps,ShS n s)(_:↑ps<=1000)(_:∀v H' o,ic H H'->FwR qs ps o->Is H' (fwD o) v->Q v H')
def LR:#[T,1,a.Z2,a.wj,["paper"],Li]:=by
 refine T.mH.F.ok yQ () (λ_ _ _ _ H vs Q E hr h=>?_)
 erw[h,t,us,ps,rfl,ht,ad,hl,k];let hs:=uB;let ae:↑us=↑ps:=by rw[↑ad,u7]
 rw[3,%[#[qF,(1),yQ.nd,Jd],#[y7,#[wq,pv 0],#[JA,qT #[qJ,(2),yQ.nd] (qT #[qJ,(3),yQ.nd] (qT #[qJ,(4),yQ.nd] yW))],%[|#[qY,#[Lw,9,pv 1,pv 2,pv 4,(1,1,1,1)]]]]|#[qo,pv 1]]]
 rw[8,N1,q1];refine λd hd=>q1 _ _ ?_;let m0:=qf hd (.dK ([]:oj (Key×V)));let af:TbL (upd H d (.dK [])) d []:=([],qg,uh _,λ_=>hV,λz hz=>by rw[hz,0])
 generalize upd H d (.dK [])=H0 at m0 af⊢;rw[8,N2,q2]
 rw[0,t,1,[_:SqT.of (m0 _ _ ht)]]
 refine_lift let J_:Nat->L2.St->Hp->Prop:=λi σ H'=>(∃u2 u3 u4,σ= [u_ (-t),u_ (-d),u2,u3,u4])/\ic H H'/\TbL H' d ((iX ps).take i);?_
 refine xB (xs:=us) J_ [[_:_:0]:m0:af] (λi σ H' _ h=>SqT.of (h.2.1 _ _ ht)) ?_ ?_
 .rintro i x σ H1 hx ⟨⟨u2,u3,u4,rfl⟩,s1,vs,U,Z,aa,ac⟩;let hi:i<↑ps:=by rw[<-ae];exact(Ag.mp hx).1
  obtain⟨x',ag,ix⟩:=ad.get (i:=i) (d:=stD ps[i]) (by rw[uH,ub hi];rfl)
  rw[hx,0] at ag;erw[ix,tt,ut,rfl,ak,y1,r1,rfl,[rfl,_],y2,r2,rfl,_,y3,r3,rfl,i3,al];rw[show r3= [] from al,0]
  rw[_,tt,0,SqT.of (s1 _ _ ak),1,_,0,_,0,_,0,1];let am:↑vs<=1000:=by
   rw[uQ,BV] at Z;omega
  rw[5]
  refine(0,d,1,.inl [_:.inl U],0,0,iM vs,Vf ps[i].1,U,1,by unfold iM;rw[u7];omega,λv hv=>?_,λah=>?_)
  .rw[_,[_:_:0],s1];rw[uV,SK hi];refine TbL.skip _ (vs,U,Z,aa,ac) ((aa _).mp (FX λq=>?_));rw[Zy q,0] at hv
  .rw[_,[_:_:0],λb o e=>?_,?_]
   .rw[qk (ql e hd)];exact s1 _ _ e
   .rw[uV,SK hi];refine TbL.put U Z aa ac (λq=>?_) (i3.mono s1.tk);erw[ac _ q,v,hv,_];rw[hv,0] at ah
 .rintro σ H1 ⟨⟨u2,u3,u4,rfl⟩,s1,hT⟩;refine q2 _ _ [0:k d H1 hd s1 ?_];rwa[ae,<-BV,vT] at hT
def Eh:#[C,13,a.zO,a.zX,["project","paper"],(Dx a.qK)]:=by
 let U:=#[LR,T];let Z:=#[LB,T,C];refine T.mz.F.ok yb () (λ_ _ _ s H vs Q E hr h=>?_)
 erw[h,px,t,us,qs,ps,n,rfl,ht,ad,hP,hq,ae,hl,k];let ax:=BW ae;let hs:=uB;let ag:↑us=↑ps:=by rw[↑ad,u7]
 rw[3,%[#[qF,(2),yb.nd,#[qt,U,T.mH,#v[pv 1]]],#[qF,(3),yb.nd,Jd],#[y7,#[Bv,8,_,T.W1,pv 1,_],#[JA,qT #[qJ,(4),yb.nd] (qT #[qJ,(5),yb.nd] yW)],%[#[qF,(6),yb.nd,#[qt,Z,T.mF,#v[pv 0,pv 2,pv 3,pv 5]]],#[qI,#[qm,Zq,pv 6,qR],%[|#[qo,#[qA,#v[pv 4,pv 6]]]],qp]|#[Jm,pv 3,#[qE,qB,pv 5,qh],#[qE,qB,pv 5,qh]]]]|#[qo,qR]]]
 rw[8,N1,q1]
 rw[0,t,us,ps,1,ht,ad,hl,λsd H1 aG s1 hS=>q1 _ _ ?_];rw[8,N2,q2];refine λed ah=>q2 _ _ ?_;let m2:=qf ah (.dK ([]:oj (Key×V)));let ak:TbL (upd H1 ed (.dK [])) ed []:=([],qg,uh _,λ_=>hV,λz hz=>by rw[hz,0])
 let s2:=s1.trans m2;let ay:=hS.same m2;generalize upd H1 ed (.dK [])=H2 at m2 ak s2 ay⊢;rw[8,N3,q3]
 rw[0,t,us,1,SqT.of (s2 _ _ ht),λhsz=>?_]
 refine_lift let J_:Nat->L2.St->Hp->Prop:=λi σ H'=>(∃u4 u5 u6,σ= [u_ (-px),u_ (-t),u_ (-sd),u_ (-ed),u4,u5,u6])/\ic H1 H'/\TbL H' ed ((iX ps).take i)/\∀j s,j<i->ps[j]? =u_ s->WdS qs (iX (ps.take j)) (iX ps) s U_;?_
 refine Nw (c:=0) (xs:=us) J_ ([_:_:0],m2,ak,λj s hj=>A8 hj (T5 j)) (λi σ H' hi h=>SqT.of (h.2.1 _ _ (s1 _ _ ht))) ?_ ?_
 .rintro i y σ H' p hy ⟨⟨u4,u5,u6,rfl⟩,s',al,aa⟩ hp;let hi:i<↑ps:=by rw[<-ag];exact(Ag.mp hy).1
  obtain⟨y',am,iy⟩:=ad.get (i:=i) (d:=stD ps[i]) (by rw[uH,ub hi];rfl)
  rw[hy,0] at am;let m4:=qf hp (-[.int (0+(i:Int)),y]);let e4:(upd H' p (-[.int (0+(i:Int)),y])) p=u_ (-[.int (0+(i:Int)),y]):=qg;let s4:=s'.trans m4;let ac:=al.same m4;generalize upd H' p (-[.int (0+(i:Int)),y])=H4 at m4 e4 s4 ac⊢;let ao:=s1.trans s4;erw[iy.mono ao.tk,tt,ut,rfl,af,y1,r1,rfl,[rfl,_],y2,r2,rfl,i2,y3,r3,rfl,i3,aA];rw[show r3= [] from aA,0]
  erw[i2,ta,ua,rfl,aB,aC]
  rw[_,p,0,SqT.of e4,1,_,0,_,0,1];show nA _ _ _ _ H4;rw[8,B1,b1];let ap:=ae _ (uN hi);rw[Aau] at ac
  rw[0,0,0,0,px,sd,ed,tt,ta,ua,y3,ps[i].1,ps[i].2.1,ps[i].2.2,qs,iX (ps.take i),iX ps,1,af,aB,aC,i3,hP.same ao,hq,hS.same s4,ac,ap.an,ap.en,BW λs hs=>ae s (vj hs),ax,λow H5 s5 hW aD=>b1 _ _ ?_];rw[8,B2,b2]
  rw[0,1,0];let aq:=s4.trans s5;cases ow with
  |none=>
   refine iI rfl (b2 _ _ ?_);erw[ac.same s5,vs,au,aw,aE,aF];let aH:↑vs<=1000:=by
    rw[BV,uQ] at aw;omega
   rw[0,tt,_,_,0,1,SqT.of (s5 _ _ af),qy (j:=2) rfl,0,0,tt,_,_,0,1,SqT.of (s5 _ _ af),qy (j:=0) rfl,ed,0,C4.k (k:=Vf ps[i].1) au (by unfold iM;rw[u7];omega),[_:_:0],λb o e=>?_,?_,λj s hj hs=>?_]
   .rw[qk (ql e ah)];exact aq _ _ e
   .rw[uV,SK hi,Aau];refine TbL.put au aw aE aF ?_ (i3.mono s5.tk);cases hW with|good h1 _ _ _ _=>exact h1
   .by_cases cj:j<i
    .exact aa j s cj hs
    .have:j=i:=by omega
     subst this;rw[ub hi,0] at hs;exact hW
  |some wz=>
   refine iO rfl ?_
   rw[0,0,sml rfl,λt6 h6=>?_];let hz:=aD wz rfl;refine k _ _ (u_ (i,wz)) ((s1.trans aq).trans (qf h6 _)) (aa,_,ub hi,hW) ?_;rw[show(0:Int)+(i:Int)=(i:Int) by omega]
   exact Is.new (ds:= [.int (i:Int),!wz]) (_,0,1,_,0,Qi (),1) h6
 .rintro σ H' ⟨⟨u4,u5,u6,rfl⟩,s',al,aa⟩;exact q3 _ _ (k _ _ U_ (s1.trans s') (λi s hs=>aa i s (by rw[ag];exact(Ag.mp hs).1) hs) rfl)
def EA:∀{l m:oj Str},l.Nodup->(∀x>l,x>m)->↑l<=↑m
 | [],m,_,_=>uK _|x::r,m,hn,hs=>by
  rw[UF] at hn;let U:=hs x ug;let h:=EA (l:=r) (m:=m.erase x) hn.2 (λy Z=>(List.mem_erase_of_ne (λz=>hn.1 (by rwa[<-z]))).mpr (hs y (uf _ Z)))
  rw[List.length_erase_of_mem U] at h;have:0<↑m:=List.length_pos_of_mem U;rw[um];omega
def MA {p:Gp}(h:GI p):↑(Yy p)<=400:=by
 let h1:=h.ra.2.2;unfold Yy;rw[uw];cases U:p.run with
 |none=>show _+0<=400;omega|some q=>
  erw[q,rs,r];let h2:=(h.run rs r U).2.1;let h3:=h2.gs.2.2;let h4:=h2.n;show _+↑r.gs<=400;omega
abbrev Ab7 (qs:oj (Str×D))(s:Str×oj D×D):Prop:=∃g,g0D s.1 (qH qs s.1)=u_ g/\s.2.1=Yy (itP qs 302 g)/\s.2.2=Mt (itP qs 302 g)
def sV (hq:Q0 qs){s:Str×oj D×D}(h:Ab7 qs s):nm s.1=v_/\s.1>qs.map (·.1)/\ShS 0 s:=by
 erw[h,g,e1,e2,e3];let ad:=(yY qs).gn _ g e1;let hn:=hq.1.1.1 _ ad;let aa:=(AbK hq e1 302).1;let ac:=EL e1;refine(hn,ad,by have:=zG hn;omega,λx hx=>?_,by rw[e2];exact MA aa,?_)
 .rw[e2] at hx;erw[AbZ hq e1 302 x hx,kd,z,an,rfl,ae,hc];rw[_,kd,z,an,1,ae];rcases hc with⟨hk,e⟩|⟨_,_,y,hy,e⟩
  .rw[e];exact .inr (XV hq z hk).1
  .rw[e];exact AdK hq z y hy
 .let Z:=(Adj aa ac).2.2;rw[<-e3] at Z;let hE:EnS s.2.2:=by
   rw[e3];unfold Mt;cases he:(itP qs 302 g).en with
   |none=>rw[he,0] at ac|some e=>exact aa.en e he
  let U:∀{k:Str}{x:D},s.2.2= .tup [!k,x]->nD x=v_/\dp x<=40:=λ{k x} e=>by
   rw[e] at Z;simp![nD,nL,uE,dp,dpL] at Z;exact[Z.1.2.1:()]
  rcases hE with⟨z,e⟩|⟨x,e,_⟩|⟨z,e⟩
  .exact(_,_,e,(U e).1,(U e).2,λ_=>[z:1])
  .exact(_,_,e,(U e).1,(U e).2,λq=>A8 q ())
  .exact(_,_,e,(U e).1,(U e).2,λ_=>[z:1])
abbrev StR (qs:oj (Str×D))(R:Pp):Prop:=(∀s>R,Ab7 qs s)/\(R.map (·.1)).Nodup
def StR.len (U:Q0 qs){R:Pp}(h:StR qs R):↑R<=60:=by
 have:=EA h.2 (m:=qs.map (·.1)) λz hz=>by
  erw[Af.mp hz,s,Z,rfl,<-(sV U (h.1 s Z)).2.1]
 rw[u7,u7] at this;have:=U.2.2;omega
abbrev AdY:D->Str
 | .tup (.str z::_)=>z|_=>""
def EB {K:o0}{b A:o3}{H1:Hp}{tc:TT}{te:TE}{tl:L2.St}{Q:VK}{ds:oj D}{vs:oj V}(p:D->Bool)(f:D->D)(ha:H1 b=u_ (.lst vs))(hl:L2.IsL H1 ds vs)(hn:↑ds<=Vg)(hA:H1 A=U_)
  (aa:∀d x H (R:Bool->Hp->Prop),d>ds->ic H1 H->Is H d x->R (p d) H->tc (u_ x::tl) H R)
  (ac:∀d x H (R:VK),d>ds->p d=v_->ic H1 H->Is H d x->(∀y H',ic H H'->Is H' (f d) y->R y H')->te (u_ x::tl) H R)
  (hQ:∀H' ys,ic H1 H'->H' A=u_ (.lst ys)->L2.IsL H' ((ds.filter p).map f) ys->Q (-A) H'):Az A (Itl K b) (YG 0) tc te (U_::tl) H1 Q:=by
 let ln:=↑hl;rw[_,↑ds,λi σ ys H=>(∃w,σ=w::tl)/\L2.IsL H (((ds.take i).filter p).map f) ys/\ic H1 H,hn,[[U_:1]:1:qf hA _],?_,?_]
 .rintro i σ ys H hi ⟨⟨w,rfl⟩,U,sm⟩ Z ae;let ad:i<↑vs:=by omega
  rw[_,(vs,vs[i],SqL.of (sm _ _ ha),ub ad)];rintro x H' ⟨rfl,hx⟩;let e:=hx vs (SqL.of (sm _ _ ha));erw[hl.get (ub hi),v,e1,e2];rw[e,0] at e1;let et:ds.take (i+1)=ds.take i++ [ds[i]]:=by rw[uV,ub hi];rfl
  try dsimp![YG,Gx]
  refine aa ds[i] x H' _ (uN hi) sm (e2.mono sm.tk) ?_;cases hp:p ds[i] with
  |true=>
   refine iY (ac ds[i] x H' _ (uN hi) hp sm (e2.mono sm.tk) λy H2 s2 iy=>(s2 _ _ Z,⟨0⟩,?_,λc o e=>?_))
   .rw[et,V1,uj];have: [ds[i]].filter p= [ds[i]]:=by simp[hp]
    rw[this];let t:Tk H2 (upd H2 A (.lst (ys++ [y]))):=Tk.updL (s2 _ _ Z);exact((U.mono s2.tk).mono t).append (L2.IsL.one (iy.mono t))
   .rw[qk (ql e hA)];exact s2 _ _ (sm _ _ e)
  |false=>
   refine iU (Z,⟨0⟩,?_,sm);rw[et,V1];have: [ds[i]].filter p= []:=by simp[hp]
   rwa[this,vH]
 .rintro σ ys H ⟨_,U,sm⟩ Z;rw[vT] at U;exact[[vs:SqL.of (sm _ _ ha):()]:hQ H ys sm Z U]
def jK (l:oj Str):(l.map V.str).all ZE=true:=by
 rw[US,U4];intro z _
 rfl
def sW {H:Hp}:∀{zs:oj Str}{vs:oj V},L2.IsL H (zs.map D.str) vs->vs=zs.map V.str
 | [],_,h=>h|z::r,_,h=>by
  erw[h,v,us,rfl,[rfl,_],h2];rw[sW h2]
  rfl
def AbD (R:Pp):(R.map stD).map (λd=>D.str (AdY d))=(R.map (·.1)).map D.str:=by
 rw[uO,uO]
 rfl
inductive Lo (CP:Addr):Sp
 |mk (px l:Addr)(zs:List Str)(qs:List (Str×D))(_:vs= [-px,-l])(_:H l=u_ (.lst (zs.map V.str)))(_:∀z>zs,nm z=v_)(_:yn CP H px qs)(_:Q0 qs)(_:∀r us E H',H r=U_->ic H H'->H' r=u_ (.lst us)->L2.IsL H' (E.map stD) us->StR qs E->Q (-r) H')
abbrev Ad2:D->D
 | .tup (k::_)=>k|d=>d
def SF (ps:oj (Str×D)):(ps.map prD).map Ad2=(ps.map (·.1)).map D.str:=by
 rw[uO,uO]
 rfl
def AbB {K:o0}{a A:o3}{H1:Hp}{te:TE}{tl:L2.St}{Q:VK}{ps:oj (Str×D)}{us:oj V}(ha:H1 a=u_ (.lst us))(hl:L2.IsL H1 (ps.map prD) us)(hn:↑ps<=60)(hA:H1 A=U_)
  (U:∀p x H (R:VK),p>ps->ic H1 H->Is H (prD p) x->(∀y H',ic H H'->Is H' (.str p.1) y->R y H')->te (u_ x::tl) H R)
  (hQ:∀H',ic H1 H'->H' A=u_ (.lst ((ps.map (·.1)).map V.str))->Q (-A) H'):Az A (Itl K a) (YG 0) nK te (U_::tl) H1 Q:=by
 let hs:=uB;refine Sk (ds:=ps.map prD) Ad2 ha hl (by rw[u7];omega) hA (λd x H R hd s hx r=>?_) λH' ys s Z hy=>hQ H' s ?_
 .erw[Af.mp hd,p,hp,rfl,<-U p x H R hp s hx r]
 .rw[SF] at hy;rw[<-sW hy];exact Z
def Sl {A b:o3}{H1:Hp}{te:TE}{Q:VK}{R:Pp}{us:oj V}(hb:H1 b=u_ (.lst us))(hl:L2.IsL H1 (R.map stD) us)(hn:↑R<=1000)(hA:H1 A=U_)
  (Z:∀ts ws s H (U:VK),H ts=u_ (.tup (V.str s::ws))->U (!s) H->te [u_ (-ts)] H U)
  (hQ:∀H',ic H1 H'->H' A=u_ (.lst ((R.map (·.1)).map V.str))->Q (-A) H'):Az A (Itl K b) (YG 0) nK te [U_] H1 Q:=by
 refine EB (K:=K) (tl:= []) (λ_=>v_) (λd=>D.str (AdY d)) hb hl (by rw[u7];exact yL hn) hA (λ_ _ _ _ _ _ _ h=>h) (λd x H U hd _ s' ix hR=>?_) λH' ys s' e i=>?_
 .erw[Af.mp hd,s,_,rfl];erw[ix,ts,ws,rfl,aa,w1,r1,rfl,[rfl,hw],_,<-Z ts _ _ H U aa (hR _ H (ic.refl _) [1:hw])]
 .rw[List.filter_eq_self.mpr (λ_ _=>rfl),AbD] at i;have:=sW i;subst this;exact hQ H' s' e
def LX:#[C,17,a.J0,a.xy,["project","names"],(Lo a.qK)]:=by
 let ac:=#[Abl,T,C];let U:=#[LN,T,C];rw[9,T.lc,yu]
 erw[h,px,l,zs,qs,rfl,hl,aB,hP,hq,k];let hs:=uB;rw[3,%[#[qF,(2),yu.nd,#[QE,qd]],#[y7,#[ZD,pv 1],#[qJ,(3),yu.nd],%[|#[y7,#[wq,#[qt,ac,T.so,#v[pv 0,pv 3]]],#[qJ,(4),yu.nd],%[|#[qI,#[qm,8,xg,pv 4,#[Xw,["step"],[],Ni,#[ZD,pv 2],(λ_ _ _ _ _ _=>#[qJ,(0),(show Vu (["step"]:oj Str) by decide+kernel)]),(λ_ _ _ _ _ _=>#[qE,#[Jn,1,K,rfl],pv 0,qh])],#[w]],%[|#[qY,#[YS,uM,vK,vL,Y7,pv 2,#v[#[qV,YD,#[qA,#v[pv 4]],#[qt,U,T.nz,#v[pv 0,pv 4]]]]]]],qp]]]]]|#[qo,pv 2]]]
 rw[8,N1,q1]
 rw[_,uK _,λL hL=>q1 _ _ ?_];let m1:=qf hL (.lst ([]:oj V));let e1:upd H L (.lst []) L=u_ (.lst []):=qg;generalize upd H L (.lst [])=H1 at m1 e1⊢;rw[8,N2,q2]
 rw[0,l,1,[_:SqL.of (m1 _ _ hl)]];let p0:StR qs []:=⟨λs hs=>(by rw[hs,0]),vZ⟩
 refine_lift let J_:Nat->L2.St->Hp->Prop:=λi σ H'=>∃(us:oj V) (R:Pp) (u3 u4:om V),σ= [u_ (-px),u_ (-l),u_ (-L),u3,u4]/\ic H H'/\H' L=u_ (.lst us)/\L2.IsL H' (R.map stD) us/\StR qs R;?_
 refine BS (K:=K) (a:=l) (xs:=zs.map V.str) J_ ([],[],_,0,m1,e1,1,p0) (λi σ H' _ h=>by erw[h,_,_,_,_,_,s',_,<-SqL.of (s' _ _ hl)]) ?_ ?_
 .rintro i x σ H2 hx ⟨us,R,u3,u4,rfl,s2,eL,ag,hR⟩;erw[Af.mp (uW hx),z,hz,rfl]
  rw[0,0,px,z,qs,1,aB z hz,hP.same s2,hq,λt H3 don s3 ht hD aI aJ=>?_]
  rw[_,t,1,[_:SqT.of ht]];let ap:=s3 _ _ eL;let aC:=s2.trans s3;let aq:=ag.mono s3.tk;clear eL ag s3;let aD:t≠L:=λe=>by rw[e,ap,0] at ht
  refine_lift let J2_:Nat->L2.St->Hp->Prop:=λi σ H'=>∃(us:oj V) (u4:om V) (E:Pp),σ= [u_ (-px),u_ (-l),u_ (-L),u_ (!z),u4]/\ic H H'/\H' t=u_ (.tup (don.map λp=>V.str p.1))/\H' L=u_ (.lst us)/\L2.IsL H' (E.map stD) us/\StR qs E;?_
  refine xB (K:=K) (a:=t) (xs:=don.map λp=>V.str p.1) J2_ (us,_,R,1,aC,ht,ap,aq,hR) (λi σ H' _ h=>by erw[h,_,_,_,_,_,e,_,<-SqT.of e]) ?_ ?_
  .rintro i2 x2 σ H4 ad ⟨aa,v4,E,rfl,s4,aE,ae,Z,hE⟩;rw[uH] at ad;obtain⟨p,hp,rfl⟩:∃p,don[i2]? =u_ p/\x2=V.str p.1:=by
    cases hp:don[i2]? with
    |none=>rw[hp,0] at ad|some p=>rw[hp,0] at ad;exact[p:1:1]
   let au:=uW hp;erw[Io hD au,gp,eg,af];let af:p.2=itP qs 302 gp:=af;let lE:=hE.len hq;let aK:↑aa=↑E:=by rw[↑Z,u7]
   let aw:=AbV hq hD (Af.mpr [p:au:1]);let aL:=zG aw
   rw[0,0,L,1,[_:SqL.of ae],λA0 aF=>?_];refine Sl ae Z () aF (λts ws s H' R' aG aH=>(0,ts,_,_,0,1,SqT.of aG,qy (j:=0) rfl,aH)) λH5 s5 eA=>?_
   rw[_,A0,0,.inl (SqL.of eA),1,jK _,0];let ax:inV (V.str p.1) ((E.map (·.1)).map V.str)=decide (p.1>E.map (·.1)):=Jw _ _;let al:=s5 _ _ ae;let ak:=Z.mono s5.tk;let am:=s4.trans s5;let ay:=s5 _ _ aE;by_cases ao:p.1>E.map (·.1)
   .refine iI (by rw[A6 rfl,ax,u8 ao];rfl) (aa,_,E,1,am,ay,al,ak,hE)
   .refine iO (by rw[A6 rfl,ax,ud ao];rfl) ?_
    rw[0,.inl [1:_:SqL.of al],0,sml rfl,λt6 h6=>?_];let m6:=qf h6 (-[V.str p.1]);let i6:Is (upd H5 t6 (-[V.str p.1])) (-[.str p.1]) (-t6):=Is.new (ds:= [.str p.1]) (_,0,Qi (),1) h6
    generalize upd H5 t6 (-[V.str p.1])=H6 at m6 i6⊢
    rw[0,0,px,p.1,qs,gp,1,aw,(hP.same am).same m6,hq,eg,λv H7 s7 _ _ iv=>?_];rw[Mr,MB] at iv;refine Jy (xs:= [.str p.1]) (ys:= [.tup (Yy (itP qs 302 gp)),Mt (itP qs 302 gp)]) (i6.mono s7.tk) iv (by show 1+2<=1000;decide) λv8 H8 s8 i8=>?_
    let ah:=(m6.trans s7).trans s8;let aA:=ah _ _ al
    rw[_,L,aa,0,1,aA,()]
    let tk:Tk H8 (upd H8 L (.lst (aa++ [v8]))):=Tk.updL aA
    rw[_,aa++ [v8],_,E++ [(p.1,Yy p.2,Mt p.2)],1,λb ob e=>?_,?_,qg,?_,λs hs=>?_,?_]
    .rw[qk (ql e hL)];exact ah _ _ (am _ _ e)
    .rw[qk aD];exact ah _ _ ay
    .rw[uj];refine((ak.mono ah.tk).mono tk).append (L2.IsL.one ?_);show Is _ (stD (p.1,Yy p.2,Mt p.2)) v8;rw[af];exact i8.mono tk
    .rcases Ae.mp hs with hs|hs
     .exact hE.1 s hs
     .rw[Ac.mp hs,0];exact(gp,eg,by rw[af],by rw[af])
    .rw[uj,Fm]
     rw[_,hE.2,by simp,λy hy b hb e=>?_]
     rw[Ac.mp hb,0];rw[e] at hy;exact ao hy
  .rintro σ H4 ⟨aa,v4,E,rfl,s4,_,ae,Z,hE⟩;exact(aa,E,_,0,s4,ae,Z,hE)
 .rintro σ H2 ⟨us,R,u3,u4,rfl,s2,eL,ag,hR⟩;exact q2 _ _ [0:k L us R H2 hL s2 eL ag hR]
end
variable {K:o0}{H:Hp}{as:oj D}{Q:VK}{n:Nat}
def slt {ta:o3}{us:oj V}(h:H ta=u_ (¬us))(U:L2.IsL H as us)(hn:n<=↑us)(k:∀v H',ic H H'->Is H' (.tup (as.take n)) v->Q v H'):Acs K (-ta) U_ (u_ (n:Int)) H Q:=by
 rw[_,ta,us,1,SqT.of h,λhw=>k _ H (ic.refl _) ?_,λ_ p Z=>?_]
 .have:=hw.2;rw[HT.sIx_nat] at this;rw[vg (by rw[<-↑U];omega)]
  exact(ta,us,1,h,U)
 .rw[Ix hn];exact k _ _ (qf Z _) (Is.new (U.take n) Z)
def sld {ta:o3}{us:oj V}(h:H ta=u_ (¬us))(U:L2.IsL H as us)(hn:n<=↑us)(k:∀v H',ic H H'->Is H' (.tup (as.drop n)) v->Q v H'):Acs K (-ta) (u_ (n:Int)) U_ H Q:=by
 rw[_,ta,us,1,SqT.of h,λhw=>k _ H (ic.refl _) ?_,λ_ p Z=>?_]
 .have:=hw.1;rw[HT.sIx_nat] at this;let h0:n=0\/↑us=0:=by omega
  have:as.drop n=as:=by
   rcases h0 with h0|h0
   .rw[h0];rfl
   .rw[vI (U.length.symm.trans h0)];exact List.drop_nil
  rw[this];exact(ta,us,1,h,U)
 .rw[J6 hn];exact k _ _ (qf Z _) (Is.new (U.drop n) Z)
abbrev TR9:oj D:= [-"",-"x",-[],-[-"x"],.non,-"yes",-[-"a"],-"b1",-"no"]
def Aat:∀d>TR9,d= .non\/isT d=true:=by
 intro d hd;simp![TR9,uF,uI,uR] at hd;rcases hd with rfl|rfl|rfl|rfl|rfl|rfl|rfl|rfl|rfl
 all_goals first|exact .inl rfl|exact .inr ()
abbrev WB2:oj Str:= ["A b",""]
def wb2:∀z>WB2,↑z<=10:=by decide+kernel
abbrev KD5:oj Str:= ["thing","rule","has","names","Thing"]
abbrev FW5:oj Str:= ["told","kind","lack","rule","long"]
def kd5:∀z>KD5,↑z<=10:=by decide+kernel
def fw5:∀z>FW5,↑z<=10:=by decide+kernel
section
variable {as:oj D}{k j:Nat}{x:D}
def l1m (h:↑as<=450):↑(as.take k)+ [x].length<=1000:=by
 have:=rL k as;show _+1<=1000;omega
def l2m (h:↑as<=450):↑(as.take k++ [x])+↑(as.drop j)<=1000:=by
 have:=rL k as;rw[uw,vh];show _+1+_<=1000;omega
def l3m (h:k<=j):↑(as.take k++ [x]++as.drop j)<=↑as+1:=by
 rw[uw,uw,uQ,vh];show _+1+_<=_;omega
end
inductive Dl:Sp
 |mk (v:V)(p nl:Addr)(zs:List Str)(s:Str×List D×D)(n:Nat)(_:vs= [v,-p,-nl])(_:Is H (stD s) v)(_:ShS n s)(_:mn H p)(_:H nl=u_ (.lst (zs.map V.str)))(_:∀z>zs,↑z<=24)(_:↑zs<=20)(_:n<=10)(_:∀v' s' H',iK p H H'->mn H' p->Is H' (stD s') v'->ShS (n+1) s'->Q v' H')
variable {z:Str}
def C5.mk' {an:D}(h:↑z<=1000)(ha:an= .non\/isT an=v_):C5 (-[-[!kd,!z],an]):=(kd,z,an,1,h,ha)
def mK.mk' {k:Str}{x:D}(h:nD x=v_)(hd:dp x<=40)(U:k="stuck"->∃z:Str,x= !z):mK (-[!k,x]):=(k,x,1,h,hd,U)
def qaR {U:oj D}{en:D}(h:ShS n (m,as,en))(ha:∀x>U,C5 x)(Z:↑U<=↑as+1):ShS (n+1) (m,U,en):=(h.nl,ha,by have:↑as<=400+n:=h.few;show ↑U<=_;omega,h.en)
def MP {en U:D}(h:ShS n (m,as,en))(Z:mK U):ShS (n+1) (m,as,U):=(h.nl,h.an,by have:↑as<=400+n:=h.few;show ↑as<=_;omega,Z)
section
variable {P:o9}{w:og}{K:o0}{mg:Str->om o6}{base:o8}{a:Ad}{g:Ga}
def D3:#[T,2,a.jX,a.jV,["step","pot","names"],Dl]:=by
 let qL:=#[Jr,T];refine T.lN.F.ok qX () (λ_ A _ _ H vs Q E hr h=>?_)
 erw[h,v,p,nl,zs,[m,as,en],n,rfl,iv,ac,hP,a3,bF,cb,b7,k];let hs:=uB;let b9:↑as<=400+n:=ac.few;rw[3,%[#[ZN,pv 0,#[JA,qT #[qJ,(3),qX.nd] (qT #[qJ,(4),qX.nd] (qT #[qJ,(5),qX.nd] yW))]],#[qF,(6),qX.nd,#[qt,qL,T.ig,#v[pv 1,qh]]],#[qF,(7),qX.nd,#[qt,qL,T.ig,#v[pv 1,#[qV,Q1,#[qz,qG,T.QZ,uJ,#v[pv 4]],qh]]]],#[qF,(8),qX.nd,#[qE,QP,#[QE,#v[qi,qi,#[qA,qd],#[qA,#v[qi]],qR,qi,#[qA,#v[qi]],qi,qi]],#[qt,qL,T.ig,#v[pv 1,qh]]]],#[qF,(9),qX.nd,#[qE,QP,#[qV,wN,pv 2,#[QE,#v[qi,qi]]],#[qt,qL,T.ig,#v[pv 1,#[qV,Q1,#[qz,qG,T.QZ,uJ,#v[pv 2]],qh]]]]],#[qF,(10),qX.nd,#[qA,#v[#[qE,QP,#[QE,#v[qi,qi,qi,qi,qi]],#[qt,qL,T.ig,#v[pv 1,qh]]],pv 9]]],#[qI,#[qm,Qd,pv 6,qh],%[|#[qo,#[qA,#v[pv 9,pv 4,pv 5]]]],qp],@qI _ _ _ _ _ _ _ _ #[JR,#[qm,Qd,pv 6,qh],#[Y3,#[qm,qaJ,pv 7,#[qz,qG,T.QZ,uJ,#v[pv 4]]]]].pt %[|#[qo,#[qA,#v[pv 3,#[qV,YD,#[qV,YD,#[QK,Yj,pv 4,yi,#[yf,pv 7]],#[qA,#v[#[qA,#v[#[qE,qB,#[qE,qB,pv 4,pv 7],qh],pv 8]]]]],#[QK,Yj,pv 4,#[yf,#[qV,Q1,pv 7,qh]],yi]],pv 5]]]] qp,@qI _ _ _ _ _ _ _ _ #[JR,#[qm,Qd,pv 6,qh],#[Y3,#[qm,qaJ,pv 7,#[qz,qG,T.QZ,uJ,#v[pv 4]]]]].pt %[|#[qo,#[qA,#v[pv 3,#[qV,YD,#[qV,YD,#[QK,Yj,pv 4,yi,#[yf,pv 7]],#[qA,#v[#[qA,#v[pv 10,#[qE,qB,#[qE,qB,pv 4,pv 7],qh]]]]]],#[QK,Yj,pv 4,#[yf,#[qV,Q1,pv 7,qh]],yi]],pv 5]]]] qp,@qI _ _ _ _ _ _ _ _ #[JR,#[qm,Qd,pv 6,qh],#[Y3,#[qm,qaJ,pv 7,#[qz,qG,T.QZ,uJ,#v[pv 4]]]]].pt %[|#[qo,#[qA,#v[pv 3,#[qV,YD,#[QK,Yj,pv 4,yi,#[yf,pv 7]],#[QK,Yj,pv 4,#[yf,#[qV,Q1,pv 7,qh]],yi]],pv 5]]]] qp,#[qI,#[qm,Qd,pv 6,qh],%[|#[qo,#[qA,#v[pv 3,#[qV,YD,#[qV,YD,#[QK,Yj,pv 4,yi,#[yf,pv 7]],#[qA,#v[#[qA,#v[pv 10,pv 8]]]]],#[QK,Yj,pv 4,#[yf,pv 7],yi]],pv 5]]]],qp],@qI _ _ _ _ _ _ _ _ #[JR,#[qm,Qd,pv 6,qh],#[Y3,#[qm,Zq,pv 8,qR]]].pt %[|#[qo,#[qA,#v[pv 3,pv 4,#[qA,#v[qi,pv 8]]]]]] qp,#[qI,#[qm,Qd,pv 6,qh],%[|#[qo,#[qA,#v[pv 3,pv 4,#[qA,#v[qi,#[qE,QP,#[QE,#v[qi,qi,qi,qi,qi]],#[qt,qL,T.ig,#v[pv 1,qh]]]]]]]]],qp],@qI _ _ _ _ _ _ _ _ #[jI,#[qm,Qd,pv 6,qh],#[Yu,#[qm,Qd,pv 7,#[qz,qG,T.QZ,uJ,#v[pv 4]]]]].pt %[|#[qo,#[qA,#v[pv 3,#[QK,Yj,pv 4,yi,#[yf,pv 7]],#[qA,#v[qi,pv 9]]]]]] qp|#[qo,#[qA,#v[pv 3,#[QK,Yj,pv 4,yi,#[yf,pv 7]],#[qE,QP,#[QE,#v[#[qA,#v[qi,#[qE,qB,#[qE,qB,pv 4,pv 7],qh]]],#[qA,#v[qi,#[qE,qB,#[qE,qB,#[qE,qB,pv 4,pv 7],qh],qh]]]]],#[qt,qL,T.ig,#v[pv 1,qh]]]]]]]]
 rw[8,N1,q1];erw[id iv,ts,cc,rfl,bG,v1,r1,rfl,[rfl,cd],v2,r2,rfl,i2,ev,r3,rfl,i3,bH];rw[show r3= [] from bH,0]
 erw[id i2,ta,us,rfl,aG,aH];let aH:L2.IsL H as us:=aH;let ce:↑us=↑as:=↑aH;let ae:↑m<=1000:=ac.nl
 rw[0,ts,0,SqT.of bG,1,_,0,_,0,_,0,1,q1 _ _ ?_];rw[8,N2,q2]
 rw[0,p,(9),1,hP,(),(),λkd H1 a1 b1 P1 K1=>q2 _ _ ?_]
 rw[8,N3,q3];let cg:=hP.tk P1 K1;let a5:∀{b:o3}{xs:oj V},H b=u_ (¬xs)->b≠p:=λ{b xs} e z=>by erw[hP,x,hx,_];rw[z,hx,0] at e
 let a7:=K1 _ _ aG (a5 aG)
 rw[0,0,ta,us,1,.inr (SqT.of a7),_,0,1,p,(↑us:Int)+1,1,P1,(),(),λkI H2 a2 b2 P2 K2=>q3 _ _ ?_]
 obtain⟨kk,rfl,ao⟩:∃kk:Nat,kI=(kk:Int)/\kk<=↑us:=[kI.toNat:():()]
 let bI:=K1.trans K2;rw[8,N4,q4]
 rw[_,uK _,λt0 h0=>[sml rfl:λt1 h1=>[sml rfl:λt2 h2=>[sml rfl:λl hl=>?_]]]];let m0:=qf h0 (.tup ([]:oj V));let m1:=qf h1 (-[V.str "x"]);let m2:=qf h2 (-[V.str "a"]);let j0:Is _ (-[]) (-t0):=Is.new (ds:= []) (vs:= []) rfl h0;let j1:Is _ (-[-"x"]) (-t1):=Is.new (ds:= [-"x"]) (vs:= [-"x"]) (_,0,Qi (),1) h1
 let j2:Is _ (-[-"a"]) (-t2):=Is.new (ds:= [-"a"]) (vs:= [-"a"]) (_,0,Qi (),1) h2
 let i9:L2.IsL _ TR9 [V.str "",-"x",-t0,-t1,.non,-"yes",-t2,-"b1",-"no"]:=(_,0,Qi (),_,0,Qi (),_,0,(j0.mono m1.tk).mono m2.tk,_,0,j1.mono m2.tk,_,0,1,_,0,Qi (),_,0,j2,_,0,Qi (),_,0,Qi (),1)
 generalize ([V.str "",-"x",-t0,-t1,.non,-"yes",-t2,-"b1",-"no"]:oj V)=L9 at hl i9⊢;let m3:=qf hl (.lst L9);let e3:∀{H0:Hp},upd H0 l (.lst L9) l=u_ (.lst L9):=qg;let aI:=((m0.trans m1).trans m2).trans m3;let au:=i9.mono m3.tk;let e4:upd (upd (upd (upd H2 t0 (-[])) t1 (-[V.str "x"])) t2 (-[V.str "a"])) l (.lst L9) l=u_ (.lst L9):=qg;generalize upd (upd (upd (upd H2 t0 (-[])) t1 (-[V.str "x"])) t2 (-[V.str "a"])) l (.lst L9)=H3 at aI au e4⊢;let P3:=P2.same aI;let a9:=bI.trans (iK.of aI);clear m0 m1 m2 m3 j0 j1 j2 i9 e3 h0 h1 h2 hl;let bb:l≠p:=λz=>by
  erw[P3,x,hx,_];rw[z,hx] at e4;have:=↑au;injection e4 with e4
  injection e4 with e4
  rw[<-e4,0] at this
 rw[0,p,(9),1,P3,(),(),λc9 H4 a4 b4 P4 K4=>?_]
 let l9:↑L9=9:=↑au;erw[Yn (xs:=L9) (i:=c9) a4 (),tv,aS]
 rw[_,l,_,_,0,1,SqL.of (K4 _ _ e4 bb),aS,q4 _ _ ?_];obtain⟨td,bc,bd⟩:∃td,td>TR9/\Is H3 td tv:=by
  erw[List.mem_iff_getElem?.mp (jG aS),j,hj];let bf:j<↑TR9:=by rw[<-↑au];exact(Ag.mp hj).1
  erw[au.get (ub bf),v',e,i];rw[hj,0] at e;exact[_:uN bf:i]
 let aT:=Aat td bc;let aP:=bd.mono (P3.tk P4 K4);let aU:=a9.trans K4;clear au e4 aS bc bd aI K4 P3 a9 l9;rw[8,N5,q5];let ay:=aU _ _ a3 (hP.ne_strs a3)
 rw[0,(sml rfl),λl2 bJ=>?_];let m5:=qf bJ (.lst [V.str "A b",V.str ""])
 rw[_,nl,l2,_,0,1,m5 _ _ ay,qg,(by rw[u7];show _+2<=Vg;omega),λl3 bK=>?_]
 let aw:=m5.trans (qf bK (.lst (zs.map V.str++ [V.str "A b",V.str ""])));let e5:(upd (upd H4 l2 (.lst [V.str "A b",V.str ""])) l3 (.lst (zs.map V.str++ [V.str "A b",V.str ""]))) l3=u_ (.lst ((zs++WB2).map V.str)):=by rw[qg,uj];rfl
 generalize upd (upd H4 l2 (.lst [V.str "A b",V.str ""])) l3 (.lst (zs.map V.str++ [V.str "A b",V.str ""]))=H5 at aw e5⊢;let P5:=P4.same aw;let aQ:=aw _ _ ay;let l5:↑((zs++WB2).map V.str)=↑zs+2:=by rw[u7,uw];rfl
 rw[5]
 refine(0,0,nl,0,.inl (SqL.of aQ),_,0,1,p,(↑(zs.map V.str):Int)+2,1,P5,(),by rw[u7];omega,λcw H6 a6 b6 P6 K6=>?_)
 rw[u7] at b6;obtain⟨wv,aV⟩:=Yn (xs:=(zs++WB2).map V.str) (i:=cw) a6 (by rw[l5];omega)
 erw[Af.mp (jG aV),wd,bg,rfl];let ch:↑wd<=24:=by
  rcases Ae.mp bg with h|h
  .exact bF wd h
  .have:=wb2 wd h;omega
 rw[_,l3,_,_,0,1,SqL.of (K6 _ _ e5 (P5.ne_strs e5)),aV,q5 _ _ ?_];let bh:=(aU.trans (iK.of aw)).trans K6;let aR:=(aP.mono aw.tk).mono (P5.tk P6 K6);clear e5 aQ ay m5 aV bg aw aU aP l5 P5 K6;rw[8,N6,q6]
 rw[_,sml rfl,λl4 bL=>?_];let m7:=qf bL (.lst (KD5.map V.str));let e7:upd H6 l4 (.lst (KD5.map V.str)) l4=u_ (.lst (KD5.map V.str)):=qg;let P7:=P6.same m7
 rw[0,p,(5),1,P7,(),(),λck H8 a8 b8 P8 K8=>?_]
 erw[Yn (xs:=KD5.map V.str) (i:=ck) a8 b8,kv,aW];erw[Af.mp (jG aW),kw,bo,rfl];let bM:=kd5 kw bo
 rw[_,l4,_,_,0,1,SqL.of (K8 _ _ e7 (P7.ne_strs e7)),aW,0,sml rfl,λtq bp=>q6 _ _ ?_];let m9:=qf bp (-[V.str kw,V.str wd]);let iq:Is (upd H8 tq (-[V.str kw,V.str wd])) (-[!kw,!wd]) (-tq):=Is.new (ds:= [!kw,!wd]) (_,0,Qi (),_,0,Qi (),1) bp
 let aq:=((aR.mono m7.tk).mono (P7.tk P8 K8)).mono m9.tk;let P9:=P8.same m9;let aJ:=((bh.trans (iK.of m7)).trans K8).trans (iK.of m9);generalize upd H8 tq (-[V.str kw,V.str wd])=H9 at m9 iq aq P9 aJ⊢;clear m7 e7 m9 aW bo aR bh K8 P7 P8 P6;let U:=aJ _ _ aG (a5 aG);let bq:=hP.tk P9 aJ;let aa:=aH.mono bq;let ak:=i3.mono bq;let fin:∀(mv:Str) (aA:oj D) (aD:D) (av aK:V) (H':Hp),iK p H9 H'->mn H' p->↑mv<=1000->Is H' (¬aA) av->Is H' aD aK->ShS (n+1) (mv,aA,aD)-> [V.str mv,av,aK].length<=Vg/\∀t,H' t=U_->Q (-t) (upd H' t (-[V.str mv,av,aK])):=λmv aA aD av aK H' K' P' hl ia ie bN=>[sml rfl:λt ht=>k _ (mv,aA,aD) _ ((aJ.trans K').trans (iK.of (qf ht _))) (P'.same (qf ht _)) (Is.new (ds:= [!mv,¬aA,aD]) (_,0,Qi (),_,0,ia,_,0,ie,1) ht) bN]
 let aE:kk<↑us->∃(u z:Str) (an:D) (t6 t7:o3) (v8:V),as[kk]? =u_ (-[-[!u,!z],an])/\us[kk]? =u_ (-t6)/\H9 t6=u_ (-[-t7,v8])/\H9 t7=u_ (-[!u,!z])/\Is H9 (-[!u,!z]) (-t7)/\Is H9 an v8/\↑z<=1000/\(an= .non\/isT an=v_):=λhk=>by
  let aL:kk<↑as:=by omega
  erw[aa.get (i:=kk) (d:=as[kk]) (ub aL),x,hx,ix];erw[ac.an _ (uN aL),u,z,an,e,hz,ha];rw[e] at ix;erw[ix,t6,w6,rfl,al,x7,r7,rfl,i7,x8,r8,rfl,i8,bO];rw[show r8= [] from bO,0]
  erw[id i7,t7,w7,rfl,aF,x9,r9,rfl,[rfl,bM],xa,ra,rfl,[rfl,ca],bP];rw[show ra= [] from bP,0]
  exact(u,z,an,t6,t7,x8,by rw[ub aL,e],hx,al,aF,i7,i8,hz,ha)
 let mem:∀{x:D}{i:Nat}{ys aX:oj D},(∀y>ys,C5 y)->(∀y>aX,y>as)->x>as.take i++ys++aX->C5 x:=λ{x i ys aX} hy hz hx=>by
  rcases Ae.mp hx with hx|hx
  .rcases Ae.mp hx with hx|hx
   .exact ac.an x (vj hx)
   .exact hy x hx
  .exact ac.an x (hz x hx)
 let ah:↑as<=450:=by omega
 let bt:Is H9 (-[!kw,!wd]) (-tq):=iq;let aY:Is H9 (¬as) (-ta):=(ta,us,1,U,aa);let aL:kk<=↑as:=by omega
 rw[8,N7,q7]
 rw[0,1,0,ky (λ_=>?_) (λ_=>q7 _ _ ?_)]
 .exact(0,0,0,fin wd as en _ _ H9 (iK.of (ic.refl _)) P9 () aY ak (by show ↑wd<=1000;omega,ac.an,by show ↑as<=_;omega,ac.en))
 rw[8,N8,q8]
 suffices hN:N8 [u_ (-ts),u_ (-p),u_ (-nl),u_ (!m),u_ (-ta),u_ ev,u_ (.int kd),u_ (.int (kk:Int)),u_ tv,u_ (!wd),u_ (-tq)] H9 by
  rw[0,1,0,ky (λ_=>?_) (λ_=>hN)]
  rw[0,0,ta,us,1,.inr (SqT.of U),_,0,1,0,ky (λam=>?_) (λ_=>hN)];let am:kk<↑us:=by
   have:(kk:Int)<(↑us:Int):=ui am;omega
  erw[aE (),u,z,an,t6,t7,v8,bu,ax,al,aF,i7,i8,hz,ha]
  rw[0,0,0,0,slt U aa ao λvA HA sA iA=>?_]
  rw[0,0,ta,_,_,0,1,SqT.of (sA _ _ U),qy ax,t6,_,_,0,1,SqT.of (sA _ _ al),qy (j:=0) rfl,0,sml rfl,λtx Z=>[sml rfl:λty af=>?_]];let n1:=qf Z (-[-t7,tv]);let j1:Is _ (-[-[!u,!z],td]) (-tx):=Is.new (ds:= [-[!u,!z],td]) (_,0,i7.mono sA.tk,_,0,aq.mono sA.tk,1) Z;let n2:=qf af (-[V.ref tx]);let j2:Is _ (-[-[-[!u,!z],td]]) (-ty):=Is.new (ds:= [-[-[!u,!z],td]]) (_,0,j1,1) af;refine Jy ((iA.mono n1.tk).mono n2.tk) j2 (l1m ah) λvB HB sB iB=>?_;let ag:=((sA.trans n1).trans n2).trans sB
  rw[0,0,_,0,1,0,sld (n:=kk+1) (ag _ _ U) (aa.mono ag.tk) () λvC HC sC iC=>?_]
  refine Jy (iB.mono sC.tk) iC (l2m ah) λvD ap sD iD=>?_;let ad:=(ag.trans sC).trans sD;exact⟨0,fin m _ en _ _ ap (iK.of ad) (P9.same ad) ae iD (ak.mono ad.tk) (qaR ac (λx hx=>mem (λy hy=>by rw[Ac.mp hy,0];exact C5.mk' hz aT) (λy hy=>vF hy) hx) (l3m ()))⟩
 refine q8 _ _ ?_;rw[8,N9,q9]
 suffices hN:N9 [u_ (-ts),u_ (-p),u_ (-nl),u_ (!m),u_ (-ta),u_ ev,u_ (.int kd),u_ (.int (kk:Int)),u_ tv,u_ (!wd),u_ (-tq)] H9 by
  rw[0,1,0,ky (λ_=>?_) (λ_=>hN)]
  rw[0,0,ta,us,1,.inr (SqT.of U),_,0,1,0,ky (λam=>?_) (λ_=>hN)];let am:kk<↑us:=by
   have:(kk:Int)<(↑us:Int):=ui am;omega
  erw[aE (),u,z,an,t6,t7,v8,bu,ax,al,aF,i7,i8,hz,ha]
  rw[0,0,0,0,slt U aa ao λvA HA sA iA=>?_]
  rw[0,0,0,ta,_,_,0,1,SqT.of (sA _ _ U),qy ax,t6,_,_,0,1,SqT.of (sA _ _ al),qy (j:=1) rfl,sml rfl,λtx Z=>[sml rfl:λty af=>?_]];let n1:=qf Z (-[-tq,v8]);let j1:Is _ (-[-[!kw,!wd],an]) (-tx):=Is.new (ds:= [-[!kw,!wd],an]) (_,0,bt.mono sA.tk,_,0,i8.mono sA.tk,1) Z;let n2:=qf af (-[V.ref tx]);let j2:Is _ (-[-[-[!kw,!wd],an]]) (-ty):=Is.new (ds:= [-[-[!kw,!wd],an]]) (_,0,j1,1) af;refine Jy ((iA.mono n1.tk).mono n2.tk) j2 (l1m ah) λvB HB sB iB=>?_;let ag:=((sA.trans n1).trans n2).trans sB
  rw[0,0,_,0,1,0,sld (n:=kk+1) (ag _ _ U) (aa.mono ag.tk) () λvC HC sC iC=>?_]
  refine Jy (iB.mono sC.tk) iC (l2m ah) λvD ap sD iD=>?_;let ad:=(ag.trans sC).trans sD;exact⟨0,fin m _ en _ _ ap (iK.of ad) (P9.same ad) ae iD (ak.mono ad.tk) (qaR ac (λx hx=>mem (λy hy=>by rw[Ac.mp hy,0];exact C5.mk' () ha) (λy hy=>vF hy) hx) (l3m ()))⟩
 refine q9 _ _ ?_;rw[8,bQ,bR]
 suffices hN:bQ [u_ (-ts),u_ (-p),u_ (-nl),u_ (!m),u_ (-ta),u_ ev,u_ (.int kd),u_ (.int (kk:Int)),u_ tv,u_ (!wd),u_ (-tq)] H9 by
  rw[0,1,0,ky (λ_=>?_) (λ_=>hN)]
  rw[0,0,ta,us,1,.inr (SqT.of U),_,0,1,0,ky (λam=>?_) (λ_=>hN)];let am:kk<↑us:=by
   have:(kk:Int)<(↑us:Int):=ui am;omega
  rw[0,0,0,0,slt U aa ao λvA HA sA iA=>?_]
  rw[0,0,_,0,1,0,sld (n:=kk+1) (sA _ _ U) (aa.mono sA.tk) () λvC HC sC iC=>?_]
  refine Jy (iA.mono sC.tk) iC (by rw[uQ,vh];omega) λvD ap sD iD=>?_
  let ad:=(sA.trans sC).trans sD;exact⟨0,fin m _ en _ _ ap (iK.of ad) (P9.same ad) ae iD (ak.mono ad.tk) (qaR ac (λx hx=>ac.an x (by
   rcases Ae.mp hx with hx|hx
   .exact vj hx
   .exact vF hx)) (by rw[uw,uQ,vh];omega))⟩
 refine bR _ _ ?_;rw[8,ci,bS]
 rw[0,1,0,ky (λ_=>?_) (λ_=>bS _ _ ?_)]
 .rw[0,0,0,0,slt U aa ao λvA HA sA iA=>?_]
  rw[0,0,sml rfl,λtx Z=>[sml rfl:λty af=>?_]];let n1:=qf Z (-[-tq,tv]);let j1:Is _ (-[-[!kw,!wd],td]) (-tx):=Is.new (ds:= [-[!kw,!wd],td]) (_,0,bt.mono sA.tk,_,0,aq.mono sA.tk,1) Z;let n2:=qf af (-[V.ref tx]);let j2:Is _ (-[-[-[!kw,!wd],td]]) (-ty):=Is.new (ds:= [-[-[!kw,!wd],td]]) (_,0,j1,1) af;refine Jy ((iA.mono n1.tk).mono n2.tk) j2 (l1m ah) λvB HB sB iB=>?_;let ag:=((sA.trans n1).trans n2).trans sB
  rw[0,0,0,sld (n:=kk) (ag _ _ U) (aa.mono ag.tk) () λvC HC sC iC=>?_]
  refine Jy (iB.mono sC.tk) iC (l2m ah) λvD ap sD iD=>?_;let ad:=(ag.trans sC).trans sD;exact⟨0,fin m _ en _ _ ap (iK.of ad) (P9.same ad) ae iD (ak.mono ad.tk) (qaR ac (λx hx=>mem (λy hy=>by rw[Ac.mp hy,0];exact C5.mk' () aT) (λy hy=>vF hy) hx) (l3m ()))⟩
 rw[8,bT,bU];let bV:=Cr aT
 suffices hN:bT [u_ (-ts),u_ (-p),u_ (-nl),u_ (!m),u_ (-ta),u_ ev,u_ (.int kd),u_ (.int (kk:Int)),u_ tv,u_ (!wd),u_ (-tq)] H9 by
  rw[0,1,0,ky (λ_=>?_) (λ_=>hN)]
  rw[0,1,0];by_cases c:tv= .non
  .exact iI (by simp[c]) hN
  .refine iO (by simpa using c) ?_
   rw[0,0,0,sml rfl,λtx Z=>?_];let n1:=qf Z (-[V.str "said",tv]);let j1:Is _ (-[-"said",td]) (-tx):=Is.new (ds:= [-"said",td]) (_,0,Qi (),_,0,aq,1) Z
   exact fin m as _ _ _ _ (iK.of n1) (P9.same n1) ae (aY.mono n1.tk) j1 (MP ac (mK.mk' (OH bV.1) () λq=>A8 q ()))
 refine bU _ _ ?_;rw[8,cj,bW]
 rw[0,1,0,ky (λ_=>?_) (λ_=>bW _ _ ?_)]
 .rw[0,0,sml rfl,λl5 bX=>?_];let n1:=qf bX (.lst (FW5.map V.str));let e1:upd H9 l5 (.lst (FW5.map V.str)) l5=u_ (.lst (FW5.map V.str)):=qg;let PA:=P9.same n1
  rw[0,p,(5),1,PA,(),(),λcf HB aB bB PB KB=>?_]
  erw[Yn (xs:=FW5.map V.str) (i:=cf) aB bB,fv,bv];erw[Af.mp (jG bv),fw,bY,rfl];let cm:=fw5 fw bY
  rw[_,l5,_,_,0,1,SqL.of (KB _ _ e1 (PA.ne_strs e1)),bv,sml rfl,λtx Z=>?_];let n2:=qf Z (-[V.str "fault",V.str fw]);let j1:Is _ (-[-"fault",!fw]) (-tx):=Is.new (ds:= [-"fault",!fw]) (_,0,Qi (),_,0,Qi (),1) Z
  let KA:=((iK.of n1).trans KB).trans (iK.of n2);let PC:=PB.same n2;exact fin m as _ _ _ _ KA PC ae (aY.mono (P9.tk PC KA)) j1 (MP ac (mK.mk' rfl (by simp[dp]) λq=>A8 q ()))
 rw[8,cn,bZ];let stk:(∀(t:o3) (H':Hp),iK p H9 H'->mn H' p->Is H' (-[-"stuck",!wd]) (-t)->∀vA,Is H' (.tup (as.take kk)) vA-> [V.str m,vA,V.ref t].length<=Vg/\∀t',H' t'=U_->Q (-t') (upd H' t' (-[V.str m,vA,V.ref t]))):=λt H' K' P' it vA iA=>fin m _ _ _ _ H' K' P' ae iA it (ae,λx hx=>ac.an x (vj hx),by show(as.take kk).length<=_;rw[uQ];omega,mK.mk' rfl (by simp[dp]) λ_=>[wd:1])
 rw[0,1,0,ky (λ_=>?_) (λ_=>?_)]
 .rw[0,0,0,0,slt U aa ao λvA HA sA iA=>?_]
  rw[0,sml rfl,λtx Z=>?_];let n1:=qf Z (-[V.str "stuck",V.str wd]);let j1:Is _ (-[-"stuck",!wd]) (-tx):=Is.new (ds:= [-"stuck",!wd]) (_,0,Qi (),_,0,Qi (),1) Z
  exact stk tx _ ((iK.of sA).trans (iK.of n1)) ((P9.same sA).same n1) j1 vA (iA.mono n1.tk)
 rw[0,0,ta,us,1,.inr (SqT.of U),1,0];by_cases c8:kk=↑us
 .refine iO (u8 (by rw[c8])) ?_
  rw[0,0,0,0,slt U aa ao λvA HA sA iA=>?_]
  rw[0,sml rfl,λtx Z=>?_];let n1:=qf Z (-[V.str "stuck",V.str wd]);let j1:Is _ (-[-"stuck",!wd]) (-tx):=Is.new (ds:= [-"stuck",!wd]) (_,0,Qi (),_,0,Qi (),1) Z
  exact stk tx _ ((iK.of sA).trans (iK.of n1)) ((P9.same sA).same n1) j1 vA (iA.mono n1.tk)
 refine iI (ud λq=>c8 (by injection q with q;omega)) (bZ _ _ ?_)
 erw[aE (),u,z,an,t6,t7,v8,bu,ax,al,aF,i7,i8,hz,ha]
 rw[0,0,0,0,slt U aa ao λvA HA sA iA=>?_]
 rw[0,0,ta,_,_,0,1,SqT.of (sA _ _ U),qy ax,t6,_,_,0,1,SqT.of (sA _ _ al),qy (j:=0) rfl,sml rfl,λtx Z=>?_];let n1:=qf Z (-[V.str "asks",-t7]);let j1:Is _ (-[-"asks",-[!u,!z]]) (-tx):=Is.new (ds:= [-"asks",-[!u,!z]]) (_,0,Qi (),_,0,i7.mono sA.tk,1) Z
 let aM:=sA.trans n1
 rw[0,0,ta,_,_,0,1,SqT.of (aM _ _ U),qy ax,t6,_,_,0,1,SqT.of (aM _ _ al),qy (j:=0) rfl,t7,_,_,0,1,SqT.of (aM _ _ aF),qy (j:=1) rfl,sml rfl,λty af=>[sml rfl:λl6 b3=>?_]];let n2:=qf af (-[V.str "stuck",V.str z]);let j2:Is _ (-[-"stuck",!z]) (-ty):=Is.new (ds:= [-"stuck",!z]) (_,0,Qi (),_,0,Qi (),1) af
 let n3:=qf b3 (.lst [V.ref tx,V.ref ty]);let e6:upd (upd (upd HA tx (-[V.str "asks",-t7])) ty (-[V.str "stuck",V.str z])) l6 (.lst [V.ref tx,V.ref ty]) l6=u_ (.lst [V.ref tx,V.ref ty]):=qg;let aN:=(aM.trans n2).trans n3;let bw:=(j1.mono n2.tk).mono n3.tk;let bx:=j2.mono n3.tk;let aZ:=((iA.mono n1.tk).mono n2.tk).mono n3.tk;generalize upd (upd (upd HA tx (-[V.str "asks",-t7])) ty (-[V.str "stuck",V.str z])) l6 (.lst [V.ref tx,V.ref ty])=HB at aN e6 bw bx aZ⊢;let PB:=P9.same aN;let bA:l6≠p:=λq=>by
  erw[PB,x,hx,_];rw[q,hx,0] at e6
 rw[0,p,(2),1,PB,(),(),λcE HC aC bC PC KC=>?_]
 let aO:=PB.tk PC KC;let bD:↑(as.take kk)<=400+(n+1):=by rw[uQ];omega
 let bE:∀x>as.take kk,C5 x:=λx hx=>ac.an x (vj hx);let b5:cE=0\/cE=1:=by omega
 rcases b5 with rfl|rfl
 .exact(l6,_,_,0,1,SqL.of (KC _ _ e6 bA),qy (j:=0) rfl,fin m _ _ _ _ HC ((iK.of aN).trans KC) PC ae (aZ.mono aO) (bw.mono aO) (ae,bE,bD,mK.mk' rfl (by simp[dp,dpL]) λq=>A8 q ()))
 .exact(l6,_,_,0,1,SqL.of (KC _ _ e6 bA),qy (j:=1) rfl,fin m _ _ _ _ HC ((iK.of aN).trans KC) PC ae (aZ.mono aO) (bx.mono aO) (ae,bE,bD,mK.mk' rfl (by simp[dp]) λ_=>[z:1]))
variable {i:Nat}
def MR (h:i<n):Hn (i:Int) n=u_ i:=by
 unfold Hn;let h0:¬((i:Int)<0):=by omega
 simp![h0,if_false];simp;omega
variable {ds:oj D}{j:Nat}{v:V}
def Sr {us:oj V}(h:L2.IsL H ds us)(U:j<↑us){d:D}(i:Is H d v):L2.IsL H (ds.take j++d::ds.drop (j+1)) (us.set j v):=by
 rw[List.set_eq_take_append_cons_drop,A6 U];exact(h.take j).append (v,0,i,h.drop (j+1))
def EM {us:oj V}(h:L2.IsL H ds us)(j:Nat):L2.IsL H (ds.take j++ds.drop (j+1)) (us.eraseIdx j):=by
 rw[List.eraseIdx_eq_take_drop_succ];exact(h.take j).append (h.drop (j+1))
def AE {us:oj V}(h:L2.IsL H ds us)(j:Nat){d:D}(i:Is H d v):L2.IsL H (ds.take j++d::ds.drop j) (us.take j++v::us.drop j):=(h.take j).append (v,0,i,h.drop j)
def So (h:j<n):ixN n (j:Int)=u_ j:=by
 unfold ixN;rw[A6 (),A6 ()]
 simp
def Av {α:Type}(us:oj α)(h:j<=↑us)(y:α):↑(us.take j++y::us.drop j)=↑us+1:=by
 rw[uw,um,uQ,vh];omega
def zY (ps:Pp)(i j:Nat)(l:Pp):(ps.take i++(l++ps.drop j)).map stD=(ps.map stD).take i++(l.map stD++(ps.map stD).drop j):=by
 rw[uj,uj,Hw,Fo]
def ZB {α:Type}{ps l:oj α}{x:α}(h:x>ps.take i++(l++ps.drop j)):x>ps\/x>l:=by
 rcases Ae.mp h with h|h
 .exact .inl (vj h)
 .rcases Ae.mp h with h|h
  .exact .inr h
  .exact .inl (vF h)
def ShS.up {m:Nat}{s:Str×oj D×D}(h:ShS n s)(hm:n<=m):ShS m s:=(h.nl,h.an,by have:=h.few;omega,h.en)
variable {p:o3}
def qaI {L:o3}{us:oj V}{ps:Pp}(h:mn H p)(e:H L=u_ (.lst us))(i:L2.IsL H (ps.map stD) us):L≠p:=λz=>by
 erw[h,x,U,_];rw[z,U] at e;injection e with e
 injection e with e
 subst e;cases ps with
 |nil=>rw[i,0]|cons s r=>
  erw[i,v,us',e2,Z,_];injection e2 with e2
  subst e2;erw[Z,_,_,e3,_];rw[e3,0]
inductive Lb:Sp
 |mk (L O p nl:Addr)(us ous:List V)(ps os:Pp)(zs:List Str)(n:Nat)(_:vs= [-L,-O,-p,-nl])(_:H L=u_ (.lst us))(_:L2.IsL H (ps.map stD) us)(_:H O=u_ (.lst ous))(_:L2.IsL H (os.map stD) ous)(_:∀s>ps,ShS n s)(_:∀s>os,ShS 0 s)(_:mn H p)(_:H nl=u_ (.lst (zs.map V.str)))(_:∀z>zs,↑z<=24)(_:↑zs<=20)(_:n<=10)(_:↑ps<=200)(_:↑os<=200)(_:∀(L':Addr)(us':List V)(ps':Pp)(H':Hp),iK p H H'->mn H' p->H L'=U_->H' L'=u_ (.lst us')->L2.IsL H' (ps'.map stD) us'->(∀s>ps',ShS (n+1) s)->↑ps'<=↑ps+1->Q (-L') H')
def LD:#[T,3,a.jt,a.jx,["steps","others","pot","names"],Lb]:=by
 let qL:=#[Jr,T];let Zc:=#[D3,T];rw[9,T.lz,Qr]
 erw[h,L,O,p,nl,us,ous,ps,os,zs,n,rfl,hL,ax,hO,ae,ag,ay,hP,aA,aH,aJ,aB,aS,aT,k];let hs:=uB;let aU:↑us=↑ps:=by rw[↑ax,u7]
 let aR:↑ous=↑os:=by rw[↑ae,u7]
 let ap:=qaI hP hO ae;let aK:=hP.ne_strs aA;rw[3,%[#[qF,(4),Qr.nd,#[Qj,sK,T.z_list,boot_list,#v[pv 0]]],#[qF,(5),Qr.nd,#[qt,qL,T.ig,#v[pv 2,qh]]],#[qI,#[qm,Qd,#[qz,qG,T.QZ,uJ,#v[pv 4]],qh],%[|#[qo,#[qV,wN,pv 4,#[QK,qaK,pv 1,yi,#[yf,qh]]]]],qp],#[qF,(6),Qr.nd,#[qt,qL,T.ig,#v[pv 2,#[qz,qG,T.QZ,uJ,#v[pv 4]]]]],#[qF,(7),Qr.nd,#[qt,qL,T.ig,#v[pv 2,#[qV,Q1,#[qz,qG,T.QZ,uJ,#v[pv 4]],qh]]]],#[qI,#[qm,qaJ,pv 5,qh],%[|#[ZN,#[qt,Zc,T.lN,#v[#[qE,QP,pv 4,pv 6],pv 2,pv 3]],#[MX,7,pv 4,pv 6,Bh,_]]],%[|#[qI,#[qm,Qd,pv 5,qh],%[|#[qY,#[YS,uM,UC,UD,BE,pv 4,#v[pv 6]]]],%[|#[qI,#[qm,Qd,pv 5,qh],%[|#[qY,#[YS,uM,UT,UU,WJ,pv 4,#v[pv 7,#[qE,QP,pv 4,pv 6]]]]],%[|#[qI,#[qm,Qd,pv 5,qh],%[#[qF,(8),Qr.nd,#[YS,uM,UC,UD,BE,pv 4,#v[pv 6]]]|#[qY,#[YS,uM,UT,UU,WJ,pv 4,#v[#[qz,#[sJ,1,rfl],T.z_min,boot_min,#v[pv 7,#[qz,qG,T.QZ,uJ,#v[pv 4]]]],pv 8]]]],%[|#[qI,#[qm,Ap,#[qz,qG,T.QZ,uJ,#v[pv 1]],qh],%[|#[qY,#[YS,uM,UT,UU,WJ,pv 4,#v[pv 7,#[qE,QP,pv 1,#[qt,qL,T.ig,#v[pv 2,#[qz,qG,T.QZ,uJ,#v[pv 1]]]]]]]]],qp]]]]]]]]]|#[qo,pv 4]]]
 rw[8,N1,q1]
 rw[0,L,us,1,.inl (SqL.of hL),λZ ah=>q1 _ _ ?_];let m1:=qf ah (.lst us);let e1:upd H Z (.lst us) Z=u_ (.lst us):=qg;let i1:=ax.mono m1.tk;generalize upd H Z (.lst us)=H1 at m1 e1 i1⊢;let P1:=hP.same m1;let ad:Z≠p:=qaI P1 e1 i1;rw[8,N2,q2]
 rw[0,p,(7),1,P1,(),(),λkd H2 a2 b2 P2 K2=>q2 _ _ ?_]
 let ak:=(iK.of m1).trans K2;let e2:=K2 _ _ e1 ad;let i2:=i1.mono (P1.tk P2 K2);clear K2 i1 e1 m1 P1;rw[8,N3,q3]
 rw[0,Z,us,1,.inl (SqL.of e2),1,0];by_cases c0:↑us=0
 .refine iO (u8 (by rw[c0];rfl)) ?_
  let aL:=ak _ _ hO ap
  rw[0,0,0,O,ous,1,SqL.of aL,λl hl=>?_];rw[show(u_ (1:Int))=u_ ((1:Nat):Int) from rfl,B9]
  let m3:=qf hl (.lst (ous.take 1))
  rw[5]
  refine(Z,l,us,ous.take 1,1,1,m3 _ _ e2,qg,by rw[uQ];omega,λl2 al=>?_)
  let m4:=qf al (.lst (us++ous.take 1));let aM:us= []:=vI c0;let aa:=(ak.trans (iK.of m3)).trans (iK.of m4);let P4:=(P2.same m3).same m4;refine k l2 (us++ous.take 1) (os.take 1) _ aa P4 ?_ qg ?_ (λs U=>(ay s (vj U)).up (uK _)) (by rw[uQ];omega)
  .cases hh:H l2 with
   |none=>rfl|some o=>
    by_cases c:l2=p
    .erw[P2.same m3,x,hx,_];rw[c,hx,0] at al
    .have:=(ak.trans (iK.of m3)) _ _ hh c;rw[al,0] at this
  .rw[Hw];have:=(ae.mono (hP.tk P4 aa)).take 1;rw[aM] at this⊢;exact this
 refine iI (ud λq=>c0 (by injection q with q;omega)) (q3 _ _ ?_)
 rw[8,N4,q4]
 rw[0,0,Z,us,1,.inl (SqL.of e2),p,(↑us:Int),1,P2,(),(),λaI H3 a3 b3 P3 K3=>q4 _ _ ?_]
 obtain⟨at_,rfl,af⟩:∃n:Nat,aI=(n:Int)/\n<↑us:=[aI.toNat:():()]
 let e3:=K3 _ _ e2 ad;let i3:=i2.mono (P2.tk P3 K3);rw[8,N5,q5]
 rw[0,0,Z,us,1,.inl (SqL.of e3),_,0,1,p,(↑us:Int)+1,1,P3,(),(),λtI H4 a4 b4 P4 K4=>q5 _ _ ?_]
 obtain⟨to,rfl,am⟩:∃n:Nat,tI=(n:Int)/\n<=↑us:=[tI.toNat:():()]
 let e4:=K4 _ _ e3 ad;let i4:=i3.mono (P3.tk P4 K4);let aa:=(ak.trans K3).trans K4;clear K3 K4 ak e2 e3 i2 i3 P2 P3;obtain⟨y,hy,iy⟩:=i4.get (i:=at_) (d:=stD (ps[at_]'())) (by rw[uH,ub ()];rfl)
 generalize aN:ps[at_]'()=sa at iy
 let aq:sa>ps:=by rw[<-aN];exact uN _
 rw[8,N6,q6];let fin:∀(sv:om V) (aC us':oj V) (ps':Pp) (H':Hp),iK p H H'->mn H' p->H' Z=u_ (.lst aC)->L2.IsL H' (ps'.map stD) us'->(∀s>ps',s>ps\/ShS (n+1) s)->↑us'<=↑us+1->N6 [u_ (-L),u_ (-O),u_ (-p),u_ (-nl),u_ (-Z),u_ (.int kd),u_ (.int (at_:Int)),u_ (.int (to:Int)),sv] (upd H' Z (.lst us')):=λsv aC us' ps' H' K' P' e' i' aO aV=>by
  refine q6 _ _ [0:k Z us' ps' _ (λb o e hb=>?_) ?_ ah qg (i'.mono (Tk.updL e')) (λs U=>?_) ?_]
  .rw[qk (ql e ah)];exact K' b o e hb
  .erw[P',x,ex,h,<-⟨x,by rwa[qk (U1 ad)],h⟩]
  .rcases aO s U with h|h
   .exact(ag s h).up (Ue n)
   .exact h
  .have:=↑i';rw[u7] at this;omega
 rw[0,_,0,1,0,ky (λ_=>?_) (λ_=>?_)]
 .rw[0,0,Z,_,_,0,1,SqL.of e4,qy hy,0,0,y,p,nl,zs,sa,n,1,iy,ag sa aq,P4,aa _ _ aA aK,aH,aJ,aB,λv' s' H5 K5 P5 aP aQ=>?_];let e5:=K5 _ _ e4 ad
  rw[0,0,Z,us,(at_:Int),at_,1,1,e5,So af];refine fin _ us _ (ps.take at_++([s']++ps.drop (at_+1))) H5 (aa.trans K5) P5 e5 (by rw[zY];exact Sr (i4.mono (P4.tk P5 K5)) af aP) (λs U=>(ZB U).imp id λh=>by rw[Ac.mp h,0];exact aQ) (by rw[rD];exact Ue _)
 rw[0,1,0,ky (λ_=>?_) (λ_=>?_)]
 .rw[0,.inl [1:_:SqL.of e4],0,Z,us,_,at_,y,1,1,e4,(),(),MR af,hy]
  exact fin _ us _ (ps.take at_++([]++ps.drop (at_+1))) H4 aa P4 e4 (by rw[zY];exact EM i4 at_) (λs U=>(ZB U).imp id λh=>by rw[h,0]) (by rw[Rj af];omega)
 rw[0,1,0,ky (λ_=>?_) (λ_=>?_)]
 .rw[0,.inl [1:_:SqL.of e4],0,0,0,Z,_,_,0,1,SqL.of e4,qy hy,Z,us,to,y,1,1,e4,am,()]
  refine fin _ us _ (ps.take to++([sa]++ps.drop to)) H4 aa P4 e4 (by rw[zY];exact AE i4 to iy) (λs U=>(ZB U).imp id λh=>by rw[Ac.mp h,0];exact(ag _ aq).up (Ue n)) (Hu (Av us am y))
 rw[0,1,0,ky (λ_=>?_) (λ_=>?_)]
 .show nA _ _ _ _ H4;rw[8,B1,b1]
  rw[0,.inl [1:_:SqL.of e4],0,Z,us,_,at_,y,1,1,e4,(),(),MR af,hy,b1 _ _ ?_]
  let ao:Tk H4 (upd H4 Z (.lst (us.eraseIdx at_))):=Tk.updL e4;let e5:upd H4 Z (.lst (us.eraseIdx at_)) Z=u_ (.lst (us.eraseIdx at_)):=qg;let P5:mn (upd H4 Z (.lst (us.eraseIdx at_))) p:=by
   erw[P4,x,ex,h,<-⟨x,by rwa[qk (U1 ad)],h⟩]
  let K5:iK p H (upd H4 Z (.lst (us.eraseIdx at_))):=λb o e hb=>by
   rw[qk (ql e ah)];exact aa b o e hb
  let aD:∀x>ps.take at_++([]++ps.drop (at_+1)),x>ps:=λx hx=>(ZB hx).elim id λh=>by rw[h,0]
  let i5:L2.IsL (upd H4 Z (.lst (us.eraseIdx at_))) ((ps.take at_++([]++ps.drop (at_+1))).map stD) (us.eraseIdx at_):=by rw[zY];exact(EM i4 at_).mono ao
  generalize ps.take at_++([]++ps.drop (at_+1))=aE at aD i5;let au:=iy.mono ao;let l5:↑(us.eraseIdx at_)=↑us-1:=Rj af;generalize us.eraseIdx at_=ac at e5 P5 K5 i5 l5 ao au⊢;generalize upd H4 Z (.lst ac)=H5 at e5 P5 K5 i5 au⊢;clear ao
  rw[0,.inl [1:_:SqL.of e5],0,0,Z,ac,1,.inl (SqL.of e5),_,0];obtain⟨m,hm,aF⟩:∃m:Nat,(if(↑ac:Int)<(to:Int) then(↑ac:Int) else(to:Int))=(m:Int)/\m<=↑ac:=by
   by_cases c:(↑ac:Int)<(to:Int)
   .exact[↑ac:A6 c:uh _]
   .exact[to:A4 c:()]
  rw[hm]
  rw[0,Z,ac,m,y,1,1,e5,aF,()]
  refine fin _ ac _ (aE.take m++([sa]++aE.drop m)) H5 K5 P5 e5 (by rw[zY];exact AE i5 m au) (λs U=>(ZB U).imp (aD s) λh=>by rw[Ac.mp h,0];exact(ag _ aq).up (Ue n)) (by have:=Av ac aF y;omega)
 let aG:=aa _ _ hO ap
 rw[0,O,ous,1,.inl (SqL.of aG),_,0,1,0];by_cases c9:↑ous=0
 .refine iI (ud ()) ?_
  exact q6 _ _ [0:k Z us ps _ aa P4 ah e4 i4 (λs U=>(ag s U).up (Ue n)) ()]
 refine iO (u8 ()) ?_
 rw[0,.inl [1:_:SqL.of e4],0,0,0,0,O,ous,1,.inl (SqL.of aG),p,(↑ous:Int),1,P4,(),(),λcI H5 a5 b5 P5 K5=>?_]
 obtain⟨c,rfl,hc⟩:∃n:Nat,cI=(n:Int)/\n<↑ous:=[cI.toNat:():()]
 let e5:=K5 _ _ e4 ad;let aw:=aa.trans K5;obtain⟨x,hx,ix⟩:=(ae.mono (hP.tk P5 aw)).get (i:=c) (d:=stD (os[c]'())) (by rw[uH,ub ()];rfl)
 rw[_,O,_,_,0,1,SqL.of (aw _ _ hO ap),qy hx,Z,us,to,x,1,1,e5,am,()]
 refine fin _ us _ (ps.take to++([os[c]'()]++ps.drop to)) H5 aw P5 e5 (by rw[zY];exact AE (i4.mono (P4.tk P5 K5)) to ix) (λs U=>(ZB U).imp id λh=>by rw[Ac.mp h,0];exact(ay _ (uN _)).up (uK _)) (Hu (Av us am x))
def Abz {K:o0}{b A:o3}{H1:Hp}{tg:TG}{tc:TT}{te:TE}{tl:L2.St}{Q:VK}{xs:oj V}(C:Nat->oj V->Hp->Prop)(hb:H1 b=u_ (¬xs))(hn:↑xs<=Vg)(h0:C 0 [] (upd H1 A (.lst [])))(hC:∀i ys H,C i ys H->ic H1 H)
  (aa:∀i x ys H U,xs[i]? =u_ x->C i ys H->H A=u_ (.lst ys)->tg x (U::tl) H λσ2 H2=>tc σ2 H2 λc H3=>if c=v_ then te σ2 H3 λy H4=>H4 A=u_ (.lst ys)/\(∃u0,σ2=u0::tl)/\C (i+1) (ys++ [y]) (upd H4 A (.lst (ys++ [y]))) else H3 A=u_ (.lst ys)/\(∃u0,σ2=u0::tl)/\C (i+1) ys H3)
  (hQ:∀ys H,C ↑xs ys H->H A=u_ (.lst ys)->Q (-A) H):Az A (Itt K b) tg tc te (U_::tl) H1 Q:=by
 rw[_,↑xs,λi σ ys H=>(∃U,σ=U::tl)/\C i ys H,hn,[[U_:1]:h0],?_,?_]
 .rintro i σ ys H hi ⟨⟨U,rfl⟩,Z⟩ hl hy;let sm:=hC _ _ _ Z;let e0:xs[i]? =u_ xs[i]:=ub hi;rw[_,(_,_,SqT.of (sm _ _ hb),e0)];rintro x H' ⟨rfl,hx⟩;let e:=hx _ (SqT.of (sm _ _ hb));exact aa i x ys H' U e Z hl
 .rintro σ ys H ⟨_,Z⟩ hl;exact[[_:SqT.of (hC _ _ _ Z _ _ hb):uh _]:hQ ys H Z hl]
def WN {kk:Str}{ee:D}:g0D m (-[!kk,ee])=U_↔kk="leaf":=by
 unfold g0D;simp only;constructor
 .intro h;by_cases c:kk="leaf"
  .exact c
  .rw[A4 c] at h;split at h<;>cases h
 .intro h;rw[A6 h]
inductive Aes (x:V)(y:V)(H:Hp)(Q:VK):Prop
 |mk (p p':Addr)(b c:Bool)(d e:D)(u u':V)(_:x=-p)(_:y=-p')(_:H p=u_ (-[.bl b,u]))(_:H p'=u_ (-[.bl c,u']))(_:Is H d u)(_:Is H e u')(_:nD d=v_)(_:nD e=v_)(_:dp d<=60)(_:Q (.bl (!((b==c)&&eqD d e))) H)
variable {X:Cx}
def O3 (hu:X.A.units+64<Vn):OpR X (Vm .NotEq) Aes:=by
 rw[2,x,y,v,u,Q,I,rx,ry,h];erw[h,p,p',b,c,d,e,u1,u2,rfl,rfl,h2,h3,h4,h5,h6,h7,h8,q];rw[rx,0];rw[ry,0];erw[I.tuple (.inl (.of h2)),its,rv,tq,_];erw[I.tuple (.inl (.of h3)),its',aa,ac,_];erw[sU rv,a1,U,rfl,k1,k2];erw[sU aa,b1,b2,rfl,l1,l2];rw[k1,0];rw[l1,0];let pe:∀j (Z:j< [VC b,U].toArray.size) (g2:j< [VC c,b2].toArray.size),VJ X.A.in1 s ([VC b,U].toArray[j]) ([VC c,b2].toArray[j]) (if j=0 then b==c else eqD d e):=by
  intro j Z g2
  match j,Z,g2 with
  |0,_,_=>exact Ra b c|1,_,_=>exact Ie I 60 d e u1 u2 U b2 X.A.in1 h8 h6 h7 h4 h5 k2 l2 (by rw[ve];omega)|j+2,Z,_=>exact A8 (show j+2<2 from Z) ()
 have:=Fp (e:=λj=>if j=0 then b==c else eqD d e) tq ac () pe
 let ev:((Vq (min ([VC b,U].toArray.size) ([VC c,b2].toArray.size))).all (λj=>if j=0 then b==c else eqD d e)&& [VC b,U].toArray.size== [VC c,b2].toArray.size)=((b==c)&&eqD d e):=by simp[Vq,pX]
 rw[ev] at this;exact this X.prog X.w X.xe _ (.bl _,H,I,1,q)
inductive AcW (x:V)(y:V)(H:Hp)(Q:VK):Prop
 |non (h0:x= .non)(h1:y= .non)(h2:Q (.bl Vd) H):AcW x y H Q
 |row (ds:List D)(h0:Is H (¬ds) x)(h1:Is H (¬ds) y)(h2:nL ds=v_)(h3:dpL ds<=60)(h4:Q (.bl Vd) H):AcW x y H Q
def Abe (hu:X.A.units+64<Vn):OpR X (Vm .NotEq) AcW:=by
 rw[2,x,y,v,u,Q,I,U,Z,h];rcases h with⟨rfl,rfl,q⟩|⟨ds,h0,h1,h2,h3,q⟩
 .exact Ao ot s σ H .non .non v u Q I U Z ⟨1,by simpa using q⟩
 .refine Wu hu ot s σ H x y v u Q I U Z (ds,ds,h0,h1,h2,h2,h3,?_);rw[(Qy h2).mpr rfl];exact q
abbrev TdL (H:Hp)(d:o3)(es:oj (Str×D)):Prop:=∃vs:oj (Str×V),H d=u_ (.dK (iM vs))/\↑vs<=↑es/\∀z,(z>vs.map (·.1)↔z>es.map (·.1)/\∃x,qH es z=-[-"said",x])/\∀x,z>es.map (·.1)->qH es z= .tup [-"said",x]->∃u,iP (iM vs) (Vf z)=u_ u/\Is H x u
variable {H':Hp}{ps:oj (Str×D)}
def TdL.same {d:o3}(h:TdL H d ps)(s:ic H H'):TdL H' d ps:=by
 erw[h,vs,h1,h2,h3,<-(vs,s _ _ h1,h2,λz=>⟨(h3 z).1,λx hz e=>by erw[(h3 z).2 x hz e,v,e,i,<-[v:e:i.mono s.tk]]⟩)]
variable {es:oj (Str×D)}{e:D}
def BN:z>(es++ [(m,e)]).map (·.1)↔z>es.map (·.1)\/z=m:=by
 rw[uj,UE];exact or_congr hV Ub
def TdL.skip {d:o3}(h:TdL H d es)(hm:m∉es.map (·.1))(hn:∀x,e≠ -[-"said",x]):TdL H d (es++ [(m,e)]):=by
 erw[h,vs,h1,h2,h3];let U:∀z x,z>(es++ [(m,e)]).map (·.1)->qH (es++ [(m,e)]) z= .tup [-"said",x]->z>es.map (·.1)/\qH es z=-[-"said",x]:=λz x hz Z=>by
  rcases BN.mp hz with c|rfl
  .rw[zr c] at Z;exact[c:Z]
  .rw[KU hm] at Z;exact A8 Z (hn x)
 refine(vs,h1,by rw[uw];omega,λz=>⟨((h3 z).1).trans ⟨λ⟨c,x,k⟩=>⟨BN.mpr (.inl c),x,by rw[zr c];exact k⟩,λ⟨c,x,k⟩=>[(U z x c k).1:x:(U z x c k).2]⟩,λx hz Z=>(h3 z).2 x (U z x hz Z).1 (U z x hz Z).2⟩)
def TdL.put {d:o3}{vs:oj (Str×V)}(h1:H d=u_ (.dK (iM vs)))(h2:↑vs<=↑es)(h3:∀z,(z>vs.map (·.1)↔z>es.map (·.1)/\∃x,qH es z=-[-"said",x])/\∀x,z>es.map (·.1)->qH es z= .tup [-"said",x]->∃u,iP (iM vs) (Vf z)=u_ u/\Is H x u)(hm:m∉es.map (·.1))(iv:Is H e v):TdL (upd H d (.dK (lV (iM vs) (Vf m) v))) d (es++ [(m,-[-"said",e])]):=by
 let aa:m∉vs.map (·.1):=λz=>hm ((h3 m).1.mp z).1;let U:lV (iM vs) (Vf m) v=iM (vs++ [(m,v)]):=by
  rw[wH _ (Zy aa)];unfold iM;rw[uj]
  rfl
 let tk:=Tk.updD (ys:=lV (iM vs) (Vf m) v) h1;refine(vs++ [(m,v)],by rw[qg,U],by rw[uw,uw];simpa using h2,λz=>?_)
 by_cases c:z>es.map (·.1)
 .let ne:z≠m:=λy=>hm (y▸c);rw[zr c,AcD,uj,UE,BN];rw[_,[λh=>[.inl c:((h3 z).1.mp (h.resolve_right λy=>ne (Ac.mp y))).2]:λh=> .inl ((h3 z).1.mpr [c:h.2])],λx _ hx=>?_];erw[(h3 z).2 x c hx,u,e1,e2,<-⟨u,by rw[e1];rfl,e2.mono tk⟩]
 .let hv:z∉vs.map (·.1):=λy=>c ((h3 z).1.mp y).1;rw[AcD,Zy hv,uj,UE,BN];by_cases Z:z=m
  .subst Z;rw[KU hm,A6 rfl];rw[_,[λ_=>[.inr rfl:0]:λ_=> .inr (Ac.mpr rfl)],λx _ hx=>?_];rw[hx,0];exact[v:1:iv.mono tk]
  .rw[_,[λh=>?_:λh=>?_],λx hz=>?_]
   .exact(h.elim (λy=>A8 y hv) λy=>A8 (Ac.mp y) Z)
   .exact(h.1.elim (λy=>A8 y c) λy=>A8 y Z)
   .exact(hz.elim (λy=>A8 y c) λy=>A8 y Z)
inductive Oo (CP:Addr):Sp
 |mk (px td t:Addr)(kd z:Str)(qs ers:List (Str×D))(_:vs= [-px,-td,-t])(_:H t=u_ (-[!kd,!z]))(_:yn CP H px qs)(_:Q0 qs)(_:TdL H td ers)(_:↑z<=1000)(_:∀x>ers.map (·.1),mK (qH ers x))(_:∀(p:Addr)(b:Bool)(d:D)(u:V)(H':Hp),ic H H'->H' p=u_ (-[.bl b,u])->Is H' d u->nD d=v_->dp d<=50->(∀an,(b=v_/\d=an)↔C6 qs ers kd z an)->Q (-p) H')
inductive Ld:Sp
 |mk (rv:V)(own:Str)(ta:Addr)(us:List V)(ev:V)(rs:List Rw)(gs:List D)(en:D)(_:vs= [rv,!own,-ta,ev])(_:Is H (jY rs) rv)(_:QY rs)(_:nm own=v_)(_:H ta=u_ (¬us))(_:L2.IsL H gs us)(_:∀x>gs,NH x)(_:Is H en ev)(_:mK en)(_:∀(b:Bool)(H':Hp),ic H H'->(b=v_↔∃r,CG rs own (R0 rs own) gs r/\AdL r en)->Q (.bl b) H')
def Py:#[T,5,a.Xi,a.Xf,["project","told","ask"],(Oo a.qK)]:=by
 let QD:=#[xu,T];let qM:=#[yD,T];let Qp:=#[W2,T];refine T.mq.F.ok yN () (λ_ _ _ s H vs Q E hr h=>?_)
 erw[h,px,td,t,kd,z,qs,ers,rfl,ht,hP,hq,hT,aG,aw,k];let hs:=uB;let Z:∀(b:Bool) (d:D) (u:V) (H':Hp),ic H H'->Is H' d u->nD d=v_->dp d<=50->(∀an,(b=v_/\d=an)↔C6 qs ers kd z an)-> [V.bl b,u].length<=Vg/\∀p,H' p=U_->Q (-p) (upd H' p (-[V.bl b,u])):=λb d u H' s' i hn hd hb=>[sml rfl:λp hp=>k p b d u _ (s'.trans (qf hp _)) qg (i.mono (qf hp _).tk) hn hd hb];let no:∀{d:D},(∀an,¬C6 qs ers kd z an)->∀an,(Vd=v_/\d=an)↔C6 qs ers kd z an:=λh an=>⟨λq=>(by rw[q.1,0]),λq=>A8 q (h an)⟩
 erw[id hP,ax,aH,op,aI,hx,_];rw[3,%[#[ZN,pv 2,#[JA,qT #[qJ,(3),yN.nd] (qT #[qJ,(4),yN.nd] yW)]],#[qI,#[qm,Qd,pv 3,qi],%[|#[qo,#[qA,#v[Yx,#[Qh,pv 0,T.Qt,T.io,Qp,#v[pv 2]]]]]],qp],@qI _ _ _ _ _ _ _ _ #[jI,#[qm,8,xg,pv 3,#[QE,#v[qi,qi,qi]],#[w]],#[Yu,#[Qo,#[Qe,#[qt,QD,T.iF,#v[pv 4]]]]]].pt %[|#[qo,#[qA,#v[Yx,qR]]]] qp,#[qI,#[qm,Qd,pv 3,qi],%[|#[qo,#[qA,#v[Yx,#[Qh,pv 0,T.Qt,T.io,Qp,#v[pv 2]]]]]],qp],#[qF,(5),yN.nd,#[Qh,pv 0,T.Qt,T.ii,qM,#v[pv 4]]],#[qI,#[qm,yk,pv 5,qR],%[|#[qo,#[qA,#v[Yx,qR]]]],qp],#[qI,#[qm,Qd,#[qE,qB,pv 5,qh],qi],%[|#[qo,#[qA,#v[Yx,#[qE,qB,pv 5,qh]]]]],qp]|#[qo,#[qA,#v[#[Abb,6,#[pc_din,pv 4,pv 1],_],#[wD,7,QU hr,pv 1,pv 4,(1,1,1,1)]]]]]]
 rw[8,N1,q1]
 rw[0,t,0,SqT.of ht,1,_,0,_,0,1,q1 _ _ ?_];rw[8,N2,q2]
 rw[0,1,0];by_cases cn:kd="names"
 .let hk:mP kd=true:=by rw[cn];decide+kernel
  let aa:=(XV hq z hk).1;let al:=JE aa;refine iO (u8 (by rw[cn])) ?_
  rw[0,px,ax,0,hx,zC,0,px,t,kd,z,qs,1,hP,hq,ht,(),.inr [cn:λv6 H6 s6 i6=>Z v_ (jR qs kd z) v6 H6 s6 ?_ (jP (yg aa)) () λan=>[λq=>[λc=>A8 cn c:.inl [hk:q.2.symm]]:λq=>[1:?_]]]]
  .unfold jR;rw[A4 (by rw[cn];decide+kernel)]
   exact i6
  .rcases q.2 with q|⟨q,_⟩
   .exact q.2.symm
   .rw[hk,0] at q
 refine iI (ud λy=>cn (V.str.inj y)) (q2 _ _ ?_);rw[8,N3,q3]
 rw[0,sml rfl,λl hl=>(l,0,.inl (SqL.of qg),1,1,0,?_)];let s1:=qf hl (.lst [V.str "thing",V.str "rule",V.str "has"]);let am:inV (V.str kd) [V.str "thing",V.str "rule",V.str "has"]=decide (kd>(["thing","rule","has"]:oj Str)):=Jw kd ["thing","rule","has"];by_cases ck:kd>(["thing","rule","has"]:oj Str)
 .refine iI (by rw[A6 rfl,am,u8 ck];rfl) ?_
  rw[0,!z,!z,1,Qi (),λH2 s2=>[0:?_]]
  let U:=s1.trans s2;rw[show mM (!z)=nm z from rfl]
  cases hn:nm z with
  |false=>exact iY (Z Vd .non .non _ U rfl rfl (by simp[dp]) (no λan q=>by have:=q.1 cn;rw[hn,0] at this))|true=>
  refine iU (q3 _ _ ?_);let ad:=hP.same U;let ay:=U _ _ ht;erw[id ad,ac,aE,aJ,aF,ao,_];rw[8,N4,q4]
  rw[0,1,0];by_cases ch:kd="has"
  .let hk:mP kd=true:=by rw[ch];decide+kernel
   let aa:=(XV hq z hk).1;let al:=JE aa;refine iO (u8 (by rw[ch])) ?_
   rw[0,px,ac,0,ao,zC,0,px,t,kd,z,qs,1,ad,hq,ay,(),.inl [ch:Z v_ (jR qs kd z) _ _ U ?_ (jP (yg aa)) () λan=>[λq=>[λ_=>hn:.inl [hk:q.2.symm]]:λq=>[1:?_]]]]
   .unfold jR;rw[A6 ch];exact Qi (by split<;>decide)
   .rcases q.2 with q|⟨q,_⟩
    .exact q.2.symm
    .rw[hk,0] at q
  refine iI (ud λy=>ch (V.str.inj y)) (q4 _ _ ?_);let hk:mP kd=false:=by
   unfold mP;rw[ud ch,ud cn]
   rfl
  let aA:kd="thing"\/kd="rule":=by
   simp![uF,uI,uR] at ck;rcases ck with c|c|c
   .exact .inl c
   .exact .inr c
   .exact A8 c ch
  let ae:∀an,C6 qs ers kd z an↔((g0D z (qH qs z)=U_/\an=(qaN (qH qs z)).getD .non)\/((∃s,g0D z (qH qs z)=u_ s)/\z>ers.map (·.1)/\qH ers z=-[-"said",an])):=λan=>by
   rw[_,λq=>?_,λq=>[λ_=>hn:.inr [hk:aA:q]]];rcases q.2 with⟨q,_⟩|q
   .rw[hk,0] at q
   .exact q.2.2
  rw[8,N5,q5]
  rw[0,px,ac,0,ao,yj,0,px,z,qs,1,ad,λsv h1 h2=>q5 _ _ ?_];rw[8,N6,q6]
  rw[0,1,0];by_cases c:z>qs.map (·.1)
  .erw[j7 hq c,_,kk,e,af,_,aB];let iv:=h1 c;rw[af] at iv;erw[iv,ts,us',rfl,ap,y1,r1,rfl,[rfl,_],y2,r2,rfl,aC,aD];rw[show r2= [] from aD,0]
   refine iI (by simp) (q6 _ _ ?_)
   rw[8,N7,q7]
   rw[0,ts,_,_,0,1,SqT.of ap,qy (j:=0) rfl,1,0];let aq:g0D z (qH qs z)=U_↔kk="leaf":=by rw[af];exact WN
   by_cases cl:kk="leaf"
   .let hT:=(aB (by rw[cl];decide+kernel)).2
    let al:=JE hT;refine iO (u8 (by rw[cl])) ?_
    rw[0,ts,_,_,0,1,SqT.of ap,qy (j:=1) rfl,Z v_ e _ _ U aC (jP (yg hT)) () λan=>?_]
    rw[ae an,af,cl]
    rw[_,λq=> .inl [WN.mpr rfl:q.2.symm],λq=>[1:?_]];rcases q with⟨_,q⟩|⟨⟨_,q⟩,_⟩
    .exact q.symm
    .rw[WN.mpr rfl,0] at q
   .refine iI (ud λy=>cl (V.str.inj y)) (q7 _ _ ?_);let hg:∃s,g0D z (qH qs z)=u_ s:=by
     cases hg:g0D z (qH qs z) with
     |none=>exact A8 (aq.mp hg) cl|some s=>exact[s:1]
    let ag:∀an,C6 qs ers kd z an↔z>ers.map (·.1)/\qH ers z=-[-"said",an]:=λan=>by
     rw[ae an]
     rw[_,λq=>?_,λq=> .inr [hg:q]];rcases q with⟨q,_⟩|q
     .exact A8 (aq.mp q) cl
     .exact q.2
    erw[hT.same U,vs,ah,aK,ak]
    rw[0,0,td,0,mT.k (k:=Vf z) ah,0,td,1,.inl [_:.inl ah],0,_,mT.k (k:=Vf z) ah];by_cases cz:z>vs.map (·.1)
    .erw[(ak z).1.mp cz,c1,x,c2];erw[(ak z).2 x c1 c2,u,e1,e2];erw[aw z c1,k1,x1,e3,n1,n2,_];rw[c2,0] at e3;rw[e1];refine Z v_ x u _ U e2 n1 () λan=>?_
     rw[ag an,c2];exact⟨λq=>⟨c1,by rw[q.2]⟩,λq=>⟨1,by injection q.2 with q;injection q with _ q;injection q⟩⟩
    .rw[Zy cz];exact Z Vd .non .non _ U rfl rfl (by simp[dp]) (no λan q=>cz ((ak z).1.mpr [((ag an).mp q).1:an:((ag an).mp q).2]))
  .rw[h2 c,0];refine iO (by simp) ?_
   refine Z v_ .non .non _ U rfl rfl (by simp[dp]) λan=>?_
   rw[ae an,Yp c];let au:g0D z .non=none:=by
    cases hg:g0D z .non with
    |none=>rfl|some s=>exact A8 ((yY qs).gn z s (by show g0D z (qH qs z)=u_ s;rwa[Yp c])) c
   rw[_,λq=> .inl [au:q.2.symm],λq=>[1:?_]];rcases q with⟨_,q⟩|⟨⟨_,q⟩,_⟩
   .exact q.symm
   .rw[au,0] at q
 .refine iO (by rw[A6 rfl,am,ud ck];rfl) ?_
  refine Z Vd .non .non _ s1 rfl rfl (by simp[dp]) (no λan q=>ck ?_)
  rcases q.2 with⟨hh,_⟩|⟨_,h|h,_⟩
  .unfold mP at hh;rw[ud cn,Rz] at hh;rw[ui hh]
   decide+kernel
  .rw[h];decide+kernel
  .rw[h];decide+kernel
def LI:#[C,9,a.KI,a.Ks,["rule","name","asks","end"],Ld]:=by
 let QM:=#[wF,T,C];let Qa:=#[KG,T];let Q9:=#[Ek,T,C];refine T.ny.F.ok j9 () (λ_ _ _ _ H vs Q E hr h=>?_)
 erw[h,rv,own,ta,us,ev,rs,gs,en,rfl,hv,hR,am,ao,ap,hA,ie,[kk,ex,ee,aE,aT,aF],k];let hs:=uB;let aU:=zG am;erw[SB hR gs (R0 rs own) (AW hR) hA,n,rE,aa,aV];let aW:=SA aa;let ah:↑us=↑gs:=↑ap;rw[ee] at ie;erw[id ie,te,ue,rfl,ak,w1,r1,rfl,[rfl,aX],w2,r2,rfl,aG,al];rw[show r2= [] from al,0]
 rw[3,%[#[qF,(4),j9.nd,#[xD,T.X4,QM,T.X2,T.iL,DO,#v[pv 0,pv 1]]],#[y7,#[wq,pv 2],#[JA,qT #[qJ,(5),j9.nd] (qT #[qJ,(6),j9.nd] yW)],%[#[qI,#[qm,#[Wu,1,hr.units],#[Qx,pv 4,T.qu,T.ik,Qa],#[qA,#v[qi,pv 5]]],%[|#[qo,Yx]],qp]|#[qY,#[Qh,pv 4,T.qu,T.iH,Q9,#v[pv 6]]]]],#[qI,#[qm,Qd,#[qE,qB,pv 3,qh],qi],%[|#[qo,#[Qb,#[Xp,1,hr.units],#[Qx,pv 4,T.qu,T.ik,Qa],#[qA,#v[qi,#[qA,#v[qi,#[qE,qB,pv 3,qh]]]]]]]],qp]|#[qo,#[JB,#[Qb,Ao,#[qE,qB,pv 3,qh],qi],#[jN,#[Qb,#[Xp,1,hr.units],#[Qx,pv 4,T.qu,T.ik,Qa],pv 3]]]]]]
 rw[8,N1,q1]
 rw[0,0,λx dx hx aH nx=>Ew hv hR am hx aH λdb dg H0 aq au s0 M0=>[1:q1 _ _ ?_]];rw[8,N2,q2]
 rw[0,ta,1,[_:SqT.of (s0 _ _ ao)]];let two:∀{r:Rn},AV rs r->∃wd ed,r.th= .tup [!wd,ed]/\nL [!wd,ed]=v_/\dpL [!wd,ed]<=60:=λ{r} hO=>by
  erw[hO.two,wd,ed,U];let h1:=jP hO.gd.1;let h2:=hO.gd.2;rw[U] at h1 h2
  rw[_,wd,ed,U,by simpa only [nD] using h1]
  simp![dp] at h2⊢;omega
 refine_lift let J_:Nat->L2.St->Hp->Prop:=λi σ H'=>∃(r:Rn) (x5 x6:om V),σ= [u_ rv,u_ (!own),u_ (-ta),u_ (-te),u_ (-x),x5,x6]/\yx a.qq H' (x,db,dg,rs,own) r/\AV rs r/\(∃j,n=i+j/\Go rs own r (gs.drop i) j rE)/\Mv (x,db,dg,rs,own) H0 H';?_
 refine xB (K:=K) (a:=ta) (xs:=us) J_ (R0 rs own,_,0,M0,AW hR,[n:():aa],Mv.refl _ _) (λi σ H' _ h=>by erw[h,_,_,_,_,_,_,_,mv,<-SqT.of (mv.tk.tup _ _ (s0 _ _ ao))]) ?_ ?_
 .rintro i y σ H1 hy ⟨r,x5,x6,rfl,M,hO,⟨jn,aw,hc⟩,mv⟩;let ax:i<↑gs:=by rw[<-ah];exact(Ag.mp hy).1
  let aI:gs.drop i=gs[i]::gs.drop (i+1):=vc ax;rw[aI] at hc;generalize aJ:gs[i]=gi at hc;obtain⟨y',ay,iy⟩:=ap.get (i:=i) (d:=gi) (by rw[ub ax,aJ])
  rw[hy,0] at ay;let aA:=(iy.mono s0.tk).mono mv.tk;let aK:∃u z an,gi=-[-[!u,!z],an]:=by
   cases hc with
   |cons u z h1 h2 h3=>exact[u:z:0]|stop u z h1=>exact[u:z:0]
  erw[aK,u,z,an,aB];rw[aB] at hc aA;erw[aA,tp,up,rfl,aL,v1,r1,rfl,i1,v2,r2,rfl,i2,al];rw[show r2= [] from al,0]
  rw[_,tp,0,SqT.of aL,1,_,0,_,0,1];show nA _ _ _ _ H1;rw[8,B1,b1];erw[id M,ad,ae,_,_,_,_,af,ag,_]
  rw[0,x,ad,ae,1,af,ag.meth _ (),(x,db,dg,rs,own),r,1,M,λv5 i5=>?_]
  erw[two hO,wd,ed,U,Z,ac];rw[U] at i5
  rw[0,sml rfl,λl hl=>?_];let s2:=qf hl (-[-"asks",v1])
  rw[_,[!wd,ed],[-"asks",-[!u,!z]],i5.mono s2.tk,Is.new (ds:= [-"asks",-[!u,!z]]) (_,0,Qi (),_,0,i1,1) hl,Z,1,ac,0]
  let M2:=M.same s2;let aC:=mv.trans (Mv.of s2);cases hc with
  |cons u' z' h1 h2 h3=>
   rw[U] at h1;rw[(Qy Z).mpr (D.tup.inj h1)];refine iU (b1 _ _ ?_);erw[id M2,aM,aN,_,_,_,_,aO,aP,_];rw[<-U] at h1
   rw[0,x,aM,aN,1,aO,aP.meth _ (),0,(x,db,dg,rs,own),r,v2,u,!z,an,1,M2,hO,h1,i2.mono s2.tk,hR,(by show ↑own<=100;omega),h2,λH3 aQ M3=>?_]
   exact(mO rs own r an,_,0,M3,ka hR hO (qae h1) (wU h2),[_:():h3],aC.trans aQ)
  |stop u' z' h1=>
   rw[U] at h1;rw[show AJ [!wd,ed] [-"asks",-[!u,!z]]=Vd from Bool.eq_false_iff.mpr λy=>h1 (by rw[(Qy Z).mp y])]
   refine iY (k Vd _ (qaP s0 aC hx aq au) ⟨λq=>(by rw[q,0]),λ zq=>?_⟩);erw[zq,r0,q,_]
   have:=(AQ q aa).1;omega
 .rintro σ H2 ⟨r,x5,x6,rfl,M2,hO,⟨jn,aw,hc⟩,mv⟩;rw[ah,Tz] at hc;rw[ah] at aw;rw[hc,0];let hn:n=↑gs:=by omega
  let s2:ic H H2:=qaP s0 mv hx aq au;refine q2 _ _ ?_;rw[8,N3,q3];erw[id M2,ad,ae,_,_,_,_,af,ag,_];erw[two hO,wd,ed,U,Z,ac]
  rw[0,te,_,_,0,1,SqT.of (s2 _ _ ak),qy (j:=0) rfl,1,0];by_cases ck:kk="stuck"
  .erw[aF ck,z,hz];subst ck hz;erw[aG,rfl,aR];refine iO (by simp) ?_
   rw[0,x,ad,ae,1,af,ag.meth _ (),(x,db,dg,rs,own),rE,1,M2,λv5 i5=>?_]
   rw[U] at i5
   rw[0,te,_,_,0,1,SqT.of (s2 _ _ ak),qy (j:=1) rfl,sml rfl,λt1 h1=>[sml rfl:λt2 h2=>?_]];let n1:=qf h1 (-[V.str "thing",V.str z]);let n2:=qf h2 (-[V.str "asks",V.ref t1]);let j1:=Is.new (ds:= [-"thing",!z]) (_,0,Qi (),_,0,[1:aR],1) h1
   let j2:=Is.new (ds:= [-"asks",-[-"thing",!z]]) (_,0,Qi (),_,0,j1,1) h2
   rw[_,_,_,i5.mono (n1.trans n2).tk,j2,Z,1,ac];refine k _ _ ((s2.trans n1).trans n2) ?_;show AJ [!wd,ed] [-"asks",-[-"thing",!z]]=v_↔_;rw[Qy Z,ee]
   rw[5]
   refine⟨λq=>⟨rE,Mn aa hn,.inr ⟨z,1,by rw[U,q];rfl⟩⟩,λ zq=>?_⟩;erw[zq,r0,hc,hE]
   erw[AQ hc aa,_,rfl];rcases hE with⟨_,_,q⟩|⟨z',q,aD⟩
   .exact A8 rfl (q z)
   .rw[U,<-IV (y:=z) q] at aD;exact D.tup.inj aD
  .refine iI (by simpa using ck) (q3 _ _ ?_)
   rw[0,te,_,_,0,1,SqT.of (s2 _ _ ak),qy (j:=0) rfl,1,0];by_cases ca:kk="asks"
   .refine iI (by simpa using ca) (k Vd _ s2 ⟨λq=>(by rw[q,0]),λ zq=>?_⟩);erw[zq,r0,hc,hE]
    erw[AQ hc aa,_,rfl];rcases hE with⟨e2,e3,_⟩|⟨z,q,_⟩
    .rw[<-e2,ee,ca] at e3;exact A8 (show decide (("asks":Str)="asks")=Vd from e3) ()
    .rw[ee] at q;exact A8 (nT q).1 ck
   .refine iO (by simpa using ca) ?_
    rw[0,x,ad,ae,1,af,ag.meth _ (),(x,db,dg,rs,own),rE,1,M2,λv5 i5=>?_]
    rw[U] at i5;let aS:nL [!kk,ex]=true:=mK.nl aE
    rw[0,_,_,i5,ie.mono s2.tk,Z,aS,ac];refine k _ _ s2 ?_;show AJ [!wd,ed] [!kk,ex]=v_↔_;rw[Qy Z,ee]
    rw[_,λq=>⟨rE,Mn aa hn,.inl ⟨by rw[U,q],?_,λz hz=>ck (nT hz).1⟩⟩,λ⟨r0,hc,hE⟩=>?_]
    .rw[U,q];exact(show decide (kk="asks")=Vd from ud ca)
    .erw[AQ hc aa,_,rfl];rcases hE with⟨e2,_,_⟩|⟨z,q,_⟩
     .rw[U] at e2;exact(D.tup.inj e2).symm
     .exact A8 (nT q).1 ck
inductive Lc (CP:Addr):Sp
 |mk (px ts ta:Addr)(us:List V)(ev:V)(m:Str)(as:List D)(en:D)(qs:List (Str×D))(_:vs= [-px,-ts])(_:H ts=u_ (-[!m,-ta,ev]))(_:H ta=u_ (¬us))(_:L2.IsL H as us)(_:Is H en ev)(_:yn CP H px qs)(_:Q0 qs)(_:∃g,g0D m (qH qs m)=u_ g)(_:∀x>as,NH x)(_:mK en)(_:∀(b:Bool)(H':Hp),ic H H'->(b=v_↔Zx (qH qs m) m as en)->Q (.bl b) H')
def LH:#[C,10,a.Ku,a.KJ,["project","step"],(Lc a.qK)]:=by
 let qM:=#[yD,T];let J7:=#[wM,T,C];let ae:=#[LI,T,C];rw[9,T.nu,Q7]
 erw[h,px,ts,ta,us,ev,m,as,en,qs,rfl,aM,ac,aw,ie,hP,hq,[sm,hg],hA,hE,k];let hs:=uB;erw[id hE,kx,ex,ee,aN,a4,a5];let aa:nL [!kx,ex]=true:=mK.nl aN;let am:dpL [!kx,ex]<=60:=by
  simp![dpL,dp];omega
 erw[id hP,aO,a6,op,a7,hx,_];let aE:=(yY qs).gn m sm hg;erw[j7 hq aE,aP,kk,e0,ao,ax,ag];rw[ao] at k;rw[3,%[#[ZN,pv 1,#[JA,qT #[qJ,(2),Q7.nd] (qT #[qJ,(3),Q7.nd] (qT #[qJ,(4),Q7.nd] yW))]],#[ZN,#[Qh,pv 0,T.Qt,T.ii,qM,#v[pv 2]],#[JA,qT #[qJ,(5),Q7.nd] (qT #[qJ,(6),Q7.nd] yW)]],#[qF,(7),Q7.nd,pv 3],#[qI,#[qm,Qd,pv 5,qi],%[@qI _ _ _ _ _ _ _ _ #[jI,#[qm,Qd,#[qz,qG,T.QZ,uJ,#v[pv 3]],qh],#[Yu,#[qm,#[Wu,1,hr.units],#[qE,qB,#[qE,qB,pv 3,qh],qh],#[qA,#v[qi,pv 6]]]]].pt %[|#[qo,#[JB,#[Qb,Qd,#[qz,qG,T.QZ,uJ,#v[pv 3]],qh],#[jN,#[Qb,#[Xp,1,hr.units],pv 4,#[qA,#v[qi,pv 6]]]]]]] qp,#[qF,(7),Q7.nd,#[QK,Yj,pv 3,#[yf,qh],yi]],#[qF,(6),Q7.nd,#[qE,qB,#[qE,qB,pv 3,qh],qh]]|#[qI,#[qm,yk,pv 6,qR],%[|#[qo,#[JB,#[Qb,#[zw,1,hr.units0],pv 7,#[qA,qd]],#[jN,#[Qb,#[Xp,1,hr.units],pv 4,#[qA,#v[qi,qi]]]]]]],qp]],qp],#[qI,#[Qo,#[Qe,#[qt,J7,T.mw,#v[pv 6]]]],%[|#[qo,#[JB,#[Qb,#[zw,1,hr.units0],pv 7,#[qA,qd]],#[jN,#[Qb,#[Xp,1,hr.units],pv 4,#[qA,#v[qi,qi]]]]]]],qp]|#[qo,#[qt,ae,T.ny,#v[pv 6,pv 2,pv 7,pv 4]]]]]
 rw[8,N1,q1]
 rw[0,ts,0,SqT.of aM,1,_,0,_,0,_,0,1,q1 _ _ ?_];rw[8,N2,q2]
 rw[0,px,aO,0,hx,yj,0,px,m,qs,1,hP,λsv h1 _=>?_];let aF:=h1 aE;rw[ao] at aF;erw[aF,tz,uu,rfl,aQ,w1,r1,rfl,[rfl,_],w2,r2,rfl,aG,aR];rw[show r2= [] from aR,0]
 rw[_,tz,0,SqT.of aQ,1,_,0,_,0,1,q2 _ _ ?_];rw[8,N3,q3]
 rw[0,q3 _ _ ?_];rw[8,N4,q4];let aH:∀(ap:V) (rl:D) (gs:oj D) (ah:o3) (us':oj V) (H1:Hp),ic H H1->Is H1 rl ap->jh rl=Vd->H1 ah=u_ (¬us')->L2.IsL H1 gs us'->(∀x>gs,NH x)->(GoR m rl gs en↔Zx (-[!kk,e0]) m as en)->N4 [u_ (-px),u_ (-ts),u_ (!m),u_ (-ta),u_ ev,u_ (!kk),u_ ap,u_ (-ah)] H1:=by
  intro ap rl gs ah us' H1 s1 ir ad U Z aS aq;refine q4 _ _ ?_;rw[8,N5,q5]
  rw[0,ap,rl,1,ir,λH2 s2=>[0:?_]];cases ak:ye rl with
  |none=>
   refine iY ?_;let ay:GoR m rl gs en->gs= []/\en=flt "rule":=λq=>by
    cases q with
    |lack h0 _ _=>rw[ad,0] at h0|bad _ _ h1 h2=>exact[h1:h2]|run _ _ _ h0 _ _=>rw[ak,0] at h0
   let au:Zx (-[!kk,e0]) m as en↔gs= []/\en=flt "rule":=aq.symm.trans [ay:λq=> .bad ad ak q.1 q.2];cases hu:us' with
   |nil=>
    rw[hu] at U Z;let aA:gs= []:=List.length_eq_zero_iff.mp Z.length.symm
    rw[0,uK _,λt0 h0=>(ah,t0,[],1,1,SqT.of (qf h0 _ _ _ (s2 _ _ U)),SqT.of qg,0,iO rfl ?_)];let m0:=qf h0 (.tup ([]:oj V))
    rw[0,sml rfl,λt1 h1=>?_];let m1:=qf h1 (-[V.str "fault",V.str "rule"]);let i1:=Is.new (ds:= [-"fault",-"rule"]) (_,0,Qi (),_,0,Qi (),1) h1
    let sm:=((s1.trans s2).trans m0).trans m1;let af:=ie.mono sm.tk;rw[ee] at af
    rw[_,_,[-"fault",-"rule"],af,i1,aa,1,am];refine k _ _ sm ?_;show AJ [!kx,ex] [-"fault",-"rule"]=v_↔_;rw[Qy aa,au,ee];exact⟨λq=>⟨aA,by rw[q];rfl⟩,λq=>D.tup.inj q.2⟩
   |cons v r=>
    let aB:¬gs= []:=λz=>by
     have:=↑Z;rw[hu,z,0] at this
    rw[hu] at U
    rw[0,uK _,λt0 h0=>(ah,t0,0,1,SqT.of (qf h0 _ _ _ (s2 _ _ U)),SqT.of qg,0,iI rfl ?_)];exact k Vd _ ((s1.trans s2).trans (qf h0 _)) ⟨λq=>(by rw[q,0]),λq=>A8 (au.mp q).1 aB⟩
  |some rs=>
   refine iU (q5 _ _ ?_);erw[qac ak,hR,aI];rw[aI] at ir
   rw[0,0,0,0,ap,m,ah,us',ev,rs,gs,en,1,ir.mono s2.tk,hR,aP,s2 _ _ U,Z.mono s2.tk,aS,ie.mono (s1.trans s2).tk,hE,λb H3 s3 hb=>k b _ ((s1.trans s2).trans s3) (hb.trans (HU ?_ aq))]
   rw[_,λ⟨r,h1,h2⟩=> .run rs r ad ak h1 h2,λq=>?_];cases q with
   |lack h0 _ _=>rw[ad,0] at h0|bad _ h0 _ _=>rw[ak,0] at h0|run a8 r h0 h1 h2 h3=>
    rw[ak,0] at h1;exact[r:h2:h3]
 rw[0,1,0];by_cases ck:kk="made"
 .erw[ax ck,z,rfl,_];subst ck;erw[aG,rfl,aJ];refine iO (by simp) ?_
  let made:∀{pre:oj D}{rl:D},Hs (-[-"made",!z]) pre rl->pre= [-[-[-"rule",!z],rl]]:=λh0=>by
   rcases h0 with⟨h0,_⟩|⟨z',h0,e⟩
   .injection h0 with h0
    injection h0 with h0 _
    injection h0 with h0
    exact A8 h0 ()
   .rw[h0,0];exact e
  show nA _ _ _ _ H;rw[8,A1,a1];cases as with
  |nil=>
   rw[show us= [] from aw,0]
   rw[0,ta,[],1,.inr (SqT.of ac),1,0,iO (u8 rfl) ?_]
   rw[0,ta,[],1,.inr (SqT.of ac),1,0,iO (u8 rfl) ?_]
   rw[0,0,sml rfl,λt1 h1=>?_];let m1:=qf h1 (-[V.str "stuck",V.str z]);let i1:=Is.new (ds:= [-"stuck",!z]) (_,0,Qi (),_,0,[1:aJ],1) h1
   let af:=ie.mono m1.tk;rw[ee] at af
   rw[_,_,[-"stuck",!z],af,i1,aa,1,am];refine k _ _ m1 ?_;show AJ [!kx,ex] [-"stuck",!z]=v_↔_;rw[Qy aa,ee]
   rw[_,λq=> .wait z rfl rfl (by rw[q];rfl),λq=>?_]
   cases q with
   |wait z' h0 _ h2=>
    rw[h0,0];exact D.tup.inj h2
   |go pre gs rl h0 h1 h2=>
    rw[made h0,0] at h1
  |cons x1 gs=>
   erw[hA x1 ug,u,z',an,rfl,a9];obtain⟨v1,rr,rfl,i1,aK⟩:=(show∃v1 rr,us=v1::rr/\Is H (-[-[!u,!z'],an]) v1/\L2.IsL H gs rr from by
    erw[aw,v1,rr,e,h1,h2,<-(v1,rr,e,h1,h2)])
   erw[i1,tp,up,rfl,aL,x1,bb,rfl,aT,x2,aU,rfl,aC,aV];rw[show aU= [] from aV,0]
   rw[0,ta,0,.inr (SqT.of ac),1,0,iI (ud λq=>by injection q with q;simp![um] at q;omega) ?_]
   rw[0,ta,_,_,0,1,SqT.of ac,qy (j:=0) rfl,tp,_,_,0,1,SqT.of aL,qy (j:=0) rfl]
   rw[0,sml rfl,λt1 h1=>?_];let al:=qf h1 (-[V.str "rule",V.str z]);let j1:=Is.new (ds:= [-"rule",!z]) (_,0,Qi (),_,0,[1:aJ],1) h1
   rw[_,[!u,!z'],[-"rule",!z],aT.mono al.tk,j1,1,1,by simp[dpL,dp],0]
   by_cases cu:AJ [!u,!z'] [-"rule",!z]=v_
   .rw[cu];refine iU (a1 _ _ ?_);let cu:=(Qy (show nL [!u,!z']=v_ from rfl)).mp cu
    rw[cu,0];generalize upd H t1 (-[V.str "rule",V.str z])=H2 at al⊢;rw[8,A2,a2]
    rw[0,0,ta,0,SqT.of (al _ _ ac),λhw=>?_,λ_ pp hp=>a2 _ _ ?_]
    .exfalso;let h1:=hw.1;let h1:HT.sIx ↑(_::rr) 0 (u_ ((1:Nat):Int))=0:=h1;rw[HT.sIx_nat] at h1;rw[um] at h1;omega
    .let hc:nE (V.ref tp::rr) (u_ 1) U_=rr:=by
      rw[show(u_ (1:Int))=u_ ((1:Nat):Int) from rfl,J6 (by rw[um];omega)]
      rfl
     rw[hc];let mp:=al.trans (qf hp (¬rr));let aD:upd H2 pp (¬rr) pp=u_ (¬rr):=qg;generalize upd H2 pp (¬rr)=H3 at mp aD⊢;rw[8,A3,a3]
     rw[0,ta,_,_,0,1,SqT.of (mp _ _ ac),qy (j:=0) rfl,tp,_,_,0,1,SqT.of (mp _ _ aL),qy (j:=1) rfl,a3 _ _ ?_];let aq:GoR m an gs en↔Zx (-[-"made",!z]) m (.tup [-[-"rule",!z],an]::gs) en:=by
      rw[_,λq=> .go [-[-[-"rule",!z],an]] gs an (.inr [z:1:1]) rfl q,λq=>?_];cases q with
      |wait _ _ h0 _=>rw[h0,0]|go pre aW rl h0 h1 h2=>
       rw[made h0,0] at h1;exact h2
     rw[0,1,0];cases ad:jh an with
     |true=>
      have aX:an= .non:=by
       cases an with
       |non=>rfl|_=>rw[ad,0]
      subst aX;rw[show x2= .non from aC,0]
      refine iO (u8 rfl) ?_;let ay:GoR m .non gs en->gs= []/\en=flt "lack":=λq=>by
       cases q with
       |lack h0 h1 h2=>exact[h1:h2]|bad h0 _ _ _=>rw[h0,0]|run _ _ h0 _ _ _=>rw[h0,0]
      have au:=aq.symm.trans [ay:λq=> .lack rfl q.1 q.2];let Z:=aK.mono mp.tk;let U:=aD;generalize rr=us' at Z U ac⊢;cases hu:us' with
      |nil=>
       rw[hu] at U Z;let aA:gs= []:=List.length_eq_zero_iff.mp Z.length.symm
       rw[0,uK _,λt0 h0=>(pp,t0,[],1,1,SqT.of (qf h0 _ _ _ U),SqT.of qg,0,iO rfl ?_)];let m0:=qf h0 (.tup ([]:oj V))
       rw[0,sml rfl,λt1 h1=>?_];let m1:=qf h1 (-[V.str "fault",V.str "lack"]);let i1:=Is.new (ds:= [-"fault",-"lack"]) (_,0,Qi (),_,0,Qi (),1) h1
       have sm:=(mp.trans m0).trans m1;let af:=ie.mono sm.tk;rw[ee] at af
       rw[_,_,[-"fault",-"lack"],af,i1,aa,1,am];refine k _ _ sm ?_;show AJ [!kx,ex] [-"fault",-"lack"]=v_↔_;rw[Qy aa,au,ee];exact⟨λq=>⟨aA,by rw[q];rfl⟩,λq=>D.tup.inj q.2⟩
      |cons v r=>
       have aB:¬gs= []:=λz=>by
        have:=↑Z;rw[hu,z,0] at this
       rw[hu] at U
       rw[0,uK _,λt0 h0=>(pp,t0,0,1,SqT.of (qf h0 _ _ _ U),SqT.of qg,0,iI rfl ?_)];exact k Vd _ (mp.trans (qf h0 _)) ⟨λq=>(by rw[q,0]),λq=>A8 (au.mp q).1 aB⟩
     |false=>
      have aY:x2≠ .non:=Ju aC λz=>by rw[z,0] at ad
      exact iI (ud aY) (aH x2 an gs pp rr _ mp (aC.mono mp.tk) ad aD (aK.mono mp.tk) (λx hx=>hA x (uf _ hx)) aq)
   .rw[Bool.eq_false_iff.mpr cu];refine iY ?_
    rw[0,ta,0,.inr (SqT.of (al _ _ ac)),1,0,iI (ud λq=>by injection q with q;simp![um] at q;omega) (k Vd _ al ⟨λq=>(by rw[q,0]),λq=>?_⟩)]
    exfalso;cases q with
    |wait _ _ h0 _=>rw[h0,0]|go pre aW rl h0 h1 h2=>
     rw[made h0,0] at h1;exact cu ((Qy (show nL [-"rule",!z]=v_ from rfl)).mpr rfl)
 .let aZ:kk="rule":=by
   rcases(ag ck).1 with c'|c'
   .rw[ao,c'] at hg;unfold g0D at hg
    try dsimp only at hg
    rw[A6 rfl,0] at hg
   .exact c'
  let hT:=(ag ck).2;refine iI (by simpa using ck) (aH w2 e0 as ta us H (ic.refl _) aG ?_ ac aw hA ⟨λq=> .go [] as e0 (.inl ⟨by rw[aZ],1⟩) rfl q,λq=>?_⟩)
  .cases e0 with|non=>rw[hT,0]|_=>rfl
  .cases q with
   |wait z h0 _ _=>
    injection h0 with h0
    injection h0 with h0 _
    injection h0 with h0
    exact A8 h0 ck
   |go pre gs rl h0 h1 h2=>
    rcases h0 with⟨h0,rfl⟩|⟨z,h0,_⟩
    .rw[h0,0];rw[tW] at h1;rwa[h1]
    .injection h0 with h0
     injection h0 with h0 _
     injection h0 with h0
     exact A8 h0 ck
abbrev Nv:D->Str
 | .tup (.str z::_)=>z|_=>""
abbrev knd:D->D
 | .tup (.str k::_)=> !k|_=> .non
abbrev Acv:D->D
 | .tup [_,_,e]=>knd e|_=> .non
def Ig (z:Str):∀{ps:Pp},(∀s>ps,mK s.2.2)->(((ps.map stD).filter λd=>decide (Nv d=z)).map Acv= []/\z∉(iX ps).map (·.1))\/∃k r x,((ps.map stD).filter λd=>decide (Nv d=z)).map Acv= .str k::r/\z>(iX ps).map (·.1)/\qH (iX ps) z=-[!k,x]
 | [],_=> .inl ⟨1,λh=>by rw[h,0]⟩|s::ps,h=>by
  let U:iX (s::ps)=(s.1,s.2.2)::iX ps:=rfl;let e2:Nv (stD s)=s.1:=rfl;rw[uA,vR,U];by_cases c:s.1=z
  .erw[h s ug,k,x,e,_];refine .inr (k,((ps.map stD).filter λd=>decide (Nv d=z)).map Acv,x,?_,Af.mpr [_:ug:c],?_)
   .rw[e2,A6 (u8 c),uA]
    congr 1
    show knd s.2.2=_;rw[e]
    rfl
   .unfold qH;rw[vi,show decide ((s.1,s.2.2).1=z)=v_ from u8 c]
    exact e
  .let Z:qH ((s.1,s.2.2)::iX ps) z=qH (iX ps) z:=by
    unfold qH;rw[vi,show decide ((s.1,s.2.2).1=z)=Vd from ud c]
   rw[e2,A4 (by simpa using c),Z,uA]
   rcases Ig z (λs hs=>h s (uf _ hs)) with⟨h1,h2⟩|⟨k,r,x,h1,h2,h3⟩
   .exact .inl [h1:λq=>(Ab.mp q).elim (λq=>c q.symm) h2]
   .exact .inr (k,r,x,h1,uf _ h2,h3)
inductive Ds (CP:Addr):Sp
 |mk (px L:Addr)(us:List V)(qs:List (Str×D))(ps:Pp)(n:Nat)(_:vs= [-px,-L])(_:H L=u_ (.lst us))(_:L2.IsL H (ps.map stD) us)(_:yn CP H px qs)(_:Q0 qs)(_:∀s>ps,ShS n s)(_:↑ps<=1000)(_:∀v H' o,ic H H'->FwR qs ps o->Is H' (fwD o) v->Q v H')
def Ed:#[C,11,a.WH,a.Wi,["project","paper"],(Ds a.qK)]:=by
 let qM:=#[yD,T];let kc:=#[Py,T];let Z:=#[LH,T,C];refine T.mW.F.ok Qs () (λ_ _ _ s H vs Q E hr h=>?_)
 erw[h,px,L,us,qs,ps,n,rfl,hL,aN,hP,hq,ak,hl,k];let hs:=uB;let bw:↑us=↑ps:=by rw[↑aN,u7]
 let bX:=BW ak;rw[3,%[#[qF,(2),Qs.nd,Jd],#[qF,(3),Qs.nd,#[QE,qd]],#[y7,#[Yw,#v[#[qz,qG,T.QZ,uJ,#v[pv 1]]]],#[qJ,(4),Qs.nd],%[#[ZN,#[qE,QP,pv 1,pv 4],#[JA,qT #[qJ,(5),Qs.nd] (qT #[qJ,(6),Qs.nd] (qT #[qJ,2,(7),1,Qs.nd,rfl,GN rfl,_] yW))]],#[qF,(8),Qs.nd,#[Qh,pv 0,T.Qt,T.ii,qM,#v[pv 5]]],@qI _ _ _ _ _ _ _ _ #[jI,#[qm,8,QV,pv 5,pv 3,#[w]],#[jI,#[qm,yk,pv 8,qR],#[Yu,#[qm,Qd,#[qE,qB,pv 8,qh],qi]]]].pt %[|#[qo,#[qA,#v[pv 4,qi]]]] qp,#[y7,#[wq,pv 6],#[JA,qT #[qJ,(9),Qs.nd] (qT #[qJ,(10),Qs.nd] yW)],%[|#[qI,#[qm,O3 hr.units,#[qt,kc,T.mq,#v[pv 0,pv 2,pv 9]],#[qA,#v[Yx,pv 10]]],%[|#[qo,#[qA,#v[pv 4,qi]]]],qp]]],#[qI,#[Qo,#[Qe,#[qt,Z,T.nu,#v[pv 0,#[qE,QP,pv 1,pv 4]]]]],%[|#[qo,#[qA,#v[pv 4,qi]]]],qp],#[Bu,2,["step","end"],(1),[7],(11),12,Qs.nd,rfl,GZ rfl,Md (qj Jb) ["project","paper","told","met","place","name","asks","end","source","ask","answer","ends"],rfl,#[ZD,pv 1],(λ_ _ _ _ _ _=>#[qJ,(0),(show Vu (["step","end"]:oj Str) by decide+kernel)]),(λ_ _ _ _ _ _=>(@DL _ _ _ #[JR,#[qm,Qd,#[qE,#[Jn,1,K,rfl],pv 1,qh],qi],#[Y3,#[qm,Qd,#[qE,#[Jn,1,K,rfl],pv 0,qh],#[qE,#[Jn,1,K,rfl],pv 1,qh]]]].pt)),(λ_ _ _ _ _ _=>#[qE,#[Jn,1,K,rfl],#[qE,#[Jn,1,K,rfl],pv 0,qh],qh]),_,_,_],@qI _ _ _ _ _ _ _ _ #[JR,#[qm,Qd,#[qE,qB,pv 7,qh],qi],@Y3 _ _ _ _ #[jI,#[qm,#[Abh,1,hr.units0],pv 11,#[QE,qd]],#[Yu,#[qm,Qd,#[qE,QP,pv 11,qh],qi]]].pt].pt %[|#[qo,#[qA,#v[pv 4,qi]]]] qp,#[qY,#[YS,uM,vK,vL,Y7,pv 3,#v[pv 5]]]|#[qI,#[qm,Qd,#[qE,qB,pv 7,qh],qi],%[|#[Jm,pv 2,pv 5,#[qE,qB,pv 7,qh]]],qp]]]|#[qo,qR]]]
 rw[8,N1,q1];refine λtd aY=>q1 _ _ ?_;let m1:=qf aY (.dK ([]:oj (Key×V)));let aE:TdL (upd H td (.dK [])) td []:=([],qg,uh _,λz=>⟨⟨λh=>(by rw[h,0]),λh=>by rw[h.1,0]⟩,λx h=>by rw[h,0]⟩)
 generalize upd H td (.dK [])=H1 at m1 aE⊢;rw[8,N2,q2]
 rw[_,uK _,λU aO=>q2 _ _ ?_];let m2:=qf aO (.lst ([]:oj V));let e2:upd H1 U (.lst []) U=u_ (.lst []):=qg;let aZ:=aE.same m2;let s2:=m1.trans m2;let a1:H U=none:=m1.free aO;let a2:td≠U:=by
  erw[aE,vs,h1,_,<-ql h1 aO]
 generalize upd H1 U (.lst [])=H2 at m2 e2 aZ s2⊢;clear aE m1 m2;rw[8,N3,q3]
 rw[0,L,us,1,.inl (SqL.of (s2 _ _ hL)),↑us,1,(),()]
 refine_lift let J_:Nat->L2.St->Hp->Prop:=λi σ H'=>∃(v4 v5 v6 v7 v8 v9 aa aF:om V),σ= [u_ (-px),u_ (-L),u_ (-td),u_ (-U),v4,v5,v6,v7,v8,v9,aa,aF]/\ic H H'/\H' U=u_ (.lst (((ps.take i).map (·.1)).map V.str))/\TdL H' td (iX (ps.take i))/\∀j s,j<i->ps[j]? =u_ s->WdS qs (iX (ps.take j)) (iX ps) s U_;?_
 refine xl (n:=↑us) J_ (_,_,_,_,_,_,_,0,s2,e2,aZ,λj s hj=>A8 hj (T5 j)) ?_ ?_
 .rintro i σ H3 hi ⟨v4,v5,v6,v7,v8,v9,aa,aF,rfl,s3,eM,hT,aG⟩;let e0:(0+(i:Int))=(i:Int):=by omega
  rw[e0];let hi:i<↑ps:=by omega
  obtain⟨y,hy,iy⟩:=(aN.mono s3.tk).get (i:=i) (d:=stD ps[i]) (by rw[uH,ub hi];rfl)
  let al:=ak _ (uN hi);let am:ps[i]? =u_ ps[i]:=ub hi;generalize ps[i]=sp at iy al am;erw[sp,m,as,en];erw[iy,tt,ut,rfl,a3,y1,r1,rfl,[rfl,bY],y2,r2,rfl,i2,y3,r3,rfl,i3,bx];rw[show r3= [] from bx,0]
  erw[i2,ta,ua,rfl,aP,ao];let ao:L2.IsL H3 as ua:=ao;let a4:↑ua=↑as:=↑ao;let a5:=hP.same s3;erw[id a5,bA,bZ,op,b9,bB,_];let bC:∀x>(iX (ps.take i)).map (·.1),mK (qH (iX (ps.take i)) x):=BW λs hs=>ak s (vj hs);let a6:(iX (ps.take i)).map (·.1)=(ps.take i).map (·.1):=by
   unfold iX;rw[uO]
   rfl
  let ag:∀(w:Str) (H':Hp),ic H3 H'->WdS qs (iX (ps.take i)) (iX ps) (m,as,en) (u_ w)->↑w<=10-> [V.int (i:Int),V.str w].length<=Vg/\∀p,H' p=U_->Q (-p) (upd H' p (-[V.int (i:Int),V.str w])):=λw H' s' hW hw=>[sml rfl:λp hp=>k _ _ (u_ (i,w)) ((s3.trans s').trans (qf hp _)) (aG,_,am,hW) (Is.new (ds:= [.int (i:Int),!w]) (_,0,1,_,0,Qi (),1) hp)]
  show nA _ _ _ _ H3;rw[8,B1,b1]
  rw[0,0,L,_,_,0,1,SqL.of (s3 _ _ hL),qy hy,tt,0,SqT.of a3,1,_,0,_,0,_,0,1,b1 _ _ ?_];rw[8,B2,b2]
  rw[0,px,bA,0,bB,yj,0,px,m,qs,1,a5,λsv h1 h2=>b2 _ _ ?_];rw[8,B3,b3];let a7:inV (V.str m) (((ps.take i).map (·.1)).map V.str)=decide (m>(ps.take i).map (·.1)):=Jw _ _
  rw[0,0,U,0,.inl (SqL.of eM),1,jK _,0];by_cases c1:m>(ps.take i).map (·.1)
  .exact iO (by rw[a7,u8 c1];rfl) ⟨0,ag "name" H3 (ic.refl _) (.name (.inl (by rw[a6];exact c1))) ()⟩
  refine iI (by rw[a7,ud c1];rfl) ?_
  let ah:m∉(iX (ps.take i)).map (·.1):=by rw[a6];exact c1
  rw[0,1,0];rcases(pK (m>qs.map (·.1))).symm with c2|c2
  .rw[h2 c2,0];refine iO (by simp) [0:ag "name" H3 (ic.refl _) (.name (.inr ?_)) ()]
   cases hg:g0D m (qH qs m) with
   |none=>rfl|some s=>exact A8 ((yY qs).gn m s hg) c2
  erw[j7 hq c2,_,kk,ca,ap,_,_];let a8:=h1 c2;rw[ap] at a8;erw[a8,tz,uz,rfl,bD,z1,r4,rfl,[rfl,_],_];refine iI (by simp) ?_
  rw[0,tz,_,_,0,1,SqT.of bD,qy (j:=0) rfl,1,0];by_cases c3:kk="leaf"
  .exact iO (by simp[c3]) ⟨0,ag "name" H3 (ic.refl _) (.name (.inr (by show g0D m (qH qs m)=U_;rw[ap];exact WN.mpr c3))) ()⟩
  refine iI (by simpa using c3) (b3 _ _ ?_)
  let hg:∃g,g0D m (qH qs m)=u_ g:=by
   cases hg:g0D m (qH qs m) with
   |none=>rw[ap] at hg;exact A8 (WN.mp hg) c3|some s=>exact[s:1]
  rw[8,B4,b4]
  rw[0,ta,1,[_:SqT.of aP]]
  refine_lift let J2_:Nat->L2.St->Hp->Prop:=λj σ H'=>∃(v9 aa:om V),σ= [u_ (-px),u_ (-L),u_ (-td),u_ (-U),u_ (.int (i:Int)),u_ (!m),u_ (-ta),u_ y3,u_ (-tz),v9,aa,aF]/\ic H3 H'/\∀x>as.take j,RtA qs (iX (ps.take i)) x;?_
  refine xB (K:=K) (a:=ta) (xs:=ua) J2_ (_,0,ic.refl _,λx hx=>by rw[hx,0]) (λj σ H' _ h=>by erw[h,_,_,_,s',_,<-SqT.of (s' _ _ aP)]) ?_ ?_
  .rintro j x σ H4 hx ⟨v9,aa,rfl,s4,hr⟩;let hj:j<↑as:=by rw[<-a4];exact(Ag.mp hx).1
   erw[ao.get (i:=j) (d:=as[j]) (ub hj),x',a9,ix];rw[hx,0] at a9;obtain⟨kd,z,an,e,bE,bb⟩:=al.an _ (uN (show j<(m,as,en).2.1.length from hj))
   let e:as[j]=-[-[!kd,!z],an]:=e;rw[e] at ix;erw[ix.mono s4.tk,t6,w6,rfl,aq,x7,r7,rfl,i7,x8,r8,rfl,i8,bF];rw[show r8= [] from bF,0]
   erw[i7,t7,w7,rfl,bG,x9,r9,rfl,[rfl,cb],xa,ra,rfl,[rfl,bW],bH];rw[show ra= [] from bH,0]
   let bc:=OH (Cr bb).1;let cc:=(Cr bb).2
   rw[_,t6,0,SqT.of aq,1,_,0,_,0,1];let aH:=s3.trans s4
   rw[0,0,0,px,td,t7,kd,z,qs,iX (ps.take i),1,bG,hP.same aH,hq,hT.same s4,bE,bC,λp b d u H5 s5 bI iu bd cd hb=>[0:sml rfl:λt8 h8=>?_]];let m8:=qf h8 (-[V.bl v_,x8])
   rw[_,p,t8,b,v_,d,an,u,x8,1,1,m8 _ _ bI,qg,iu.mono m8.tk,(i8.mono s5.tk).mono m8.tk,bd,bc,(),0]
   let ac:=(s4.trans s5).trans m8;by_cases cr:C6 qs (iX (ps.take i)) kd z an
   .erw[(hb an).mpr cr,rfl,rfl];refine iI (by rw[(JZ bc).mpr rfl];rfl) (_,0,ac,λy hy=>?_)
    rw[uV,ub hj] at hy;rcases Ae.mp hy with hy|hy
    .exact hr y hy
    .rw[Ac.mp hy,0];rw[e];exact Bk.mp cr
   .refine iO ?_ ⟨0,ag "answer" _ ac (.ans ah hg λq=>cr (Bk.mpr (by rw[<-e];exact q _ (uN hj)))) ()⟩
    cases b with
    |false=>rfl|true=>
     cases bJ:eqD d an with
     |false=>rfl|true=>exact A8 ((hb an).mp [1:(JZ bd).mp bJ]) cr
  rintro σ H4 ⟨v9,aa,rfl,s4,ad⟩;rw[a4,vT] at ad;refine b4 _ _ ?_;let aH:=s3.trans s4;rw[8,B5,b5]
  rw[0,0,0,L,_,_,0,1,SqL.of (aH _ _ hL),qy hy,px,tt,ta,ua,y3,m,as,en,qs,1,s4 _ _ a3,s4 _ _ aP,ao.mono s4.tk,i3.mono s4.tk,hP.same aH,hq,hg,λx hx=>Ab3 hq (al.an x hx) (ad x hx),al.en,λb H5 s5 hb=>[0:?_]];let ac:=s4.trans s5;cases b with
  |false=>
   refine iY [0:ag "run" _ ac (.run ah hg ad λq=>?_) ()]
   rw[hb.mpr q,0]
  |true=>
  let au:=hb.mp rfl;refine iU (b5 _ _ ?_);rw[8,B6,b6];let aQ:=s3.trans ac;erw[id al.en,k0,ex,ae,_,_,bf];let ae:en=-[!k0,ex]:=ae;let bg:Is H3 en y3:=i3;rw[ae] at bg;erw[bg,te,ue,rfl,aI,e1,g1,rfl,[rfl,_],aw,g2,rfl,aJ,bK];rw[show g2= [] from bK,0]
  let aR:=ac _ _ aI;let aS:=aJ.mono ac.tk;let bh:=aN.mono aQ.tk
  rw[0,L,1,[_:SqL.of (aQ _ _ hL)],λA0 bL=>?_];refine EB (tl:= [u_ (-te)]) (λd=>decide (k0="stuck")&&decide (aw= .str (Nv d))) Acv (aQ _ _ hL) bh (by rw[u7];omega) bL (λd x H6 R hd s6 ix hR=>?_) (λd x H6 R hd _ s6 ix hR=>?_) λH6 ys s6 eA iA=>?_
  .erw[Af.mp hd,sj,_,rfl];erw[ix,t6,w6,rfl,aq,x7,r7,rfl,[rfl,_],_]
   rw[0,te,_,_,0,1,SqT.of (s6 _ _ aR),qy (j:=0) rfl,1,0];by_cases ck:k0="stuck"
   .erw[bf ck,zz,hz];subst hz;erw[aS,rfl,_];refine iO (by simp[ck]) ?_
    rw[0,t6,_,_,0,1,SqT.of aq,qy (j:=0) rfl,0,te,_,_,0,1,SqT.of (s6 _ _ aR),qy (j:=1) rfl,1,0];let e9:(decide (k0="stuck")&&decide (V.str zz=V.str (Nv (stD sj))))=decide (V.str sj.1=V.str zz):=by
     rw[u8 ck,Vc];exact decide_eq_decide.mpr [λq=>q.symm:λq=>q.symm]
    rwa[e9] at hR
   .refine iI (by simpa using ck) ?_
    rwa[ud ck,TR] at hR
  .erw[Af.mp hd,sj,bM,rfl];erw[(ak sj bM).en,kj,xj,ej,_];erw[ix,t6,w6,rfl,aq,x7,r7,rfl,_,x8,r8,rfl,_,x9,r9,rfl,i9,bN];rw[show r9= [] from bN,0]
   let bo:Is H6 sj.2.2 x9:=i9;rw[ej] at bo;erw[bo,t9,w9,rfl,bO,y9,s9,rfl,[rfl,bP],_]
   rw[0,t6,_,_,0,1,SqT.of aq,qy (j:=2) rfl,t9,_,_,0,1,SqT.of bO,qy (j:=0) rfl,hR _ H6 (ic.refl _) ?_];show Is H6 (knd sj.2.2) _;rw[ej];exact[1:bP]
  refine b6 _ _ ?_;let ax:=ac.trans s6;let ce:=s3.trans ax;rw[8,B7,b7];let aK:(¬∀z,en=Bf z->z>(iX ps).map (·.1)/\Y5 (qH (iX ps) z)=U_)->∀H',ic H3 H'-> [V.int (i:Int),V.str "stuck"].length<=Vg/\∀p,H' p=U_->Q (-p) (upd H' p (-[V.int (i:Int),V.str "stuck"])):=λhb H' s'=>ag "stuck" H' s' (.stk ah hg ad au hb) ()
  let aL:(∀z,en=Bf z->z>(iX ps).map (·.1)/\Y5 (qH (iX ps) z)=U_)->∀H',ic H3 H'->B7 [u_ (-px),u_ (-L),u_ (-td),u_ (-U),u_ (.int (i:Int)),u_ (!m),u_ (-ta),u_ (-te),u_ (-tz),v9,aa,u_ (-A0)] H':=λbQ H7 s7=>by
   refine b7 _ _ ?_;let aT:=s7 _ _ eM;let bR:=s3.trans s7;rw[8,B8,b8]
   rw[5]
   refine(0,.inl [1:_:SqL.of aT],0,U,_,0,1,aT,by rw[u7,u7,uQ];omega,b8 _ _ ?_)
   let aU:Tk H7 (upd H7 U (.lst (((ps.take i).map (·.1)).map V.str++ [V.str m]))):=Tk.updL aT;let aV:ic H (upd H7 U (.lst (((ps.take i).map (·.1)).map V.str++ [V.str m]))):=λb o e=>by
    rw[qk (ql e a1)];exact bR _ _ e
   let aW:upd H7 U (.lst (((ps.take i).map (·.1)).map V.str++ [V.str m])) U=u_ (.lst (((ps.take (i+1)).map (·.1)).map V.str)):=by
    rw[qg,uV,am,uj,uj]
    rfl
   erw[hT.same s7,vs,bS,bp,bq];let af:upd H7 U (.lst (((ps.take i).map (·.1)).map V.str++ [V.str m])) td=u_ (.dK (iM vs)):=by rwa[qk a2]
   let ay:∀z,(z>vs.map (·.1)↔z>(iX (ps.take i)).map (·.1)/\∃x,qH (iX (ps.take i)) z=-[-"said",x])/\∀x,z>(iX (ps.take i)).map (·.1)->qH (iX (ps.take i)) z= .tup [-"said",x]->∃u,iP (iM vs) (Vf z)=u_ u/\Is (upd H7 U (.lst (((ps.take i).map (·.1)).map V.str++ [V.str m]))) x u:=λz=>⟨(bq z).1,λx hz e=>by erw[(bq z).2 x hz e,u,e1,e2,<-[u:e1:e2.mono aU]]⟩
   let aA:upd H7 U (.lst (((ps.take i).map (·.1)).map V.str++ [V.str m])) te=u_ (-[V.str k0,aw]):=aU.tup _ _ (s7 _ _ aI);let bt:Is (upd H7 U (.lst (((ps.take i).map (·.1)).map V.str++ [V.str m]))) ex aw:=(aJ.mono s7.tk).mono aU;generalize upd H7 U (.lst (((ps.take i).map (·.1)).map V.str++ [V.str m]))=H8 at aV aW af ay aA bt⊢;let bu:iX (ps.take (i+1))=iX (ps.take i)++ [(m,en)]:=by
    rw[uV,am];unfold iX;rw[uj]
    rfl
   let aM:∀j s,j<i+1->ps[j]? =u_ s->WdS qs (iX (ps.take j)) (iX ps) s none:=λj s hj aB=>by
    by_cases cj:j<i
    .exact aG j s cj aB
    .have:j=i:=by omega
     subst this;rw[am,0] at aB;exact .good ah hg ad au bQ
   rw[0,te,_,_,0,1,SqT.of aA,qy (j:=0) rfl,1,0];by_cases ck:k0="said"
   .refine iO (by simp[ck]) ?_
    rw[0,te,_,_,0,1,SqT.of aA,qy (j:=1) rfl,0,0,td,0,C4.k (k:=Vf m) af (by unfold iM;rw[u7];have:=BV (ps.take i);rw[uQ] at this;omega)]
    rw[_,_,_,_,_,_,_,_,0,λb o e=>?_,?_,?_,aM]
    .rw[qk (ql e aY)];exact aV _ _ e
    .rwa[qk (U1 a2)]
    .rw[bu,ae,ck];exact TdL.put af bp ay ah bt
   .refine iI (by simpa using ck) (_,_,_,_,_,_,_,0,aV,aW,?_,aM)
    rw[bu];exact TdL.skip (vs,af,bp,ay) ah λx q=>by
     rw[ae] at q;injection q with q
     injection q with q _
     injection q with q
     exact ck q
  rw[0,te,_,_,0,1,SqT.of (s6 _ _ aR),qy (j:=0) rfl,1,0];by_cases ck:k0="stuck"
  .erw[bf ck,zz,hz];let aX:en=Bf zz:=by rw[ae,ck,hz];rfl
   let bT:aw= !zz:=by
    rw[hz] at aS;exact aS.1
   let bU:(λd:D=>decide (k0="stuck")&&decide (aw= .str (Nv d)))=λd=>decide (Nv d=zz):=funext λd=>by
    rw[u8 ck,Vc,bT];exact decide_eq_decide.mpr ⟨λq=>(V.str.inj q).symm,λq=>by rw[q]⟩
   rw[bU] at iA;let bv:∀z,en=Bf z->zz=z:=λz aC=>IV (aX.symm.trans aC);refine iO (by simp[ck]) ?_
   rw[0,uK _,λl9 bV=>?_];let m9:=qf bV (.lst ([]:oj V))
   rw[_,A0,l9,ys,1,1,SqL.of (m9 _ _ eA),SqL.of qg,0];rcases Ig zz (λs aB=>(ak s aB).en) with⟨h1,h2⟩|⟨kz,rz,xz,h1,h2,h3⟩
   .rw[h1] at iA;rw[show ys= [] from iA,0]
    exact iO rfl [0:aK (λq=>h2 (q zz aX).1) _ (ax.trans m9)]
   .rw[h1] at iA;erw[iA,v0,yr,rfl,[rfl,_],_];refine iI rfl ?_
    rw[0,A0,_,_,0,1,SqL.of (m9 _ _ eA),qy (j:=0) rfl,1,0];let aD:Y5 (qH (iX ps) zz)=if kz="said" then u_ xz else none:=by rw[h3];rfl
    by_cases cz:kz="said"
    .refine iO (by simp[cz]) [0:aK (λq=>?_) _ (ax.trans m9)]
     have:=(q zz aX).2;rw[aD,A6 cz,0] at this
    .exact iI (by simpa using cz) (aL (λz aC=>by rw[<-bv z aC];exact⟨h2,by rw[aD,A4 cz]⟩) _ (ax.trans m9))
  .refine iI (by simpa using ck) (aL (λz aC=>?_) _ ax)
   exact A8 (nT (ae.symm.trans aC)).1 ck
 .rintro σ H3 ⟨v4,v5,v6,v7,v8,v9,aa,aF,rfl,s3,eM,hT,aG⟩;refine q3 _ _ (k _ _ U_ s3 (λj s hj=>aG j s (by rw[bw];exact(Ag.mp hj).1) hj) rfl)
abbrev ZZ:oj Str:= ["zz"]
def Acy:∀z>ZZ,nm z=v_/\↑z<=24:=by decide+kernel
inductive MN (K:PySem.W.Frag):Sp
 |mk (q:Addr)(ns:List Int)(_:vs= [-q])(_:SqL K H q (ns.map V.int))(_:↑ns<=63)(_:∀H',Q (.bl v_) H')
def Abm:#[C,18,a.f_law,a.d_law,["script"],(MN K)]:=by
 let zH:=#[LG,T];let Xm:=#[PF,T];let wP:=#[Ea,T];let qL:=#[Jr,T];let Jt:=#[Ej,T];let Zj:=#[Cz,T];let J2:=#[LX,T,C];let zl:=#[LD,T];let U:=#[Ed,T,C];let KN:=#[Eh,T,C];rw[9,T.BP,ji]
 erw[h,q,ns,rfl,hq,bP,k];let hs:=uB;rw[3,%[#[qF,(1),ji.nd,#[qt,zH,T.lW,#v[pv 0]]],#[qF,(2),ji.nd,#[qV,wN,#[Xw,["pair"],[],Ni,#[ZD,pv 1],(λ_ _ _ _ _ _=>#[qJ,(0),(show Vu (["pair"]:oj Str) by decide+kernel)]),(λ_ _ _ _ _ _=>#[qE,#[Jn,1,K,rfl],pv 0,qh])],#[QE,#v[qi]]]],#[qF,(3),ji.nd,#[xD,T.M_Project,Xm,T.m_Project,T.lC,qC,#v[#[Qj,Qk,T.QO,vx,#v[pv 1]]]]],#[qF,(4),ji.nd,#[xD,T.M_Project,Xm,T.m_Project,T.lC,qC,#v[#[Qj,Qk,T.QO,vx,#v[#[qt,zH,T.lW,#v[#[qV,wN,#[QE,#v[#[qV,Q1,#[qt,Jt,T.lX,#v[pv 0,qh]],qh]]],#[QK,qaK,pv 0,#[yf,qh],yi]]]]]]]]],#[qF,(5),ji.nd,#[qt,J2,T.lc,#v[pv 3,pv 2]]],#[qF,(6),ji.nd,#[qt,J2,T.lc,#v[pv 4,#[Xw,["pair"],[],Ni,#[Zb,#[Qx,pv 4,T.Qt,T.lT,Zj]],(λ_ _ _ _ _ _=>#[qJ,(0),(show Vu (["pair"]:oj Str) by decide+kernel)]),(λ_ _ _ _ _ _=>#[qE,#[Jn,1,K,rfl],pv 0,qh])]]]],#[y7,#[Yw,#v[qh]],#[qJ,(7),ji.nd],%[#[qF,(8),ji.nd,#[qt,wP,T.mQ,#v[#[qV,Q1,#[qz,#[sH,1,rfl],T.z_sum,boot_sum,#v[pv 0]],#[qV,Kq,qh,pv 7]],#[qV,Q1,qh,pv 7]]]],#[qF,(9),ji.nd,pv 5],#[y7,#[Yw,#v[#[qV,Q1,qh,#[qV,WZ,pv 7,qh]]]],#[qJ,(10),ji.nd],%[|#[qF,(9),ji.nd,#[qt,zl,T.lz,#v[pv 9,pv 6,pv 8,pv 2]]]]],#[qF,(11),ji.nd,#[qt,U,T.mW,#v[pv 3,pv 9]]],#[qF,(12),ji.nd,#[qt,KN,T.mz,#v[pv 3,#[Qj,Qk,T.QO,vx,#v[pv 9]]]]],@qI _ _ _ _ _ _ _ _ #[jI,#[qm,Ao,#[Qb,yk,pv 12,qR],#[Qb,yk,pv 11,qR]],#[Yu,#[qm,Abe hr.units,pv 12,pv 11]]].pt %[|#[qo,Yx]] qp|@qI _ _ _ _ _ _ _ _ #[JR,#[qm,Zq,pv 12,qR],@Y3 _ _ _ _ #[jI,#[Qo,#[Qe,#[qz,#[qW,2,rfl],T.qS,uZ,#v[pv 12,#[yd,.ty "tuple",T.QO,vx]]]]],#[Yu,#[Qe,#[qz,#[qW,2,rfl],T.qS,uZ,#v[#[qE,qB,pv 12,qh],#[yd,.ty "bool",T.z_bool,boot_bool]]]]]].pt].pt %[|#[qo,Yx]] qp]]|#[qo,Yx]]]
 rw[8,N2,q2]
 rw[0,q,ns,1,hq,λL ps us H1 bt s1 hL ay hok bu aO=>q2 _ _ ?_];let hq:=qao hq s1;clear bt s1 q2;rw[8,N3,q3]
 rw[0,L,1,[_:SqL.of hL],λA0 aP=>?_];refine AbB (tl:= []) hL ay () aP (λp y H' R hp s' hy hR=>?_) λH3 s3 aQ=>?_
 .erw[hy,tp,up,rfl,bv,w1,r1,rfl,[rfl,hz],_,<-(0,tp,_,_,0,1,SqT.of bv,qy (j:=0) rfl,hR _ _ (ic.refl _) [1:hz])]
 rw[_,sml rfl,λl1 aA=>?_];let m3:=qf aA (.lst [V.str "zz"])
 rw[_,A0,l1,_,0,1,m3 _ _ aQ,qg,(by rw[u7,u7];show _+1<=Vg;omega),λnl aR=>q3 _ _ ?_]
 let s4:=(s3.trans m3).trans (qf aR (.lst ((ps.map (·.1)).map V.str++ [V.str "zz"])));obtain⟨zs,aq⟩:∃zs:oj Str,zs=ps.map (·.1)++ZZ:=⟨0⟩;let eN:(upd (upd H3 l1 (.lst [V.str "zz"])) nl (.lst ((ps.map (·.1)).map V.str++ [V.str "zz"]))) nl=u_ (.lst (zs.map V.str)):=by rw[qg,aq,uj];rfl
 let ax:∀z>zs,nm z=v_/\↑z<=24:=λz hz=>by
  rw[aq] at hz;rcases Ae.mp hz with hz|hz
  .erw[Af.mp hz,p,hp,e];have:=aO p hp;rw[e] at this;exact[hok.1.1 z hz:()]
  .exact Acy z hz
 let bw:↑zs<=20:=by
  rw[aq,uw,u7];show _+1<=20;omega
 generalize upd (upd H3 l1 (.lst [V.str "zz"])) nl (.lst ((ps.map (·.1)).map V.str++ [V.str "zz"]))=H4 at s4 eN⊢;let aB:=s4 _ _ hL;let am:=ay.mono s4.tk;let hq:=qao hq s4;clear m3 aQ aP s3 s4 hL ay aq q3 aA aR;rw[8,N4,q4]
 rw[0,L,us,1,.inl [SqL.of aB:λt ht=>?_]];let m1:=qf ht (¬us);intro x dx nx ao aC;let m2:ic (upd H4 t (¬us)) (upd (upd (upd H4 t (¬us)) dx (.own x)) x (.ins a.qK dx [])):=λb ob e=>by
  rwa[qk (ql e nx),qk (ql e ao)]
 let Z:=m1.trans m2
 rw[_,x,dx,t,ps,us,1,qg,m2 _ _ qg,am.mono Z.tk,hok,(),λqs H5 keep hP hT _=>[1:q4 _ _ ?_]]
 let s5:ic H4 H5:=λb ob e=>keep b ob (Z _ _ e) (ql (m1 _ _ e) nx);let bx:=s5 _ _ aB;let aS:=am.mono s5.tk;let hq:=qao hq s5;let aT:=s5 _ _ eN;clear keep m1 m2 Z nx ao aC s5 aB am ht q4 eN;rw[8,N5,q5]
 rw[0,q,ns,(0),1,(),hq,λc=>(_,0,1,sml rfl,λg1 aU=>?_)]
 let k1:=qf aU (.lst [V.int (c+3)])
 rw[0,0,q,0,qao hq k1,λg2 aD=>?_];obtain⟨ms,aV⟩:=AF (ns:=ns) (ys:=nE (ns.map V.int) (u_ 2) U_) λy hy=>by
  unfold nE at hy;exact vF (vj hy)
 let aW:=XU (ns.map V.int) (u_ 2) U_;rw[u7] at aW;let k2:=k1.trans (qf aD (.lst (nE (ns.map V.int) (u_ 2) U_)))
 rw[_,g1,g2,_,0,1,(qf aD _) _ _ qg,qg,(by show 1+_<=Vg;omega),λg3 aX=>?_]
 let k3:=k2.trans (qf aX (.lst ([V.int (c+3)]++nE (ns.map V.int) (u_ 2) U_)))
 rw[_,g3,(c+3)::ms,1,SqL.of (by rw[qg,aV];rfl),λtl rs ws H6 _ aY aZ a1 a2 bA _=>?_]
 let s6:=k3.trans aY
 rw[_,tl,ws,1,.inl [SqL.of aZ:λt ht=>?_]];let m1:=qf ht (¬ws);intro x2 aE nx ao aC;let m2:ic (upd H6 t (¬ws)) (upd (upd (upd H6 t (¬ws)) aE (.own x2)) x2 (.ins a.qK aE [])):=λb ob e=>by
  rwa[qk (ql e nx),qk (ql e ao)]
 let Z:=m1.trans m2
 rw[_,x2,aE,t,rs,ws,1,qg,m2 _ _ qg,a1.mono Z.tk,a2,(),λaa H7 keep a3 ak _=>[1:q5 _ _ ?_]]
 let s7:ic H5 H7:=λb ob e=>keep b ob (Z _ _ (s6 _ _ e)) (ql (m1 _ _ (s6 _ _ e)) nx);let hP:=hP.same s7;let hq:=qao hq s7;let aF:=s7 _ _ aT;clear keep m1 m2 Z nx ao aC s7 s6 bx aS ht q5 aZ a1 a2 bA hok bu aO aT aY k1 k2 k3 aV aW aU aD aX;rw[8,N6,q6]
 rw[0,0,x,nl,zs,qs,1,aF,λz hz=>(ax z hz).1,hP,hT,λls u1 E1 H8 _ s8 a4 aG aH=>q6 _ _ ?_];rw[8,bQ,a5];let af:=a3.same s8;erw[id af,bB,bR,oq,bS,a6,_]
 rw[0,0,x2,bB,0,a6,CD,x2,aa,1,af,ak,λtv H9 s9 bC=>?_];erw[bC,tq,uq,rfl,aI,aJ];let a7:↑uq=↑aa:=by rw[↑aJ,u7]
 rw[_,tq,uq,1,SqT.of aI,λbD A9 aK=>?_];refine Abz (tl:= []) (λi ys H'=>ys=((aa.take i).map (·.1)).map V.str/\ic H9 H') aI bD [1:qf aK _] (λi ys H' h=>h.2) ?_ ?_
 .rintro i y ys H4 w0 hy ⟨rfl,s4⟩ bE;let hi:i<↑aa:=by rw[<-a7];exact(Ag.mp hy).1
  obtain⟨y',a8,iy⟩:=aJ.get (i:=i) (d:=prD aa[i]) (by rw[uH,ub hi];rfl)
  rw[hy,0] at a8;erw[iy.mono s4.tk,tt,ut,rfl,bF,y1,r1,rfl,[rfl,_],_]
  try dsimp![YG,nK,Gx]
  rw[A6 rfl]
  rw[0,tt,_,_,0,1,SqT.of bF,qy (j:=0) rfl,bE,⟨0⟩,?_,λb o e=>?_]
  .rw[uV,ub hi,uj,uj]
   rfl
  .rw[qk (ql e aK)];exact s4 _ _ e
 rintro ys Ha ⟨rfl,sa⟩ eA;rw[a7,vT] at eA;let aL:=s9.trans sa
 rw[_,x2,A9,aa.map (·.1),aa,1,eA,λz hz=>ak.1.1.1 z hz,af.same aL,ak,λlb u2 E2 H0 _ a9 bG bb aM=>a5 _ _ ?_];let l1:=aH.len hT;let l2:=aM.len ak;let bT:↑u1=↑E1:=by rw[↑aG,u7]
 let bU:↑u2=↑E2:=by rw[↑bb,u7]
 let au:=aL.trans a9;let ag:=s8.trans au;let eS:=au _ _ a4;let iS:=aG.mono au.tk;let bH:∀s>E1,ShS 0 s:=λs h=>(sV hT (aH.1 s h)).2.2;let hB:∀s>E2,ShS 0 s:=λs h=>(sV ak (aM.1 s h)).2.2;let hP:=hP.same ag;let hq:=qao hq ag;let bI:=ag _ _ aF;clear ag a3 ak s8 s9 a4 aG aH aM q6 a5 aF eA aI aJ af a6 au aL sa a9 aK;rw[8,N7,q7]
 rw[_,(12),1,(),()]
 refine_lift let J_:Nat->L2.St->Hp->Prop:=λi σ H'=>∃(v7 v8 v9 ac ad ae:om V),σ= [u_ (-q),u_ (-L),u_ (-nl),u_ (-x),u_ (-x2),u_ (-ls),u_ (-lb),v7,v8,v9,ac,ad,ae]/\ic H0 H';?_
 refine xl (n:=12) J_ (_,_,_,_,_,0,ic.refl _) ?_ ?_
 .rintro i σ H1 hi ⟨v7,v8,v9,ac,ad,ae,rfl,s1⟩;let e0:(0+(i:Int))=(i:Int):=by omega
  rw[e0];show nA _ _ _ _ H1;rw[8,B1,b1]
  rw[0,q,ns,1,qao hq s1,0,_,0,1,(.inl [():()]),_,0,1,0,_,0,1,_,0,(),(),λp H2 hp s2 P2=>b1 _ _ ?_]
  let ap:=s1.trans s2;let bc:=ap _ _ bI;let bd:=ap _ _ bG;let bJ:=P2.ne_strs bc;let bf:=bb.mono ap.tk;let bK:=qaI P2 bd bf;rw[8,B2,b2]
  rw[0,b2 _ _ ?_];rw[8,B4,b4];obtain⟨m,hm,bV⟩:∃m:Nat,1+(i:Int)%3=(m:Int)/\m<=3:=[(1+(i:Int)%3).toNat:():()]
  rw[5]
  refine(0,_,0,1,by show(0:Int)<3;decide,_,0,1,?_)
  rw[hm]
  rw[_,m,1,(),()]
  refine_lift let J3_:Nat->L2.St->Hp->Prop:=λj σ H'=>∃(LQ:o3) (us:oj V) (pp:Pp) (ac ad ae:om V),σ= [u_ (-q),u_ (-L),u_ (-nl),u_ (-x),u_ (-x2),u_ (-ls),u_ (-lb),u_ (.int (i:Int)),u_ (-p),u_ (-LQ),ac,ad,ae]/\iK p H2 H'/\mn H' p/\H' LQ=u_ (.lst us)/\L2.IsL H' (pp.map stD) us/\(∀s>pp,ShS j s)/\↑pp<=120+j;?_
  refine xl (n:=m) J3_ (ls,u1,E1,_,_,0,iK.of (ic.refl _),P2,ap _ _ eS,iS.mono ap.tk,bH,()) ?_ ?_
  .rintro j σ H5 hj ⟨LQ,al,aw,ac,ad,ae,rfl,K5,P5,e5,i5,ah,bg⟩
   rw[0,0,0,0,LQ,lb,p,nl,al,u2,aw,E2,zs,j,1,e5,i5,K5 _ _ bd bK,bf.mono (P2.tk P5 K5),ah,hB,P5,K5 _ _ bc bJ,λz hz=>(ax z hz).2,bw,(),(),(),λL' us' ps' H6 K6 P6 _ e6 i6 h6 l6=>?_]
   exact(L',us',ps',_,_,0,K5.trans K6,P6,e6,i6,h6,())
  .rintro σ H5 ⟨LQ,al,aw,ac,ad,ae,rfl,K5,P5,e5,i5,ah,bg⟩;refine b4 _ _ ?_;let bL:ic H1 H5:=K5.same s2 hp;let bh:=s1.trans bL;rw[8,B5,b5]
   rw[0,0,x,LQ,al,qs,aw,m,1,e5,i5,hP.same bh,hT,ah,(),λwv H6 ow s6 hF iw=>b5 _ _ ?_]
   rw[8,B6,b6];let bo:=bh.trans s6
   rw[0,0,LQ,al,1,.inl [SqL.of (s6 _ _ e5):λt ht=>?_]];let m7:=qf ht (¬al)
   rw[_,x,t,al,qs,aw,m,1,qg,(i5.mono s6.tk).mono m7.tk,(hP.same bo).same m7,hT,ah,(),λfv H8 of s8 hF' iv=>b6 _ _ ?_]
   let bp:=m7.trans s8;let bq:=bo.trans bp;rw[hF.one hF',0];let aN:=iw.mono bp.tk;rw[8,B7,b7];cases ow with
   |none=>
    rw[show wv= .non from aN,0]
    rw[show fv= .non from iv,0]
    rw[0,1,0,1,1,0,iI (by simp) ?_]
    rw[0,0,.non rfl rfl [0:iI rfl (b7 _ _ ?_)]];exact(0,1,0,iI (by simp) (_,_,_,_,_,0,bq))
   |some bM=>
    erw[bM,ni,wi];erw[id aN,t1,bW,rfl,bX,aA];erw[id iv,t2,bY,rfl,bN,bO]
    rw[0,1,0,1,1,0,iI (by simp) ?_]
    rw[0,0,.row [.int (ni:Int),!wi] iv aN rfl (by simp[dpL,dp]) [0:iI rfl (b7 _ _ ?_)]]
    rw[0,1,0,iO (by simp) ?_]
    rw[0,-t2,"tuple",tyD (fwD (u_ (ni,wi))),zp (fwD (u_ (ni,wi))),1,iv.ty,JW _,0];refine iU ?_;erw[bO,w1,r1,rfl,rfl,_]
    rw[0,t2,_,_,0,1,SqT.of bN,qy (j:=0) rfl,.int (ni:Int),"bool",tyD (.int (ni:Int)),Vd,1,(show Is H8 (.int (ni:Int)) (.int (ni:Int)) from rfl).ty,ED (b:=Vd) () () (),0]
    exact iU (_,_,_,_,_,0,bq)
 .rintro σ H1 ⟨v7,v8,v9,ac,ad,ae,rfl,s1⟩;exact q7 _ _ (k H1)
end
def AcE {K:o0}{h:o8}{mg:Str->om o6}(X:K.In h)(G:h.Ns VA mg){Z aa U ac f1 f2 f3 f4 f5 f6 f7 f8 f9 aV aW aX aY aZ a1 a2 a3 a4 a5 a6 a7 a8 a9 bb bc bd bf bg bh bo bp bq bt bu bv bw bx bA bB bC bD bE bF bG bH bI bJ bK bL bM bN bO bP bQ bR bS bT bU bV bW bX bY bZ b3 b4 b5 b6 b7 b8 b9 ca cb cc cd ce cf cg ch ci cj ck cm cn cp cq cr cs cu cv cw:o3}{t1 t2 t3 t4 t5 t6 t7 t8 t9 cx cy:Tok}
  (aL:#[K,"Machine"]=u_ (u_ (-Z))) (aM:Cls K Z) (aC:PySem.W.makesIn K Z=v_/\PySem.W.keepIn K (-Z)=v_)
  (aP:#[K,"Going"]=u_ (u_ (-aa))) (aQ:Cls K aa) (aK:PySem.W.makesIn K aa=v_/\PySem.W.keepIn K (-aa)=v_)
  (aE:#[K,"PlainOrder"]=u_ (u_ (-U))) (aF:Cls K U) (ag:PySem.W.makesIn K U=v_/\PySem.W.keepIn K (-U)=v_)
  (aN:#[K,"Project"]=u_ (u_ (-ac))) (aO:Cls K ac) (aD:PySem.W.makesIn K ac=v_/\PySem.W.keepIn K (-ac)=v_)
  (h1:FZg K "is_text" W4 f1)
  (h2:FZg K "is_tree" zg f2)
  (h3:FZg K "is_name" WF f3)
  (h4:FZg K "is_pair" wT f4)
  (h5:FZg K "is_row_of_names" Yi f5)
  (h6:FZg K "is_answer" X0 f6)
  (h7:FZg K "part_of" WK f7)
  (h8:FZg K "pieces_of" XS f8)
  (h9:FZg K "row_of" wE f9)
  (h10:FZg K "read_lines" J8 aV)
  (h11:FZg K "rule_rows" XE aW)
  (h12:FZg K "bad_line" zZ aX)
  (h13:FZg K "is_rule" Wx aY)
  (h14:FZg K "text_made" XN aZ)
  (cz:FZg K "self_made" XZ a1)
  (cA:FZg K "copy_made" Xz a2)
  (cB:FZg K "row_made" Zg a3)
  (cC:FZg K "put_made" Zv a4)
  (cD:FZg K "join_made" XL a5)
  (cE:FZg K "first_made" J3 a6)
  (cF:FZg K "rest_made" XB a7)
  (cG:FZg K "size_made" Xv a8)
  (cH:FZg K "cut_made" ZK a9)
  (cI:FZg K "glue_made" XF bb)
  (cJ:FZg K "is_jump_taken" jd bc)
  (cK:FZg K "asked_or_fault" YE bd)
  (aR:FZm K Z "__init__" "Machine.__init__" jC bf)
  (cL:FZm K Z "now" "Machine.now" Jo bg)
  (cM:FZm K Z "answer" "Machine.answer" YH bh)
  (cN:FZm K Z "asked" "Machine.asked" Y4 bo)
  (cO:FZm K Z "go_on" "Machine.go_on" Y9 bp)
  (cP:FZm K Z "is_waiting" "Machine.is_waiting" yo bq)
  (cQ:FZm K Z "do_row" "Machine.do_row" YC bt)
  (cR:FZm K Z "hold" "Machine.hold" jy bu)
  (cS:FZg K "asks_that_stand" Yk bv)
  (cT:FZg K "does" DD bw)
  (aS:FZm K aa "__init__" "Going.__init__" xm bx)
  (cU:FZm K aa "begin" "Going.begin" Js bA)
  (cV:FZm K aa "look" "Going.look" JT bB)
  (cW:FZm K aa "wanted" "Going.wanted" jB bC)
  (cX:FZm K aa "take" "Going.take" xJ bD)
  (cY:FZm K aa "full" "Going.full" JV bE)
  (aT:FZm K U "__init__" "PlainOrder.__init__" Yb bF)
  (cZ:FZm K U "begin_anew" "PlainOrder.begin_anew" Q6 bG)
  (c0:FZm K U "go_through" "PlainOrder.go_through" Q8 bH)
  (c1:FZm K U "enter" "PlainOrder.enter" y6 bI)
  (c2:FZm K U "settle" "PlainOrder.settle" yz bJ)
  (c3:FZm K U "runner" "PlainOrder.runner" yE bK)
  (c4:FZm K U "leave" "PlainOrder.leave" yS bL)
  (c5:FZm K U "go_on" "PlainOrder.go_on" yR bM)
  (c6:FZm K U "answer_yet" "PlainOrder.answer_yet" Q3 bN)
  (c7:FZg K "answer_at_once" YA bO)
  (c8:FZg K "has_run" Wo bP)
  (c9:FZg K "answer_by" XO bQ)
  (da:FZg K "check_name" J4 bR)
  (de:FZg K "check_names" Jl bS)
  (dh:FZg K "order_from" JU bT)
  (di:FZg K "order_over" J5 bU)
  (dj:FZg K "full_run" Ze bV)
  (dk:FZg K "met_by" qab bW)
  (dl:FZg K "first_wrong" Jh bX)
  (dm:FZg K "first_ends" JP bY)
  (dq:FZg K "wrong_word" jp bZ)
  (dt:FZg K "is_right_answer" Yc b3)
  (dv:FZg K "is_full_run" Je b4)
  (dw:FZg K "is_run_of" XX b5)
  (dy:FZg K "is_source" XT b6)
  (aU:FZm K ac "__init__" "Project.__init__" Yq b7)
  (dz:FZm K ac "sources" "Project.sources" Yl b8)
  (dA:FZm K ac "source_of" "Project.source_of" yF b9)
  (dB:FZm K ac "looked_up" "Project.looked_up" Q5 ca)
  (dC:FZg K "longest_row" Ja cb)
  (dD:FZg K "_law_cell_at" Jx cc)
  (dE:FZg K "_law_pot" wL cd)
  (dF:FZg K "_law_take" ZA ce)
  (dG:FZg K "_law_word" Zo cf)
  (dH:FZg K "_law_line" xM cg)
  (dI:FZg K "_law_rule" xS ch)
  (dJ:FZg K "_law_maker" XW ci)
  (dL:FZg K "_law_leaf" xQ cj)
  (dM:FZg K "_law_source" JY ck)
  (dN:FZg K "_law_sources" Jv cm)
  (dO:FZg K "_law_all_steps" je cn)
  (dP:FZg K "_law_answered" jD cp)
  (dQ:FZg K "_law_goes" ZG cq)
  (dR:FZg K "_law_runs" ZC cr)
  (dS:FZg K "_law_wrong" Jb cs)
  (dU:FZg K "_law_step_spoilt" Yd cu)
  (dV:FZg K "_law_paper_spoilt" yJ cv)
  (dW:FZg K "law" OG cw)
  (ay:#[K,Z,"rows"])
  (aA:#[K,Z,"rule"])
  (aG:#[K,Z,"own"])
  (ap:#[K,Z,"boxes"])
  (aq:#[K,Z,"place"])
  (aB:#[K,Z,"done"])
  (au:#[K,Z,"given"])
  (aw:#[K,Z,"there"])
  (aI:#[K,aa,"name"])
  (aH:#[K,aa,"order"])
  (ax:#[K,aa,"made_by"])
  (al:#[K,aa,"rule_asks"])
  (ao:#[K,aa,"rule_run"])
  (aJ:#[K,aa,"end"])
  (ad:#[K,U,"given_project"])
  (ah:#[K,U,"stack"])
  (ae:#[K,U,"under_way"])
  (af:#[K,U,"full_runs"])
  (ak:#[K,U,"found"])
  (am:#[K,ac,"by_name"])
  (g1:#[K,"MOST_SIGNS"]=u_ (u_ (.int 300 t1)))
  (g2:#[K,"MOST_PARTS"]=u_ (u_ (.int 40 t2)))
  (g3:#[K,"MOST_SIZE"]=u_ (u_ (.int 600 t3)))
  (g4:#[K,"MOST_DEPTH"]=u_ (u_ (.int 12 t4)))
  (g5:#[K,"MOST_NAME_SIGNS"]=u_ (u_ (.int 24 t5)))
  (g6:#[K,"LETTERS"]=u_ (u_ (.str "abcdefghijklmnopqrstuvwxyz" t6)))
  (g7:#[K,"NAME_SIGNS"]=u_ (u_ (.str "abcdefghijklmnopqrstuvwxyz0123456789./" t7)))
  (g8:#[K,"PERCENT"]=u_ (u_ (.int 37 t8)))
  (g9:#[K,"MOST_LINES"]=u_ (u_ (.int 40 t9)))
  (dX:#[K,"MOST_DONE"]=u_ (u_ (.int 300 cx)))
  (dY:#[K,"MOST_NAMES"]=u_ (u_ (.int 60 cy)))
  (zz:∀x>(["ord","len","isinstance","str","tuple","all","int","range","zip","dict","enumerate","sorted","abs","min","sum","list","bool"]:oj Str),PySem.W.nsIn K VA x=u_ U_):∃a,Tx K mg a:=by
 rw[6,d1,F1,Qf,h1,["value"]];rw[6,d2,F2,Qf,h2,["value"]];rw[6,d3,F3,Qf,h3,["value"]];rw[6,d4,F4,Qf,h4,["value"]];rw[6,d5,F5,Qf,h5,["tree"]];rw[6,d6,F6,Qf,h6,["ask","answer"]];rw[6,d7,F7,Qf,h7,["kind","piece","count"]];rw[6,d8,F8,Qf,h8,["line","form"]];rw[6,d9,F9,Qf,h9,["line","count"]];rw[6,dZ,d0,Qf,h10,["value"]];rw[6,ea,eb,Qf,h11,["tree"]];rw[6,ec,ef,Qf,h12,["tree"]];rw[6,eg,eh,Qf,h13,["value"]];rw[6,ei,ej,Qf,h14,["boxes","own","parts"]];rw[6,ek,el,Qf,cz,["boxes","own","parts"]];rw[6,em,eo,Qf,cA,["boxes","own","parts"]];rw[6,eq,er,Qf,cB,["boxes","own","parts"]];rw[6,et,eu,Qf,cC,["boxes","own","parts"]];rw[6,ey,ez,Qf,cD,["boxes","own","parts"]];rw[6,eA,eB,Qf,cE,["boxes","own","parts"]];rw[6,eC,eD,Qf,cF,["boxes","own","parts"]];rw[6,eE,eF,Qf,cG,["boxes","own","parts"]];rw[6,eG,eH,Qf,cH,["boxes","own","parts"]];rw[6,eI,eJ,Qf,cI,["boxes","own","parts"]];rw[6,eK,eL,Qf,cJ,["boxes","word","parts"]];rw[6,eM,eN,Qf,cK,["word","held"]];obtain⟨eO,eP⟩:=Ya aR ["self","rule","own"] (by rfl');obtain⟨eQ,eR⟩:=Ya cL ["self"] (by rfl');obtain⟨eS,eT⟩:=Ya cM ["self","tree"] (by rfl');obtain⟨eU,eV⟩:=Ya cN ["self"] (by rfl');obtain⟨eW,eX⟩:=Ya cO ["self"] (by rfl');obtain⟨eY,eZ⟩:=Ya cP ["self"] (by rfl');obtain⟨e1,e2⟩:=Ya cQ ["self","row"] (by rfl');obtain⟨e3,e4⟩:=Ya cR ["self","box","tree"] (by rfl');rw[6,e5,e6,Qf,cS,["machine","asks"]];rw[6,e7,e8,Qf,cT,["rule","own","run"]];obtain⟨e9,fa⟩:=Ya aS ["self","name","source","order"] (by rfl');obtain⟨fb,fc⟩:=Ya cU ["self","rule"] (by rfl');obtain⟨fe,ff⟩:=Ya cV ["self"] (by rfl');obtain⟨fg,fh⟩:=Ya cW ["self"] (by rfl');obtain⟨fi,fj⟩:=Ya cX ["self","answer"] (by rfl');obtain⟨fm,fo⟩:=Ya cY ["self"] (by rfl');obtain⟨fq,ft⟩:=Ya aT ["self","project"] (by rfl');obtain⟨fu,fv⟩:=Ya cZ ["self","project"] (by rfl');obtain⟨fw,fx⟩:=Ya c0 ["self","name"] (by rfl');obtain⟨fy,fz⟩:=Ya c1 ["self","name"] (by rfl');obtain⟨fA,fB⟩:=Ya c2 ["self","going"] (by rfl');obtain⟨fC,fD⟩:=Ya c3 ["self","rule","own"] (by rfl');obtain⟨fE,fF⟩:=Ya c4 ["self","going"] (by rfl');obtain⟨fG,fH⟩:=Ya c5 ["self","going"] (by rfl');obtain⟨fI,fJ⟩:=Ya c6 ["self","name"] (by rfl');rw[6,fK,fL,Qf,c7,["source"]];rw[6,fM,fN,Qf,c8,["source"]];rw[6,fO,fP,Qf,c9,["end"]];rw[6,fQ,fR,Qf,da,["name"]];rw[6,fS,fT,Qf,de,["names"]];rw[6,fU,fV,Qf,dh,["project","name"]];rw[6,fW,fX,Qf,di,["project","names"]];rw[6,fY,fZ,Qf,dj,["project","name"]];rw[6,f0,gb,Qf,dk,["project","name"]];rw[6,gc,ge,Qf,dl,["project","paper"]];rw[6,gf,gg,Qf,dm,["paper"]];rw[6,gh,gj,Qf,dq,["project","ends","earlier","step"]];rw[6,gk,gl,Qf,dt,["project","earlier","ask","answer"]];rw[6,gm,gq,Qf,dv,["source","name","asks","end"]];rw[6,gr,gu,Qf,dw,["rule","own","asks","end"]];rw[6,gv,gw,Qf,dy,["value"]];obtain⟨gx,gy⟩:=Ya aU ["self","sources"] (by rfl');obtain⟨gz,gA⟩:=Ya dz ["self"] (by rfl');obtain⟨gB,gC⟩:=Ya dA ["self","name"] (by rfl');obtain⟨gD,gE⟩:=Ya dB ["self","ask"] (by rfl');rw[6,gF,gG,Qf,dC,["names"]];rw[6,gH,gI,Qf,dD,["script","k"]];rw[6,gJ,gK,Qf,dE,["cell","salt"]];rw[6,gL,gM,Qf,dF,["pot","many"]];rw[6,gN,gO,Qf,dG,["pot","names"]];rw[6,gP,gQ,Qf,dH,["pot","names","many","k"]];rw[6,gR,gS,Qf,dI,["pot","names"]];rw[6,gT,gU,Qf,dJ,["pot","names"]];rw[6,gW,gX,Qf,dL,["pot","names"]];rw[6,gY,gZ,Qf,dM,["pot","names"]];rw[6,hb,hc,Qf,dN,["script"]];rw[6,he,hf,Qf,dO,["project","names"]];rw[6,hg,hh,Qf,dP,["project","told","ask"]];rw[6,hj,hk,Qf,dQ,["rule","name","asks","end"]];rw[6,hl,ho,Qf,dR,["project","step"]];rw[6,hp,hq,Qf,dS,["project","paper"]];rw[6,hr,hs,Qf,dU,["step","pot","names"]];rw[6,ht,hu,Qf,dV,["steps","others","pot","names"]];rw[6,hv,hw,Qf,dW,["script"]];let z:∀x>(["ord","len","isinstance","str","tuple","all","int","range","zip","dict","enumerate","sorted","abs","min","sum","list","bool"]:oj Str),mg x=none:=λx hx=>PySem.W.mg_none_of X G (zz x hx);simp![uF,uX,uR,forall_eq_or_imp,forall_eq] at z;erw[z,z1,z2,z3,z4,z5,z6,z7,z8,z9,hy,hA,hB,hC,hD,hE,hF,hG,<-[(f1,d1,f2,d2,f3,d3,f4,d4,f5,d5,f6,d6,f7,d7,f8,d8,f9,d9,aV,dZ,aW,ea,aX,ec,aY,eg,aZ,ei,a1,ek,a2,em,a3,eq,a4,et,a5,ey,a6,eA,a7,eC,a8,eE,a9,eG,bb,eI,bc,eK,bd,eM,bf,eO,bg,eQ,bh,eS,bo,eU,bp,eW,bq,eY,bt,e1,bu,e3,bv,e5,bw,e7,bx,e9,bA,fb,bB,fe,bC,fg,bD,fi,bE,fm,bF,fq,bG,fu,bH,fw,bI,fy,bJ,fA,bK,fC,bL,fE,bM,fG,bN,fI,bO,fK,bP,fM,bQ,fO,bR,fQ,bS,fS,bT,fU,bU,fW,bV,fY,bW,f0,bX,gc,bY,gf,bZ,gh,b3,gk,b4,gm,b5,gr,b6,gv,b7,gx,b8,gz,b9,gB,ca,gD,cb,gF,cc,gH,cd,gJ,ce,gL,cf,gN,cg,gP,ch,gR,ci,gT,cj,gW,ck,gY,cm,hb,cn,he,cp,hg,cq,hj,cr,hl,cs,hp,cu,hr,cv,ht,cw,hv,Z,aa,U,ac):(F1,F2,F3,F4,F5,F6,F7,F8,F9,d0,eb,ef,eh,ej,el,eo,er,eu,ez,eB,eD,eF,eH,eJ,eL,eN,eP,eR,eT,eV,eX,eZ,e2,e4,e6,e8,fa,fc,ff,fh,fj,fo,ft,fv,fx,fz,fB,fD,fF,fH,fJ,fL,fN,fP,fR,fT,fV,fX,fZ,gb,ge,gg,gj,gl,gq,gu,gw,gy,gA,gC,gE,gG,gI,gK,gM,gO,gQ,gS,gU,gX,gZ,hc,hf,hh,hk,ho,hq,hs,hu,hw,aM,(aC.1,aR.1,aR.2.1,aC.2),uS X G aL,ay,aA,aG,ap,aq,aB,au,aw,aQ,(aK.1,aS.1,aS.2.1,aK.2),uS X G aP,aI,aH,ax,al,ao,aJ,aF,(ag.1,aT.1,aT.2.1,ag.2),uS X G aE,ad,ah,ae,af,ak,aO,(aD.1,aU.1,aU.2.1,aD.2),uS X G aN,am,[_:uS X G g1],[_:uS X G g2],[_:uS X G g3],[_:uS X G g4],[_:uS X G g5],[_:uS X G g6],[_:uS X G g7],[_:uS X G g8],[_:uS X G g9],[_:uS X G dX],[_:uS X G dY],z1,z2,z3,z4,z5,z6,z7,z8,z9,hy,hA,hB,hC,hD,hE,hF,hG)]]
variable {h:o8}{mg:Str->om o6}{f:o3}{x:Str}
def mk1 (X:K.In h)(G:h.Ns VA mg){U:o3}{y:Str}(z:∃m,PySem.W.nsIn K VA y=u_ (u_ (-m))/\PySem.W.nsIn K U x=u_ (u_ (-m)))(e:mg y=u_ (-f)):PySem.W.nsIn K U x=u_ (u_ (-f)):=by
 erw[z,m,h1,h2];have:=(uS X G h1).symm.trans e;injection this with this
 injection this with this
 rw[<-this];exact h2
abbrev MKP:oj (Str×Str):= [("text","text_made"),("self","self_made"),("copy","copy_made"),("row","row_made"),("put","put_made"),("join","join_made"),("first","first_made"),("rest","rest_made"),("size","size_made"),("cut","cut_made"),("glue","glue_made")]
abbrev AbI (e:GH):om Str:=match e.key with
 | .str x _=>u_ x|_=>U_
variable {a:o3}
set_option tactic.hygienic true in
def KR {es:Array GH}(hl:K.lookup a=u_ (.type "dict",U_,.dict es n,#[]))(hk:es.toList.map AbI=FRM.map λx=>u_ x.1)(hz:Xn z=U_):PySem.W.nsIn K a z=u_ none:=by
 let h1:∀e>es.toList,∃x t,e.key= .str x t/\x≠z:=by
  intro e Z;let hm:AbI e>es.toList.map AbI:=Af.mpr [e:Z:1];rw[hk] at hm;erw[Af.mp hm,x,hx,ex];let U:=WY hz x hx;unfold AbI at ex;split at ex
  .rename_i y t hy
   rw[ex,0];exact(_,_,hy,U)
  .rw[ex,0]
 unfold PySem.W.nsIn;rw[hl]
 try dsimp only
 let f1:es.toList.find? (λe=>e.key.isStr z)=none:=by
  rw[Ut];intro e Z;erw[h1 e Z,x,t,hx,U];rw[hx];exact λq=>U (ui q)
 let f2:es.toList.any (·.refKey)=false:=by
  rw[Te];intro e Z;erw[h1 e Z,x,t,hx,U];unfold Ru;rw[hx];exact uc
 rw[f1,f2]
 rfl
def Adm {w:og}{K:o0}{h:o8}{mg:Str->om o6}{a:Ad}(T:Tx K mg a)(X:K.In h)(G:h.Ns VA mg){aB aA aF aM aa U Z aW:o3}{eF eM:Array GH}{nF nM:Nat}
  (gB:#[K,"BOXES"]=u_ (u_ (-aB))) (gA:#[K,"ASKING"]=u_ (u_ (-aA))) (gF:#[K,"FORMS"]=u_ (u_ (-aF))) (gM:#[K,"MAKERS"]=u_ (u_ (-aM)))
  (lB:TZ K aB BX) (lA:TZ K aA ["ask","has","names"]) (lF:K.lookup aF=u_ (.type "dict",U_,.dict eF nF,#[])) (lM:K.lookup aM=u_ (.type "dict",U_,.dict eM nM,#[]))
  (kF:PySem.W.KeysLit w.params eF.toList) (kM:PySem.W.KeysLit w.params eM.toList) (zF:(aF==Vy)=Vd) (zM:(aM==Vy)=Vd)
  (fF:∀x>FRM,TZn K aF x.1 (x.2.map Kd.t)) (fM:∀p>MKP,∃m,PySem.W.nsIn K VA p.2=u_ (u_ (-m))/\PySem.W.nsIn K aM p.1=u_ (u_ (-m))) (oM:∀z>Acb,PySem.W.nsIn K aM z=u_ U_)
  (kk:eF.toList.map AbI=FRM.map λx=>u_ x.1)
  (g1:#[K,"BadRule"]=u_ (u_ (-aa))) (b1:PySem.W.excIn K aa VE "ValueError.__new__"=v_)
  (g2:#[K,"BadName"]=u_ (u_ (-U))) (b2:PySem.W.excIn K U VE "ValueError.__new__"=v_)
  (g3:#[K,"BadAnswer"]=u_ (u_ (-Z)))
  (e3:PySem.W.exmOne K (-Z) (-Z)=u_ v_)
  (gW:#[K,"WrightError"]=u_ (u_ (-aW)))
  (e2:PySem.W.exmOne K (-U) (-aW)=u_ v_) (x2:AwV.ExcCls K U):∃g,Fx K w mg g a:=by
 rw[_,(aB,aA,aF,aM,aa,U,Z,aW),(uS X G gB,uS X G gA,uS X G gF,uS X G gM,λH=>lB.sq (),λH=>lA.sq (),(zF,eF,nF,lF,kF),λx hx=>?_,(zM,eM,nM,lM,kM),mk1 X G (fM ("text","text_made") ()) T.lH.m,mk1 X G (fM ("self","self_made") ()) T.lJ.m,mk1 X G (fM ("copy","copy_made") ()) T.lS.m,mk1 X G (fM ("row","row_made") ()) T.l8.m,mk1 X G (fM ("put","put_made") ()) T.me.m,mk1 X G (fM ("join","join_made") ()) T.lO.m,mk1 X G (fM ("first","first_made") ()) T.lm.m,mk1 X G (fM ("rest","rest_made") ()) T.lL.m,mk1 X G (fM ("size","size_made") ()) T.lI.m,mk1 X G (fM ("cut","cut_made") ()) T.mf.m,mk1 X G (fM ("glue","glue_made") ()) T.lR.m,oM,λz hz=>KR lF kk hz,uS X G g1,b1,uS X G g2,b2,uS X G g3,e3,uS X G gW,e2,x2)]
 erw[fF x hx,q,h1,h2,<-⟨q,h1,λH=>by rw[Zf];exact h2.sq (by rw[u7];exact uY (BR x hx) ())⟩]
end K42
open PySem PySem.W PyProof.Rows L2
set_option maxRecDepth 100000 in
set_option maxHeartbeats 0 in
theorem PySem.Challenge.cw_askwright_k42_first_wrong_told_holds : PySem.Challenge.rw_askwright_k42_first_wrong_told.Holds := by
 w_on;o_law;k_head;(case hw=>w_witness2)
 k_fill
 refine L2.IP (l:=PySem.Challenge.rw_askwright_k42_first_wrong_told) (n:=63) (k:=18) (x:="script") (CX:=L2.CX0) (sp:=K42.MN) rfl (by decide) rfl ⟨rfl,by decide,by decide⟩ (fun w h Y=>PySem.W.kIn_of Y) ?F ?S ?C
 case F=>
  intro w mg fa h KX G hmg
  let T:∃a,K42.Tx (L2.KOf KX) mg a:=by
   try dsimp only [L2.KOf]
   refine' K42.AcE KX G ..
   all_goals first|exact(by k_is,_,_,_,_,_,_,_,_,_,by k_is,by k_is,by k_is)|exact(by k_is,by k_is,_,_,_,_,_,_,_,_,_,by k_is,by k_is,by k_is)|(show _=_;k_is)|exact(by k_is,by k_is,by k_is,by k_is)|exact⟨by k_is,by k_is⟩|(intro x hx;simp only [uF,uX,uR] at hx;rcases hx with rfl|rfl|rfl|rfl|rfl|rfl|rfl|rfl|rfl|rfl|rfl|rfl|rfl|rfl|rfl|rfl|rfl<;>k_is)|skip
  erw[T,a,T]
  let C:∃g,K42.Fx (L2.KOf KX) w mg g a:=by
   try dsimp only [L2.KOf] at T⊢
   refine' K42.Adm T KX G (kF:= ?kF) (kM:= ?kM) (fF:= ?fF) (fM:= ?fM) (oM:= ?oM) (kk:= ?kk) (b1:= ?b1) (b2:= ?b2) (e3:= ?e3) (e2:= ?e2) (x2:= ?x2) ..
   all_goals try (first|(show _=u_ (u_ _);k_is)|(show _=u_ (Obj.mk _ _ _ _);k_is)|exact(_,_,_,_,by k_is,rfl))
   (case kF=>(repeat (first|exact trivial|refine[⟨_,_,rfl,rfl⟩:?_])));(case kM=>(repeat (first|exact trivial|refine[(_,_,rfl,rfl):?_])))
   case fF=>
    intro x hx
    unfold FRM at hx
    simp only [uF,uX,uR] at hx
    rcases hx with rfl|rfl|rfl|rfl|rfl|rfl|rfl|rfl|rfl|rfl|rfl|rfl|rfl|rfl|rfl|rfl|rfl|rfl|rfl|rfl<;>exact(_,by k_is,_,_,_,_,by k_is,rfl)
   case fM=>
    intro x hx
    unfold K42.MKP at hx
    simp only [uF,uX,uR] at hx
    rcases hx with rfl|rfl|rfl|rfl|rfl|rfl|rfl|rfl|rfl|rfl|rfl<;>exact⟨_,by k_is,by k_is⟩
   case oM=>
    intro x hx
    unfold K42.Acb at hx
    simp only [uF,uX,uR] at hx
    rcases hx with rfl|rfl|rfl|rfl|rfl|rfl|rfl|rfl|rfl<;>k_is
   (case kk=>rfl);(case b1=>k_exc);(case b2=>k_exc);(case e3=>kts_exm);(case e2=>kts_exm);(case x2=>exact(by k_is,by k_is,by k_is,by k_is,by k_is,by k_is,by k_is))
   all_goals rfl
  erw[C,g,C]
  let e0:=hmg.symm.trans T.BP.m
  rw[e0,0]
  exact(_,T.BP.law (fun _ _ _ _ _ _ _=>rfl),(by erw[T.BP.F.ex,_,_,_,_,_,_,_,_,_,e,_];rw [e];rfl),fun base kb nb=>K42.Abm T C)
 case S=>exact fun w H a ns hl hO hS=>(a,ns,rfl,hS,hl,fun _=>rfl)
 case C=>exact fun _ _ _ _ z=>z
